import PyProof.Rows.All
import Wide.All
import OpenK.AllK
import Wide.FinOn
import Lean
import PyProof.EqAt
import PyProof.EqKinds
import PyProof.TupleCall
import PyProof.FactsAll.zip_0
import PyProof.FactsAll.zip_1
import KE.KDictOf
import PySem.Challenge.RW_sunstore_k94_whole_long_days_without_a_s
set_option compiler.extract_closed false
set_option linter.all false
theorem a3j{p:Prop}(h:p:=by rfl):p:=h
def t8:=a3j._auto_1
theorem a3k{p:Prop}(h:p:=by intro _;rfl):p:=h
def X0:=a3k._auto_1
theorem a1L{p:Prop}(h:p:=by intro _ _;rfl):p:=h
def vH:=a1L._auto_1
theorem a3l{p:Prop}(h:p:=by first|exact .inl rfl|exact .inr rfl|assumption):p:=h
def dR:=a3l._auto_1
theorem f5{p:Prop}(h:p:=by decide):p:=h
def H0:=f5._auto_1
theorem u3{p:Prop}(h:p:=by lia):p:=h
theorem A9{p:Prop}(h:p:=by decide +kernel):p:=h
theorem B9{p:Prop}(h:p:=by simp):p:=h
theorem v5{p:Prop}(h:p:=by assumption):p:=h
def oE:=v5._auto_1
theorem U1{p:Prop}(h:p:=by omega):p:=h
theorem B4{p:Prop}(h:p:=by simp[*]):p:=h
theorem nt{p:Prop}(h:p:=by contradiction):p:=h
theorem F7{p:Prop}(h:p:=by repeat constructor):p:=h
theorem nE{α:Type u}{x:α}{p:Prop}(h:none=some x):p:=nomatch h
theorem nS{α:Type u}{x:α}{p:Prop}(h:some x=none):p:=nomatch h
theorem nT{p:Prop}(h:false=true):p:=nomatch h
theorem nF{p:Prop}(h:true=false):p:=nomatch h
theorem t4{d c:Type}{o:Option d}{f:d->Option c}{b:c}(h:o.bind f=some b):∃a,o=some a/\f a=some b:=Option.bind_eq_some_iff.1 h
theorem J9{p:Prop}[Decidable p]{d:Type}{o:Option d}{b:d}(h:(if p then o else none)=some b):p/\o=some b:=by
 split at h;exact⟨‹_›,h⟩;exact nE h
set_option Elab.async false
set_option maxRecDepth 100000
set_option maxHeartbeats 4000000
set_option backward.match.sparseCases false
set_option bootstrap.genMatcherCode false
set_option compiler.reuse false
set_option tactic.hygienic false
noncomputable section
open PySem renaming PyData->f7,wpAny_bind->u7,Value->t5,starEach->w4,Shared->v7,wpAny_pure->A3,sizeLine->F0,backTo->H9,World->E3,attributeBase->aU,Program->M3,foldedSetIterable->eM,wpAny_field->Z8,mainGlobals->aA,compareOp->X5,FuncData->U5,wpAny_callSpecial?_slot->nu,bootBuiltins->eL,wpAny_holding->gr,keywordEach->eJ,swapsWith->cw,wpAny_call_entry->lq,wpAny_seqItems->fU,mem_of_lookup->mE,wpAny_mono->cu,wpAny_truthy_bool->mC,binaryOp->aK,IsPair->V4,wpAny_setField_rec->pe,backToKw->cq,wpAny_newObj_type->oY,cLine->S7,Around->Z0,Keyword->aZ,rawInt->af,wpAny_Call_Name_kw->rm,wpAny_passesOwn->oU,assignEach->hE,standAt->dS,cellsFrom->hB,sizeLine_eq->mi,getMethod->jQ,call_meets->me,ZipApart->gZ,behindInMarks->qW,wpAny_attempt->qV,sliceBounds->oM,getItem->gX,wpAny_rule->oK,wpAny_nextOf_list_item->Gg,swapsWithSole->uD,swappedStores->uC,NameKind->ma,tupleKind->oJ,notedBy->jO,Scope->eV,sysModules->qQ,wpAny_execs_nil->yZ,IsPart->gW,wpAny_typeOf->uw,wpAny_updateSeq_pair->FZ,BindsTo->lY,callerA->lX,pushCells->qP,wpAny_onRaise->yS,wpAny_pyIter_list->FI,typeLookup->um,codeAny_mono->yR,concat_meets->yQ,noFill_tuple_add->FH,wpAny_isInstance->FF,wpAny_pyIter_zip->FE,PassesOwn->uk,letOwnedTupleGo->Fy,codeAny_builtin->Fm,pyNext->oH,valueAt->qO,wpAny_nextOf_list_end->PB,wpAny_newTuple->Fd,isSubtype_stop->EZ,builtinLookup_eq_fast->Px,compEnvC->uj,compPost->ui,natAbs_fdiv_le->Pp,wpAny_pyIter_revIter->Pk,wpAny_standAt->EX,seq_tuple_add->EV,plainId_quiet->EU,Within->ER,seqIndex_neg->EN,call->ED
open Option renaming some->U,none->J,bind_some->z9,map_some->qX,map_eq_some_iff->Gf,bind->yI,getD_none->ON
open PySem.W renaming Frag->y7,findIn->bq,keepIn->hP,emptyDict->mB,nsIn->fR,instObj->mw,fnOf->hH,kia_one->oT,kitOne->oS,hasDictIn->uJ,plainGet->uG,KasT->qT,any_some->ze,isFn->uA,looks_findIn->Ga,plainGet_of->FY,lookIn->yX,InstAt->yW,codeIn->yV,callWith_K->FU,plainOver->FL,specialIn->FK,takerIn->Fw,makesIn->Fs,OpenLaw->Fp,findObj->Fn,cellsFrom_some->PR,methodCall_KW->PH,mroIn->EW,mg_of->ES,handedIn->OP,kas_sort->OK,takesIn->OB,kas_rev->Ox
open List renaming mem_cons_of_mem->C4,mem_cons_self->C9,getElem?_eq_getElem->K7,replicate->C2,map_cons->C6,length_map->E7,mem_append_right->L9,range->C8,getElem?_map->O1,mem_append_left->U7,size_toArray->W0,length_append->aa,length_cons->X9,mem_cons->T4,getD_eq_getElem?_getD->iz,cons_append->bx,getElem?_append_left->iy,not_mem_nil->cz,append_nil->bw,nil_append->bu,map_append->cy,getElem?_set_ne->ix,getElem?_append_right->ny,set_cons_zero->jJ,zip_cons_cons->lr,range_succ->iw,map_map->fz,getElem?_cons_succ->sq,drop_eq_getElem_cons->rq,mem_of_getElem?->pq,length_nil->jV,mem_append->jU,getElem?_range->ph,length_replicate->ro,lookup->fQ,zipWith->hF,lookup_cons->oV,getElem?_set_self->uN,getElem?_eq_none->uM,length_range->rj,getElem_mem->rd,ext_getElem->ra,getElem_map->qZ,flatMap_append->uK,length->mh,map_nil->oP,length_take->uF,filterMap_cons->zq,map_congr_left->zo,mem_filterMap->zl,getElem?_replicate->Gk,reverse_cons->zk,getElem?_set->zh,append_assoc->zg,flatMap_cons->zf,drop_of_length_le->Ge,flatMap_nil->za,length_singleton->Gd,length_reverse->FX,set_cons_succ->FP,getElem_range->FN,length_drop->FG,drop_length->FC,getElem_set->FA,nodup_range->Fz,getElem?_cons_zero->PZ,of_mem_zip->Fq,foldl_cons->Fj,range_succ_eq_map->PL,take_of_length_le->PK,getElem?_zipWith->Pz,length_filter_le->Pw,getElem?_append->Po,range_eq_range'->Pn,mem_of_mem_take->Pj,length_zipWith->Pd,zip_nil_right->OZ,mem_replicate->OX,reverse->EM,map_replicate->OW,findIdx?_cons->OV,foldl_append->OS,getElem_inj->OQ,range'_succ->OL,mem_flatMap->OJ,take_length->OI,filter_cons->OC,length_set->OA,forIn_cons->Oz,nodup_cons->Ow,mem_filter->Ov,find?_cons->Ou,map_const'->Ot
open PySem.Heap renaming get?_push_of_some->L6,lt_size->G8,get?_push_size->W2,size_push->iu,SameBut->oR,get?_update_other->PN,get?_update_self->PD,get?_none_of_le->Pu
open Nat renaming le_trans->C3,lt_of_lt_of_le->M8,ne_of_lt->R8,lt_irrefl->aB,le_refl->X6,le_of_lt->fA,le_add_right->jW,mul_le_mul_right->pj,ne_of_gt->fS,zero_le->eX,le_of_not_lt->mz,lt_of_le_of_lt->pd,lt_of_le_of_ne->pa,not_lt_zero->mm,lt_succ_of_lt->oZ,le_of_lt_succ->ri,lt_succ_self->rh,le_succ_of_le->uI,le_of_eq->oQ,add_comm->qU,zero_add->qS,succ_le_succ->zc,coprime_comm->zb,mul_comm->uu,add_le_add->yU,mul_le_mul->yT,lt_of_lt_of_eq->FT,add_right_comm->FR,lt_trans->yP,le_succ->yJ,Coprime->yH,le_add_left_of_le->PJ,sub_succ_lt_self->Pr,pow_le_pow_right->Pq,add_le_add_right->Ph,pow_lt_pow_right->Pf,mul_assoc->ET,lt_or_ge->EL,pow_succ->EK,lt_of_succ_lt->OR,pow_pos->EG,min_le_right->OO,succ_lt_succ->OM,mul_mod_left->OH,mod_eq_of_lt->OG,div_eq_of_lt->OF,lt_add_right->OE,sub_le->EE
open Nat.le renaming refl->F3
open Int renaming mul_comm->K8,fdiv_eq_ediv_of_nonneg->cS,mul_assoc->P7,mul_pos->M7,gcd->E4,mul_le_mul_of_nonneg_right->jM,mul_le_mul_of_nonneg_left->jL,le_of_lt->U6,mul_zero->V9,zero_add->X7,mul_ediv_cancel_left->jK,mul_nonpos_of_nonneg_of_nonpos->sr,natAbs_mul->dH,toNat_natCast->gw,zero_mul->cR,le_trans->cQ,one_mul->dF,le_of_dvd->gq,gcd_pos_of_ne_zero_right->vI,dvd_refl->dV,fmod_nonneg_of_pos->pw,gcd_dvd_right->jX,lt_or_le->eY,mul_nonneg->hJ,eq_of_mul_eq_mul_right->uQ,dvd_trans->hI,gcd_dvd_left->my,gcd_ediv_gcd_ediv_gcd->uO,natAbs_of_nonneg->rn,mul_left_comm->oW,fmod_lt_of_pos->rk,eq_of_mul_eq_mul_left->zx,le_of_mul_le_mul_left->zw,mul_neg_of_neg_of_pos->zv,mul_add->jT,le_refl->jS,le_total->mj,mul_one->oN,ediv_mul_cancel->zp,le_antisymm->uE,add_zero->qR,mul_nonpos_of_nonpos_of_nonneg->Qr,sub_zero->ur,natCast_nonneg->FW,lt_or_eq_of_le->FQ,ediv_pos_of_pos_of_dvd->Qj,gcd_comm->yN,mul_fdiv_cancel_left->Qc,dvd_mul_of_dvd_left->PY,neg_mul->yG,mul_le_mul->EY,mul_ediv_cancel->Pc,add_mul->EH
open Option.some renaming inj->X8,injEq->OT
open Bool renaming true->Uf,false->U',false_ne_true->dI,false_eq_true->mD,and_eq_true->rf,eq_iff_iff->qY,false_and->Ff,or_eq_false_iff->Pg,not_eq_true'->OU,or_eq_true->Oy
open Rat renaming intCast_sub->br,intCast_mul->fB,mul_pos->eI,le_refl->cU,intCast_add->hU,mul_zero->oO,intCast_neg->yY,mul_le_mul_of_nonneg_right->Qq,mul_le_mul_of_nonneg_left->Qp,mul_lt_mul_of_pos_right->Qm,le_of_lt->yM,zero_mul->yL,div_def->EF
open PySem.PyData renaming eqv->V8,canLayAll0->gu,int->Z7,tuple->dG,canLay0->fT,list->mf,eqvAll->uB,depthAll->Fg,strOk->EJ,depth->EI
open PySem.SeqAt renaming shaped->aT,canLay_of_shaped->zr,list_indexAt->Qd
open PySem.NameKind renaming cell->cx,free->eZ
open PyProof.Rows renaming callWith_type1->pX,slot_tuple_getitem->zB,IntsAre->aJ,envOfC->fP,AllBare->jP,seqObj->jN,IsTup->gU,subscriptTail_builtinR->PQ
open PySem.Value renaming ref->ba,none->uq,bool->uo,type->yF,int->yE,str->yD
open True renaming intro->cT
open PySem.F renaming plainAttrs_list->rp,slot_zip_next->mq,slot_tuple_iterator_next->zA,slot_list_index->zt,args_tuple_add_2->Gn,entry_tuple_add->Gj,args_zip_next_1->zj,slot_tuple_add->Gi,entry_zip_next->zd,slot_dict_get->Gb,args_tuple_iterator_next_1->Qo,entry_tuple_iterator_next->Qn,args_list_index_2->Qh,slot_list_append->Qg,type_list_append->Qf,entry_list_index->Qe,args_dict_get_3->Qb,type_list_index->Qa,entry_dict_get->PM,slot_enumerate_next->Py
open False renaming elim->dU
open Classical renaming byContradiction->uP,propDecidable->zu,axiomOfChoice->PU
open ForInStep renaming yield->mr
open PySem.Builtin.Slice renaming slicePlaces->zz,sliceAdjust->Qi
open PySem.Builtin.SmallTypes renaming nextOf->zy
open Array renaming length_toList->uL,append_assoc->Pa
open PySem.Obj renaming mapSeq->jR,data_mapFields->OY
open PySem.Str renaming empty->md
open PySem.Calls renaming spliced_cons->zm,callWith_builtin->Gh,Name_function_global->Ql,spliced_nil->FJ,evalArgs_plain->Pt
open PySem.Builtin.List renaming listTooLong->Gm
open Sum renaming inr->gY,inl->oI
open Ne renaming symm->lZ
open PySem.Builtin.Tuple renaming tupleItemsOf->Qk
open Nat.succ renaming inj->yO
open PySem.Heap.SameBut renaming update->Pe
open PySem.Around renaming under->EO
open PySem.PassesOwn renaming never->Oq
open PyProof.Rows.IsTup renaming new->EC
theorem M4{a b:Int}(h:autoParam (b<a) oE):a≠b:=Int.ne_of_gt h
theorem dO{a b:Int}(h:autoParam (a<b) oE):a<=b:=U6 h
theorem eS{a b:Nat}(h:autoParam (a<b) oE):a<b+1:=oZ h
theorem el{a b:Nat}(h:autoParam (a<b) oE):a<=b:=fA h
theorem pJ{a b c:Nat}(h:autoParam (a<=b) oE):a<=c+b:=PJ h
theorem xT{a b c:Nat}(h:autoParam (a+b<=c) oE):a<=c:=C3 (jW _ _) h
theorem Dl{a b c:Nat}(h:autoParam (b+a<=c) oE):a<=c:=C3 (Nat.le_add_left _ _) h
abbrev s9:=@if_neg
abbrev t2:=@if_pos
abbrev D3:=@congrArg
abbrev Z9:=@decide_eq_false
abbrev iq:=@decide_eq_true
abbrev V5:=@if_true
abbrev ag:=@or_false
abbrev oX:=@of_decide_eq_true
abbrev uH:=@decide_eq_true_eq
open List (mem_range mem_map mem_singleton)
namespace L2
open PySem PySem.Spec PyProof.Rows
variable{c:v7}{d:List (Addr×Obj)}{e B:Addr}{o Z:Expr}{p S:Pos}{h a2:Heap}{m:Str}{k:Nat}{A:Z0}{q:t5->v7->Prop}{D:t5}{y:M3}{z:List t5}{G:List Expr}{L:List Addr}{N:List Str}{O:y7}{a7:E3}{a8:Str->Option t5}{b3:U5}{b6:Obj}{b7:List Stmt}{b9:Unit->v7->Prop}{c6:t5->t5->Sem t5}{c8:Model}{c9:Bool}{d5:CmpOp}{d6:Sem Bool}{d9:Type}{e8:Stmt}{e9:List (Str×t5)}{g8:eV}{h8:Array GenState}{i0:Int->Int->Int}{i3:t5×List t5->v7->Prop}{i4:Option t5}{i5:List Env}
abbrev hz(s:v7):Nat:=s.heap.objs.size
abbrev Key:=Sum Int Str
def vt:Key->t5->Bool
 | .inl k,v=>Value.isInt k v
 | .inr x,v=>Value.isStrOf x v
def a4y(w:E3):Key->Int
 | .inl k=>hashInt k
 | .inr x=>hashStr w x
def az:∀{k:Key} {v:t5},vt k v=Uf->(∃i t,k=oI i/\v=yE i t)\/(∃x t,k=gY x/\v=yD x t)
 | .inl i,v,h=>by obtain⟨t,e⟩:=Value.isInt_shape h;exact .inl ⟨i,t,rfl,e⟩
 | .inr x,v,h=>by obtain⟨t,e⟩:=Value.isStrOf_shape h;exact .inr ⟨x,t,rfl,e⟩
def Nc(i:Int)(t:Tok):vt (.inl i) (.int i t)=Uf:=by simp[vt,Value.isInt]
def Nb(x:Str)(t:Tok):vt (.inr x) (.str x t)=Uf:=by simp[vt,Value.isStrOf]
def a1h(a b:Int):decide ((oI a:Key)=oI b)=(a==b):=by
 by_cases e:a=b;subst e;simp;have h:¬(oI a:Key)=oI b:=λq=>e (Sum.inl.inj q);rw[Z9 h];exact(beq_eq_false_iff_ne.mpr e).symm
def a1e(a b:Str):decide ((gY a:Key)=gY b)=decide (a=b):=by
 by_cases e:a=b;subst e;simp;have h:¬(gY a:Key)=gY b:=λq=>e (Sum.inr.inj q);rw[Z9 h,Z9 e]
def a1g(a:Int)(b:Str):decide ((oI a:Key)=gY b)=U':=Z9 (λq=>nomatch q)
def a1f(a:Str)(b:Int):decide ((gY a:Key)=oI b)=U':=Z9 (λq=>nomatch q)
def aQ(prog:M3)(w:E3):PySem.KeyKind prog w Key where
 is:=vt
 hash:=a4y w
 inj:=λv a b ha hb=>by
  rcases az ha with ⟨i,t,rfl,rfl⟩|⟨x,t,rfl,rfl⟩
  . rcases az hb with ⟨j,u,rfl,e⟩|⟨y,u,rfl,e⟩
    . injection e with e1 _;rw[e1]
    exact nomatch e
  . rcases az hb with ⟨j,u,rfl,e⟩|⟨y,u,rfl,e⟩
    exact nomatch e
    . injection e with e1 _;rw[e1]
 byValue:=λk v h=>by rcases az h with ⟨i,t,rfl,rfl⟩|⟨x,t,rfl,rfl⟩<;>rfl
 pyHash:=λhv h=>by
  rcases az hv with ⟨i,t,rfl,rfl⟩|⟨x,t,rfl,rfl⟩
  exact wpAny_pyHash_int h;exact wpAny_pyHash_str h
 eqBool:=λhu hv h=>by
  rcases az hu with ⟨i,t,rfl,rfl⟩|⟨x,t,rfl,rfl⟩
  . rcases az hv with ⟨j,u,rfl,rfl⟩|⟨y,u,rfl,rfl⟩
    rw[a1h]at h;exact wpAny_eqBool_int h;rw[a1g]at h;exact SeqAt.EqAt.int_str i t y u _ _ _ _ h
  . rcases az hv with ⟨j,u,rfl,rfl⟩|⟨y,u,rfl,rfl⟩
    rw[a1f]at h;exact SeqAt.EqAt.str_int x t j u _ _ _ _ h;rw[a1e]at h;exact wpAny_eqBool_str h
 «strs»:=λk x t v h=>by
  rcases az h with ⟨i,u,rfl,e⟩|⟨y,u,rfl,e⟩
  exact nomatch e
  . injection e with e1 _
    subst e1;cases v<;>rfl
def GP(prog:M3)(w:E3)(i:Int)(t:Tok):(aQ prog w).is (.inl i) (.int i t)=Uf:=Nc i t
def GO(prog:M3)(w:E3)(x:Str)(t:Tok):(aQ prog w).is (.inr x) (.str x t)=Uf:=Nb x t
inductive V where
 |non|bl (b:Bool)|int (i:Int)|str (x:Str)|byt (b:Array UInt8)|flt (b:UInt64)|ref (a:Addr)|ty (n:String)
 deriving DecidableEq
variable{l:List (Option V)}{r:List V}{M:V}{d8:List (Str×V)}
def RelV:V->t5->Prop
 | .non,u=>u=uq
 | .bl b,u=>u=uo b
 | .int i,u=>∃t,u=yE i t
 | .str x,u=>∃t,u=yD x t
 | .byt b,u=>∃t,u=Value.bytes b t
 | .flt b,u=>∃t,u=Value.float b t
 | .ref a,u=>u=ba a
 | .ty n,u=>u=yF n
abbrev Vals:List V->List t5->Prop:=Paired RelV
theorem Vals.length(a:Vals r z):r.length=z.length:=Paired.length a
theorem Vals.get:∀{xs:List V} {us:List t5} {i:Nat} {x:V},Vals xs us->xs[i]? = U x->∃u,us[i]? = U u/\RelV x u
 |_,_,_,_,.nil,e=>by simp at e
 |_,_,0,_,.cons r _,e=>by simp at e;subst e;exact⟨_,rfl,r⟩
 |_,_,i+1,x,.cons _ t,e=>by
  obtain⟨u,b,a⟩:=Vals.get t (by simpa using e);exact⟨u,by simpa using b,a⟩
theorem Vals.set{x:V}{u:t5}(r:RelV x u):∀{xs:List V} {us:List t5} (i:Nat),Vals xs us->Vals (xs.set i x) (us.set i u)
 |_,_,_,.nil=>.nil
 |_,_,0,.cons _ t=>.cons r t
 |_,_,i+1,.cons q t=>.cons q (Vals.set r i t)
def Vals.append{ys:List V}{ws:List t5}(h:Vals r z)(s:Vals ys ws):Vals (r++ys) (z++ws):=by
 induction h with
 |nil=>exact s
 |cons a t i=>exact .cons a i
theorem Vals.take:∀{xs:List V} {us:List t5} (n:Nat),Vals xs us->Vals (xs.take n) (us.take n)
 |_,_,0,_=>.nil
 |_,_,_+1,.nil=>.nil
 |_,_,n+1,.cons r t=>.cons r (Vals.take n t)
theorem Vals.drop:∀{xs:List V} {us:List t5} (n:Nat),Vals xs us->Vals (xs.drop n) (us.drop n)
 |_,_,0,r=>r
 |_,_,_+1,.nil=>.nil
 |_,_,n+1,.cons _ t=>Vals.drop n t
def gM:Option V->Option t5->Prop
 |some v,U u=>RelV v u
 |none,J=>True
 |_,_=>False
def KV:List (d9×V)->List (d9×t5)->Prop:=Paired λ(p:d9×V) (q:d9×t5)=>p.1=q.1/\RelV p.2 q.2
noncomputable def kV:Key->V
 | .inl i=>.int i
 | .inr x=>.str x
inductive HO where
 |lst (xs:List V)
 |tup (xs:List V)
 |dK (kvs:List (Key×V))|dT (kvs:List (List Key×V))
 |set (S:Int->Bool) (n:Nat)
 |ins (C dx:Addr) (fs:List (Str×V))
 |own (x:Addr)
 |xd (fs:List (Str×V))
 |met (f x:Addr)
 |rng (lo hi:Int)
 |dP (o:Obj) (u:HO)
 |tbl (ps:Array t5)
 |ext (φ:Heap->Prop)
variable{I:HO}
abbrev Hp:=Addr->Option HO
variable{a:Hp}
def upd(H:Hp)(a:Addr)(o:HO):Hp:=λb=>if b=a then U o else H b
def O4:upd a e I e=U I:=by delta upd;rw[t2 rfl]
def J6(h:B≠e):upd a e I B=a B:=by delta upd;rw[s9 h]
def ay(h:a e=U I)(h':a B=J):e≠B:=by intro H;subst H;rw[h]at h';exact nS h'
section
variable(P:M3)(w:E3)
def X4(H:Hp)(h:Heap)(a:Addr):HO->Prop
 | .lst xs=>xs.length<=F0/\∃(its:List t5) (n:Nat),Vals xs its/\h.get? a=U {cls:=.type "list",data:=.seq its.toArray n}
 | .tup xs=>xs.length<=F0/\∃its:List t5,Vals xs its/\gU h a its.toArray
 | .dK kvs=>kvs.length<=F0/\(a==qQ)=U'/\∃vs,KV kvs vs/\h.DictOf (aQ P w) a vs
 | .dT kvs=>kvs.length<=F0/\(a==qQ)=U'/\∃xs:List (List Key×Addr×t5),
   Paired (λ(p:List Key×V) (q:List Key×Addr×t5)=>p.1=q.1/\H q.2.1=U (.tup (p.1.map kV))/\RelV p.2 q.2.2) kvs xs /\
   ∃o es ep,h.get? a=U o/\o.ExactDict/\o.data=.dict es ep/\es.toList=xs.map (entryOfKey (oJ (aQ P w)))/\(xs.map (·.1)).Nodup
 | .set S n=>h.SetOf (intKind P w) a S n
 | .ins C dx fs=>H dx=U (.own a)/\fs.length<=1000/\dx≠a/\h.get? a=U (mw C dx) /\
   ∃mA,h.Ns1 dx mA/\(∀f,gM (fs.lookup f) (mA f))/\ER mA (fs.map (·.1))
 | .own _=>∃o,h.get? a=U o
 | .xd fs=>∃mA,h.Ns1 a mA/\∀f,gM (fs.lookup f) (mA f)
 | .rng lo hi=>∃t u v,h.get? a=U {cls:=.type "range",data:=.fields #[.int lo t,.int hi u,.int 1 v]}
 | .dP o u=>h.get? a=U o/\X4 H h a u
 | .tbl ps=>h.get? a=U {cls:=.none,data:=.fields ps}
 | .met f x=>h.get? a=U (PySem.W.methodObj (.ref f) (.ref x))
 | .ext φ=>φ h/\(∃o,h.get? a=U o)/\∀h1 h2:Heap,φ h1->(∀o,h1.get? a=U o->h2.get? a=U o)->φ h2
def J2(H:Hp)(h:Heap):Prop:=∀a o,H a=U o->X4 P w H h a o
end
section
variable{w:E3}
theorem X4.lt{P:M3}{H:Hp}{h:Heap}{a:Addr}{o:HO}(x:X4 P w H h a o):a<h.objs.size:=by
 cases o with
 |lst c=>obtain⟨_,_,_,_,e⟩:=x;exact G8 e
 |tup c=>obtain⟨_,_,_,p⟩:=x;exact p.lt
 |dK b=>obtain⟨_,_,_,_,o,_,_,e,_⟩:=x;exact G8 e
 |dT b=>obtain⟨_,_,_,_,o,_,_,e,_⟩:=x;exact G8 e
 |set S n=>obtain⟨o,_,_,_,e,_⟩:=x;exact G8 e
 |ins C k fs=>obtain⟨_,_,_,e,_⟩:=x;exact G8 e
 |own y=>obtain⟨_,e⟩:=x;exact G8 e
 |xd fs=>obtain⟨_,⟨_,_,_,e,_⟩,_⟩:=x;exact G8 e
 |rng j d=>obtain⟨_,_,_,e⟩:=x;exact G8 e
 |dP i u=>obtain⟨e,_⟩:=x;exact G8 e
 |tbl g=>exact G8 (show h.get? a=U _ from x)
 |met f y=>exact G8 (show h.get? a=U _ from x)
 |ext φ=>obtain⟨_,⟨_,e⟩,_⟩:=x;exact G8 e
def Paired.a4u{e:Type}{F G:d9->e->Prop}{c:List d9}{l:List e}(h:Paired F c l)(f:∀a b,F a b->G a b):Paired G c l:=by
 induction h with
 |nil=>exact .nil
 |cons r t i=>exact .cons (f _ _ r) i
def X4.tw{H':Hp}(x:X4 y w a h e I)(k:∀b u,(b=e\/a b=U (.own e))->h.get? b=U u->a2.get? b=U u)(F:∀b,a b=U (.own e)->H' b=U (.own e))(E:∀b xs,a b=U (.tup xs)->H' b=U (.tup xs)):X4 y w H' a2 e I:=by
 induction I with
 |lst xs=>obtain⟨z,l,n,r,H⟩:=x;exact⟨z,l,n,r,k _ _ (.inl rfl) H⟩
 |tup xs=>obtain⟨z,l,r,g,H,c⟩:=x;exact⟨z,l,r,g,k _ _ (.inl rfl) H,c⟩
 |dK A=>obtain⟨z,P,G,r,g,i,j,H,c⟩:=x;exact⟨z,P,G,r,g,i,j,k _ _ (.inl rfl) H,c⟩
 |dT A =>
  obtain⟨z,P,xs,r,g,i,j,H,c⟩:=x;exact⟨z,P,xs,Paired.a4u r λp q z=>⟨z.1,E _ _ z.2.1,z.2.2⟩,g,i,j,k _ _ (.inl rfl) H,c⟩
 |set S n=>obtain⟨g,i,j,t,H,c⟩:=x;exact⟨g,i,j,t,k _ _ (.inl rfl) H,c⟩
 |ins C N fs =>
  obtain⟨d,z,ne,H,m,⟨s,i,j,o,c⟩,r⟩:=x;exact⟨F _ d,z,ne,k _ _ (.inl rfl) H,m,⟨s,i,j,k _ _ (.inr d) o,c⟩,r⟩
 |own P=>obtain⟨g,H⟩:=x;exact⟨g,k _ _ (.inl rfl) H⟩
 |xd fs=>obtain⟨m,⟨s,i,j,H,c⟩,r⟩:=x;exact⟨m,⟨s,i,j,k _ _ (.inl rfl) H,c⟩,r⟩
 |rng M K=>obtain⟨t,u,v,H⟩:=x;exact⟨t,u,v,k _ _ (.inl rfl) H⟩
 |dP g u D=>obtain⟨H,q⟩:=x;exact⟨k _ _ (.inl rfl) H,D q⟩
 |tbl L =>
  have H:=x;exact k e _ (.inl rfl) H
 |met f P =>
  have H:=x;exact k e _ (.inl rfl) H
 |ext φ=>obtain⟨p,⟨I,H⟩,B⟩:=x;exact⟨B _ _ p λI q=>k _ _ (.inl rfl) q,⟨I,k _ _ (.inl rfl) H⟩,B⟩
theorem J2.lt(x:J2 y w a h)(P:a e=U I):e<h.objs.size:=(x e I P).lt
def J2.fresh(x:J2 y w a h)(P:h.objs.size<=e):a e=J:=by
 cases q:a e with
 |none=>rfl
 |some u=>exact absurd (M8 (x.lt q) P) (aB _)
def J2.kept(x:J2 y w a h)(k:∀b u,h.get? b=U u->a2.get? b=U u):J2 y w a a2:=λP o e =>
 (x P o e).tw (λb u _ q=>k b u q) (λ_ q=>q) λ_ _ q=>q
def J2.laid{o:HO}(x:J2 y w a h)(k:∀b u,h.get? b=U u->a2.get? b=U u)(g:h.objs.size<=e)(new:X4 y w (upd a e o) a2 e o):J2 y w (upd a e o) a2:=λb u P=>by
 have d:=x.fresh g;by_cases f:b=e;subst f;rw[O4]at P;cases P;exact new
 . rw[J6 f]at P;exact(x b u P).tw (λc v _ q=>k c v q) (λc q=>by rw[J6 (ay q d)];exact q) λc i q=>by rw[J6 (ay q d)];exact q
end
def Rd(H:Hp)(a:Addr)(u:HO):Prop:=H a=U u\/∃o,H a=U (.dP o u)
def Rd.ok(r:Rd a e I)(x:J2 y a7 a h):X4 y a7 a h e I:=by
 rcases r with r|⟨o,r⟩
 exact x e I r;obtain⟨_,q⟩:=x e _ r;exact q
def VT:Option HO->Prop
 |some (.lst _)=>True
 |some (.dK _)=>True
 |some (.dT _)=>True
 |some (.set _ _)=>True
 |some (.ins _ _ _)=>True
 |some (.ext _)=>True
 |_=>False
section
variable{w:E3}
def J2.write(ok:J2 y w a h)(mu:VT (a B))(m:e=B\/a e=U (.own B))(k:∀b u,b≠e->h.get? b=U u->a2.get? b=U u)(l:∃u,a2.get? e=U u)(new:X4 y w (upd a B I) a2 B I):J2 y w (upd a B I) a2:=λb u q=>by
 have d:∀c P,a c=U (.own P)->c≠B:=λc P r z=>by subst z;rw[r]at mu;exact mu
 have f:∀c g,a c=U (.tup g)->c≠B:=λc g r z=>by subst z;rw[r]at mu;exact mu
 by_cases j:b=B;subst j;rw[O4]at q;cases q;exact new
 . rw[J6 j]at q;by_cases H:b=e
   . have n:a b=U (.own B):=by
       rcases m with z|z
       exact absurd (H.trans z) j;rw[H];exact z
     rw[q]at n;cases n;obtain⟨v,o⟩:=l;exact⟨v,by rw[H];exact o⟩
   . refine(ok b u q).tw (λc v i r=>k c v ?_ r) (λc r=>by rw[J6 (d c b r)];exact r) λc g r=>by rw[J6 (f c g r)];exact r
     rcases i with rfl|i
     exact H
     . rintro rfl;rcases m with z|z
       exact d c b i z;rw[i]at z;cases z;exact j rfl
end
structure Un(fs ex:List Addr)(H H':Hp)(h h':Heap):Prop where
 keep:∀b o,h.get? b=U o->H b=J->b∉fs->b∉ex->h'.get? b=U o
 slot:∀b o,h.get? b=U o->H b=J->b∈fs->b∉ex->∃sl,h'.get? b=U {o with slots:=sl}
 free:∀b o,h.get? b=U o->H b=J->b∉ex->H' b=J
 there:∀b o,h.get? b=U o->b∉ex->∃o',h'.get? b=U o'
 nV:∀b xs,H b=U (.tup xs)->H' b=U (.tup xs)
 mM:∀b o u,H b=U (.dP o u)->H' b=U (.dP o u)
 nX:∀b ps,H b=U (.tbl ps)->∃more,H' b=U (.tbl (ps++more))
def Un.any{ex:List Addr}{H1:Hp}(u:Un L ex a H1 h a2)(q:h.get? e=U b6)(n:a e=J)(c:e∉ex):∃d,a2.get? e=U {b6 with slots:=d}:=by
 by_cases H:e∈L;exact u.slot e b6 q n H c;exact⟨b6.slots,u.keep e b6 q n H c⟩
def Un.trans{ex:List Addr}{H1 H2:Hp}{h2:Heap}(H:Un L ex a H1 h a2)(b:Un L ex H1 H2 a2 h2):Un L ex a H2 h h2 where
 keep:=λc e q n i d=>b.keep c e (H.keep c e q n i d) (H.free c e q n d) i d
 slot:=λc e q n i d=>by obtain⟨p,f⟩:=H.slot c e q n i d;obtain⟨j,k⟩:=b.slot c _ f (H.free c e q n d) i d;exact⟨j,k⟩
 free:=λc e q n d=>by obtain⟨l,f⟩:=H.there c e q d;exact b.free c l f (H.free c e q n d) d
 there:=λc e q d=>by obtain⟨l,f⟩:=H.there c e q d;exact b.there c l f d
 nV:=λc g q=>b.nV c g (H.nV c g q)
 mM:=λc e g q=>b.mM c e g (H.mM c e g q)
 nX:=λc m q=>by obtain⟨m1,f⟩:=H.nX c m q;obtain⟨o,k⟩:=b.nX c _ f;exact⟨m1++o,by rw[k,Pa]⟩
def Un.kept{ex:List Addr}(k:∀b u,h.get? b=U u->a2.get? b=U u):Un L ex a a h a2:=
 ⟨λb H q _ _ _=>k b H q,λb H q _ _ _=>⟨H.slots,k b H q⟩,λ_ _ _ n _=>n,λb H q _=>⟨H,k b H q⟩,λ_ _ q=>q,λ_ _ _ q=>q,λ_ c q=>⟨#[],by rw[q];simp⟩⟩
def Un.refl{ex:List Addr}:Un L ex a a h h:=Un.kept λ_ _ q=>q
def Un.laid{ex:List Addr}{o:HO}(k:∀b u,h.get? b=U u->a2.get? b=U u)(H:h.objs.size<=e)(c:a e=J):Un L ex a (upd a e o) h a2 where
 keep:=λb u q _ _ _=>k b u q
 slot:=λb u q _ _ _=>⟨u.slots,k b u q⟩
 free:=λb u q n _=>by rw[J6 (R8 (M8 (G8 q) H))];exact n
 there:=λb u q _=>⟨u,k b u q⟩
 nV:=λb d q=>by rw[J6 (ay q c)];exact q
 mM:=λb u d q=>by rw[J6 (ay q c)];exact q
 nX:=λb f q=>⟨#[],by rw[J6 (ay q c),q];simp⟩
def Un.write{ex:List Addr}(mu:VT (a B))(i:e=B\/a e=U (.own B))(k:∀b u,b≠e->h.get? b=U u->a2.get? b=U u)(d:∃u,a2.get? e=U u):Un L ex a (upd a B I) h a2:=by
 have f:∀b,a b=J->b≠B:=λb n z=>by subst z;rw[n]at mu;exact mu
 have g:∀b,a b=J->b≠e:=λb n z=>by
  subst z;rcases i with r|r
  exact f b n r;rw[n]at r;exact nE r
 have c:∀b u,a b=U u->¬VT (U u)->b≠B:=λb u q j z=>by subst z;rw[q]at mu;exact j mu
 refine⟨λb u q n _ _=>k b u (g b n) q,λb u q n _ _=>⟨u.slots,k b u (g b n) q⟩,λb u q n _=>by rw[J6 (f b n)];exact n,λb u q _=>?_,
  λb l q=>by rw[J6 (c b _ q λz=>z)];exact q,λb u l q=>by rw[J6 (c b _ q λz=>z)];exact q,λb m q=>⟨#[],by rw[J6 (c b _ q λz=>z),q];simp⟩⟩
 by_cases H:b=e;subst H;exact d;exact⟨u,k b u H q⟩
def UZ(h:Heap)(H:Hp):List Addr:=(C8 h.objs.size).filter λa=>(H a).isSome
def tV(h:Heap)(H:Hp):Heap:=PySem.W.hideAll h (UZ h H)
def Nq(h:Heap)(H:Hp):(tV h H).objs.size=h.objs.size:=PySem.W.hideAll_size _ _
def TJ(b:h.get? e=U b6)(n:a e=J):(tV h a).get? e=U b6:=
 PySem.W.hideAll_get _ b λH=>by have q:=(List.mem_filter.mp H).2;rw[n]at q;simp at q
def XM(b:(tV h a).get? e=U b6):h.get? e=U b6/\a e=J:=by
 have H:=PySem.W.of_hideAll (UZ h a) b;refine⟨H,?_⟩;cases q:a e with
 |none=>rfl
 |some x =>
  have c:e∈UZ h a:=List.mem_filter.mpr ⟨mem_range.mpr (G8 H),by simp[q]⟩;have z:(tV h a).get? e=J:=PySem.W.hideAll_none (UZ h a) c;rw[z]at b;exact nE b
def YC(g h:Heap)(L:Addr):List (Addr×Obj):=(C8 h.objs.size).filterMap λa=>if a=L\/(g.get? a).isSome=Uf then J else(h.get? a).map λo=>(a,o)
def rest(g h:Heap)(L d:Addr):List (Addr×Obj):=(YC g h L).filter λp=>decide (p.1≠d)
structure Mod(K:y7)(mg:Str->Option t5)(base:Heap):Prop where
 Ia:K.In base
 glob:base.Ns aA mg
 blt:∃mb,base.Ns builtinsNs mb/\∀x:Str,x ≠ "__name__"->mb x=eL x
 nolimit:base.NoLimit
structure Cx where
 prog:M3
 w:E3
 K:y7
 mg:Str->Option t5
 base:Heap
 A:Z0
 N:List Str
 W6:v7
 E1:Hp
 env:Env
 outer:List Env
 stack:List Env
 ex:List Addr
 fn:Str->Bool
 calm:Bool
 pn:List (Addr×Obj)
 xe:t5->v7->Prop
variable{X:Cx}
def pP(l:List Env):List Addr:=l.filterMap (·.frame)
abbrev Cx.fs(X:Cx):List Addr:=pP X.outer
def VP(sc:eV)(x:Str):Prop:=sc.names.lookup x=U .local\/sc.names.lookup x=U .cell\/sc.names.lookup x=U .free
def Loc(sc:eV)(x:Str):Prop:=sc.names.lookup x=U .local\/sc.names.lookup x=U .cell
def Look(env:Env)(h:Heap)(m:Str->Option t5)(x:Str)(u:t5):Prop:=
 (env.kindOf x=U .local/\m x=U u)\/((env.kindOf x=U .cell\/env.kindOf x=U .free)/\∃c,env.cells.lookup x=U c/\h.IsCell c (U u))
structure Cx.Ok(X:Cx):Prop where
 mod:Mod X.K X.mg X.base
 kind:X.env.scope.kind=.function
 glob:X.env.globals=aA
 blt:X.env.builtins=builtinsNs
 above:X.W6.heap.objs.size<=X.env.locals
 inj:∀x y c,X.env.cells.lookup x=U c->X.env.cells.lookup y=U c->x=y
 has:∀x,(X.env.kindOf x=U .cell\/X.env.kindOf x=U .free)->∃c,X.env.cells.lookup x=U c
 IH:∀x c,X.fn x=Uf->X.env.cells.lookup x=U c->X.W6.heap.objs.size<=c
 hd:X.calm=Uf->X.A.handled=J
 frames:X.A.frames=U X.stack
 Ln:X.stack=X.outer\/(X.stack=X.env::X.outer/\X.env.frame=U X.env.locals)
 VE:∀b∈X.ex,b≠X.env.locals/\∀x c,X.env.cells.lookup x=U c->c≠b
 bs:∀b o,X.base.get? b=U o->X.W6.heap.get? b=U o/\X.E1 b=J
 sJ:X.base.objs.size<=X.W6.heap.objs.size
 wM:∀b o,X.base.get? b=U o->b∉X.ex
 Aw:∀b∈X.ex,b∉X.fs
 kJ:X.W6.heap.FunFrames X.base X.outer
 Bo:∀b∈X.fs,X.E1 b=J
structure Inv(X:Cx)(pins:List (Addr×Obj))(σ:List (Option V))(H:Hp)(s:v7):Prop where
 ok:X.Ok
 os:s.os=X.W6.os
 bare:jP s.gens
 base:Un X.fs X.ex X.E1 H X.W6.heap s.heap
 loc:∃m,s.heap.Ns X.env.locals m/\∀(i:Nat) (x:Str) (v:V),X.N[i]? = U x->σ[i]? = U (U v)->VP X.env.scope x->∃u,RelV v u/\Look X.env s.heap m x u
 cell:∀x c,X.env.cells.lookup x=U c->∃v,s.heap.IsCell c v
 free:H X.env.locals=J
 jC:∀x c,X.env.cells.lookup x=U c->H c=J
 pin:∀p∈X.pn++pins,s.heap.get? p.1=U p.2/\H p.1=J/\p.1≠X.env.locals/\p.1∉X.fs/\∀v,p.2.data≠.cell v
 J7:J2 X.prog X.w H s.heap
 len:σ.length=X.N.length
def Cx.Ok.a4r(ok:X.Ok)(b:X.base.get? e=U b6):e∉X.fs:=λa=>by have:=(ok.kJ.mem a).1;rw[b]at this;exact nS this
theorem Inv.bs(I:Inv X d l a c):∀b o,X.base.get? b=U o->c.heap.get? b=U o/\a b=J:=λb o e =>
 ⟨I.base.keep b o (I.ok.bs b o e).1 (I.ok.bs b o e).2 (I.ok.a4r e) (I.ok.wM b o e),I.base.free b o (I.ok.bs b o e).1 (I.ok.bs b o e).2 (I.ok.wM b o e)⟩
def Inv.bk(I:Inv X d l a c):∀b o,X.base.get? b=U o->c.heap.get? b=U o:=λb o e=>(I.bs b o e).1
theorem Inv.mod(I:Inv X d l a c):Mod X.K X.mg X.base:=I.ok.mod
def Inv.gP(I:Inv X d l a c):X.K.In c.heap:=I.ok.mod.Ia.keeps I.bk
def Inv.fr(I:Inv X d l a c):∃m,Fr X.base X.env.locals c.heap m:=
 let ⟨m,σ,_⟩:=I.loc
 ⟨m,σ,I.bk,C3 I.ok.sJ I.ok.above⟩
theorem Inv.lt(I:Inv X d l a c):X.env.locals<(hz c):=let ⟨_,σ,_⟩:=I.loc;σ.lt
def Inv.sz(I:Inv X d l a c):X.W6.heap.objs.size<=(hz c):=C3 I.ok.above (fA I.lt)
def Inv.SU(I:Inv X d l a c)(h:(hz c)<=e):e∉X.fs:=λb=>by obtain⟨_,o,σ,_⟩:=I.ok.kJ.mem b;exact absurd (M8 (G8 σ) (C3 I.sz h)) (aB _)
def Inv.El(I:Inv X d l a c):∀x s,X.env.cells.lookup x=U s->s≠X.env.locals:=λx s e z=>by obtain⟨v,o,f,σ⟩:=I.cell x s e;obtain⟨m,⟨i,g,h,H,b,_⟩,_⟩:=I.loc;rw[z,H]at f;cases f;rw[b]at σ;cases σ
theorem Inv.kJ{X:Cx}{pins:List (Addr×Obj)}{σ:List (Option V)}{H:Hp}{s:v7}(I:Inv X pins σ H s):s.heap.FunFrames X.base X.outer:=by
 have all:∀l,(∀b∈pP l,b∈X.fs)->X.W6.heap.FunFrames X.base l->s.heap.FunFrames X.base l:=by
  intro l;induction l with
  |nil=>intro _ _;trivial
  |cons j r i =>
   intro f n;obtain⟨p,⟨L,o,d,h,k,g⟩,m⟩:=n;have a:=f L (by delta pP;rw[zq,d];exact C9);obtain⟨q,e⟩:=I.base.slot L o k (I.ok.Bo L a) a λz=>I.ok.Aw L z a;exact⟨p,⟨L,_,d,h,e,g⟩,i (λb c=>f b (by delta pP;rw[zq,d];exact C4 _ c)) m⟩
 exact all X.outer (λ_ c=>c) I.ok.kJ
theorem Inv.stack(I:Inv X d l a c):c.heap.FunFrames X.base X.stack:=by
 rcases I.ok.Ln with e|⟨e,σ⟩
 rw[e];exact I.kJ;rw[e];obtain⟨m,b,_⟩:=I.loc;refine .cons (by rw[I.ok.kind];decide) σ b ?_ I.kJ;exact Pu (C3 I.ok.sJ I.ok.above)
def Inv.tq(I:Inv X d l a c):∀b∈pP X.stack,b∈X.env.locals::X.fs:=λb σ=>by
 rcases I.ok.Ln with e|⟨e,H⟩
 rw[e]at σ;exact C4 _ σ;rw[e]at σ;unfold pP at σ;rw[zq,H]at σ;exact σ
def Inv.Hi(I:Inv X d l a c):∀b∈pP X.stack,a b=J:=λb σ=>by
 rcases List.mem_cons.mp (I.tq b σ)with e | σ
 rw[e];exact I.free;obtain⟨_,o,H,_⟩:=I.ok.kJ.mem σ;exact I.base.free b o H (I.ok.Bo b σ) λz=>I.ok.Aw b z σ
def Inv.step{H':Hp}{t':Nat}{d':Drawn}{ch:List Addr}(I:Inv X d l a c)(g:∀b∈ch,(b∈X.ex\/X.W6.heap.objs.size<=b)/\b≠X.env.locals/\(∀x w,X.env.cells.lookup x=U w->w≠b)/\∀p∈X.pn++d,p.1≠b)(keep:∀b o,b≠X.env.locals->b∉X.fs->b∉ch->c.heap.get? b=U o->a b=J->h.get? b=U o)(slot:∀b o,b≠X.env.locals->b∈X.fs->b∉ch->c.heap.get? b=U o->a b=J->∃L,h.get? b=U {o with slots:=L})(free:∀b o,b∉ch->c.heap.get? b=U o->a b=J->H' b=J)(there:∀b o,b∉ch->c.heap.get? b=U o->∃D,h.get? b=U D)(nV:∀b xs,a b=U (.tup xs)->H' b=U (.tup xs))(mM:∀b o u,a b=U (.dP o u)->H' b=U (.dP o u))(nX:∀b E,a b=U (.tbl E)->∃more,H' b=U (.tbl (E++more)))(ns:∀m,c.heap.Ns X.env.locals m->h.Ns X.env.locals m)(K:J2 X.prog X.w H' h)(Q:jP h8):
  Inv X d l H' {c with heap:=h,gens:=h8,drawn:=d',toks:=t'}:=by
 have B:∀b o,X.W6.heap.get? b=U o->b≠X.env.locals:=λb o e=>R8 (M8 (G8 e) I.ok.above)
 have j:∀b o,X.W6.heap.get? b=U o->b∉X.ex->b∉ch:=λb o e s y=>by
  rcases(g b y).1 with z|z
  exact s z;exact absurd (M8 (G8 e) z) (aB _)
 have W:∀x w,X.env.cells.lookup x=U w->∀v,c.heap.IsCell w v->h.IsCell w v:=λx w e v ⟨o,A,F⟩=>by
  have f:=λz=>(g w z).2.2.1 x w e rfl;by_cases O:w∈X.fs;obtain⟨L,q⟩:=slot w o (I.El x w e) O f A (I.jC x w e);exact⟨_,q,F⟩;exact⟨o,keep w o (I.El x w e) O f A (I.jC x w e),F⟩
 refine⟨I.ok,I.os,Q,⟨λb o e n y s=>?_,λb o e n y s=>?_,λb o e n s=>?_,λb o e s=>?_,λb xs e=>nV b xs (I.base.nV b xs e),λb o xs e=>mM b o xs (I.base.mM b o xs e),λb E e=>?_⟩,?_,λx w e=>?_,?_,λx w e=>?_,λp N=>?_,K,I.len⟩;exact keep b o (B b o e) y (j b o e s) (I.base.keep b o e n y s) (I.base.free b o e n s);obtain⟨L,t⟩:=I.base.slot b o e n y s;obtain⟨G,C⟩:=slot b _ (B b o e) y (j b o e s) t (I.base.free b o e n s);exact⟨G,C⟩;obtain⟨D,t⟩:=I.base.there b o e s;exact free b D (j b o e s) t (I.base.free b o e n s);obtain⟨D,t⟩:=I.base.there b o e s;exact there b D (j b o e s) t;obtain⟨m1,t⟩:=I.base.nX b E e;obtain⟨T,C⟩:=nX b _ t;exact⟨m1++T,by rw[C,Pa]⟩
 . obtain⟨m,S,P⟩:=I.loc;refine⟨m,ns m S,λi x v t C R=>?_⟩
   obtain⟨u,r,H⟩:=P i x v t C R;refine⟨u,r,?_⟩;rcases H with H|⟨k,w,e,z⟩
   exact .inl H;exact .inr ⟨k,w,e,W x w e _ z⟩
 obtain⟨v,z⟩:=I.cell x w e;exact⟨v,W x w e v z⟩;obtain⟨m,⟨o,_,_,A,_⟩,_⟩:=I.loc;exact free _ o (λz=>(g _ z).2.1 rfl) A I.free;obtain⟨v,o,A,F⟩:=I.cell x w e;exact free w o (λz=>(g w z).2.2.1 x w e rfl) A (I.jC x w e);obtain⟨e,n,ne,M,σ⟩:=I.pin p N;have f:=λz=>(g p.1 z).2.2.2 p N rfl;exact⟨keep p.1 p.2 ne M f e n,free p.1 p.2 f e n,ne,M,σ⟩
def Inv.un{H':Hp}(I:Inv X d l a c)(u:Un X.fs [] a H' c.heap h)(w:J2 X.prog X.w H' h):Inv X d l H' {c with heap:=h,toks:=k}:=by
 obtain⟨m,⟨o,H,t,x,r⟩,_⟩:=id I.loc;obtain⟨p,y⟩:=u.any x I.free B9;exact I.step (ch:=[]) (λ_ z=>nomatch z) (λb o _ g _ e n=>u.keep b o e n g B9) (λb o _ g _ e n=>u.slot b o e n g B9) (λb o _ e n=>u.free b o e n B9) (λb o _ e=>u.there b o e B9) u.nV u.mM u.nX (λq i=>by obtain⟨v,σ,f,s,j⟩:=i;rw[x]at s;cases s;exact⟨_,σ,f,y,j⟩) w I.bare
def Inv.call{H':Hp}{d':Drawn}(I:Inv X d l a c)(u:Un (pP X.stack) L a H' c.heap h)(E:J2 X.prog X.w H' h)(v:jP h8)(f:∀b∈L,(b∈X.ex\/X.W6.heap.objs.size<=b)/\b≠X.env.locals/\(∀x w,X.env.cells.lookup x=U w->w≠b)/\∀p∈X.pn++d,p.1≠b):
  Inv X d l H' {c with heap:=h,gens:=h8,drawn:=d',toks:=k}:=by
 obtain⟨m,⟨o,y,B,F,r⟩,_⟩:=id I.loc;obtain⟨A,g⟩:=u.any F I.free λz=>(f _ z).2.1 rfl;exact I.step f (λb o g H s e n=>u.keep b o e n (λz=>(List.mem_cons.mp (I.tq b z)).elim g H) s) (λb o _ _ s e n=>u.any e n s) (λb o s e n=>u.free b o e n s) (λb o s e=>u.there b o e s) u.nV u.mM u.nX (λC q=>by obtain⟨D,j,i,σ,t⟩:=q;rw[F]at σ;cases σ;exact⟨_,j,i,g,t⟩) E v
def Inv.turned{s:v7}(I:Inv X d l a s)(E:∀b o,b≠e->s.heap.get? b=U o->h.get? b=U o)(g:a e=J)(f:e≠X.env.locals)(y:e∈X.ex\/X.W6.heap.objs.size<=e)(j:∀x c,X.env.cells.lookup x=U c->c≠e)(H:∀p∈X.pn++d,p.1≠e):Inv X d l a {s with heap:=h,toks:=k}:=by
 have σ:∀b u,a b=U u->b≠e:=λb u F z=>by rw[z,g]at F;exact nE F
 refine I.step (ch:=[e]) (λb A=>?_) (λb o _ _ C F _=>E b o (λz=>C (by simp[z])) F) (λb o _ _ C F _=>⟨o.slots,E b o (λz=>C (by simp[z])) F⟩) (λ_ _ _ _ n=>n)
  (λb o C F=>⟨o,E b o (λz=>C (by simp[z])) F⟩) (λ_ _ F=>F) (λ_ _ _ F=>F) (λb B F=>⟨#[],by rw[F];simp⟩) (λm w=>?_) (λb u F=>?_) I.bare
 . have F:b=e:=by simpa using A
   subst F;exact⟨y,f,j,H⟩
 obtain⟨o,D,t,i,r⟩:=w;exact⟨o,D,t,E _ o (lZ f) i,r⟩
 . refine(I.J7 b u F).tw (λc v C q=>E c v ?_ q) (λ_ q=>q) λ_ _ q=>q
   rcases C with z|z
   rw[z];exact σ b u F;exact σ c _ z
def Inv.tok(I:Inv X d l a c)(t:Nat):Inv X d l a {c with toks:=t}:=I.un Un.refl I.J7
theorem Inv.kept(I:Inv X d l a c)(σ:∀b u,c.heap.get? b=U u->h.get? b=U u):Inv X d l a {c with heap:=h,toks:=k}:=I.un (Un.kept σ) (I.J7.kept σ)
theorem Inv.laid{o:HO}{t':Nat}(I:Inv X d l a c)(k:∀b u,c.heap.get? b=U u->h.get? b=U u)(σ:(hz c)<=e)(new:X4 X.prog X.w (upd a e o) h e o):
  Inv X d l (upd a e o) {c with heap:=h,toks:=t'}:=I.un (Un.laid k σ (I.J7.fresh σ)) (I.J7.laid k σ new)
theorem Inv.write(s:Inv X d l a c)(mu:VT (a B))(H:e=B\/a e=U (.own B))(x:∀b u,b≠e->c.heap.get? b=U u->h.get? b=U u)(σ:∃u,h.get? e=U u)(new:X4 X.prog X.w (upd a B I) h B I):Inv X d l (upd a B I) {c with heap:=h,toks:=k}:=s.un (Un.write mu H x σ) (s.J7.write mu H x σ new)
def Inv.weak{H:List (Option V)}(I:Inv X d l a c)(g:H.length=l.length)(w:∀(i:Nat) v,H[i]? = U (U v)->l[i]? = U (U v)):Inv X d H a c:=
 ⟨I.ok,I.os,I.bare,I.base,let ⟨m,s,b⟩:=I.loc;⟨m,s,λi x v e f σ=>b i x v e (w i v f) σ⟩,I.cell,I.free,I.jC,I.pin,I.J7,g.trans I.len⟩
def Inv.kF{σ:List (Addr×Obj)}(I:Inv X d l a c)(h:∀p∈σ,c.heap.get? p.1=U p.2/\a p.1=J/\p.1≠X.env.locals/\p.1∉X.fs/\∀v,p.2.data≠.cell v):Inv X σ l a c:=
 ⟨I.ok,I.os,I.bare,I.base,I.loc,I.cell,I.free,I.jC,λp b=>(List.mem_append.mp b).elim (λz=>I.pin p (U7 _ z)) (h p),I.J7,I.len⟩
def Di(d:N.Nodup){j:Nat}(a:N[k]? = U m)(b:N[j]? = U m):k=j:=by obtain⟨g,c⟩:=List.getElem?_eq_some_iff.mp a;obtain⟨f,e⟩:=List.getElem?_eq_some_iff.mp b;exact(OQ d).mp (c.trans e.symm)
def Lk{v:V}(I:Inv X d l a c)(hN:X.N.Nodup)(hi:X.N[k]? = U m)(hx:Loc X.env.scope m)(r:RelV v D)(h:∀s',Inv X d (l.set k (U v)) a s'->(∃H,oR H c.heap s'.heap/\(H=X.env.locals\/X.env.cells.lookup m=U H))->b9 () s')(hf:autoParam (X.fn m=Uf\/X.env.scope.names.lookup m=U .local) dR):wpAny c8 A (storeName X.env m D) b9 q c:=by
 obtain⟨i,hn,hl⟩:=id I.loc;have hcls:(X.env.scope.kind==.class||(X.env.scope.kind==.module&&X.env.locals != X.env.globals))=U':=by rw[I.ok.kind];rfl
 have hiσ:k<l.length:=by rw[I.len];exact(List.getElem?_eq_some_iff.mp hi).1
 have El:=I.El;have tracked:∀{H:Addr} {h':Heap},(∃o,c.heap.get? H=U o/\a H=J)->oR H c.heap h'->J2 X.prog X.w a h':=λ{H h'} ha hs b ob e=>by
  obtain⟨_,_,hfree⟩:=ha;refine(I.J7 b ob e).tw (λs w' hc M=>(hs.2 s ?_).trans M) (λ_ M=>M) λ_ _ M=>M
  rintro rfl;rcases hc with rfl|hc
  rw[hfree]at e;exact nE e;rw[hfree]at hc;exact nE hc
 rcases hx with hk|hk
 . refine wpAny_storeName_local hk hn (λh' hn' hs=>?_) hcls;obtain⟨oL,_,_,hoL,_⟩:=id hn;refine h _ ⟨I.ok,I.os,I.bare,⟨λb o e n hb hx=>?_,λb o e n hb hx=>?_,I.base.free,λb o e hx=>?_,I.base.nV,I.base.mM,I.base.nX⟩,⟨_,hn',λj y v' e1 e2 e3=>?_⟩,λy s e=>?_,I.free,I.jC,λp hp=>?_,tracked ⟨oL,hoL,I.free⟩ hs,by simpa using I.len⟩ ⟨_,hs,.inl rfl⟩;exact(hs.2 b (R8 (M8 (G8 e) I.ok.above))).trans (I.base.keep b o e n hb hx);obtain⟨sl,e1⟩:=I.base.slot b o e n hb hx;exact⟨sl,(hs.2 b (R8 (M8 (G8 e) I.ok.above))).trans e1⟩;obtain⟨o',e1⟩:=I.base.there b o e hx;exact⟨o',(hs.2 b (R8 (M8 (G8 e) I.ok.above))).trans e1⟩
   . by_cases hj:j=k;subst hj;rw[hi]at e1;cases e1;rw[uN hiσ]at e2;cases e2;exact⟨D,r,.inl ⟨hk,by simp⟩⟩
     . rw[ix (lZ hj)]at e2;obtain⟨u',r',M⟩:=hl j y v' e1 e2 e3;refine⟨u',r',?_⟩;rcases M with ⟨E,e⟩|⟨E,s,e,z⟩
       refine .inl ⟨E,?_⟩;have:y≠m:=λe=>hj (Di hN e1 (e▸hi));simp[this,e];exact .inr ⟨E,s,e,z.sameBut hs (El y s e)⟩
   obtain⟨w',z⟩:=I.cell y s e;exact⟨w',z.sameBut hs (El y s e)⟩;obtain⟨e,n,ne,nf,σ⟩:=I.pin p hp;exact⟨(hs.2 p.1 ne).trans e,n,ne,nf,σ⟩
 . have hfn:X.fn m=Uf:=by
     rcases hf with z|z
     exact z;rw[z]at hk;cases hk
   obtain⟨s,hc⟩:=I.ok.has m (.inl hk);obtain⟨w',z⟩:=I.cell m s hc;refine wpAny_storeName_cell I.ok.kind hk hc z (λh' hc' hs=>?_);obtain⟨oc,hoc,hocd⟩:=id z;refine h {c with heap:=h'} ⟨I.ok,I.os,I.bare,⟨λb o e n hb hx=>?_,λb o e n hb hx=>?_,I.base.free,λb o e hx=>?_,I.base.nV,I.base.mM,I.base.nX⟩,⟨i,hn.sameBut hs (lZ (El m s hc)),λj y v' e1 e2 e3=>?_⟩,λy c' e=>?_,I.free,I.jC,λp hp=>?_,tracked ⟨oc,hoc,I.jC m s hc⟩ hs,by simpa using I.len⟩ ⟨s,hs,.inr hc⟩;exact(hs.2 b (R8 (M8 (G8 e) (I.ok.IH m s hfn hc)))).trans (I.base.keep b o e n hb hx);obtain⟨sl,e1⟩:=I.base.slot b o e n hb hx;exact⟨sl,(hs.2 b (R8 (M8 (G8 e) (I.ok.IH m s hfn hc)))).trans e1⟩;obtain⟨o',e1⟩:=I.base.there b o e hx;exact⟨o',(hs.2 b (R8 (M8 (G8 e) (I.ok.IH m s hfn hc)))).trans e1⟩
   . by_cases hj:j=k;subst hj;rw[hi]at e1;cases e1;rw[uN hiσ]at e2;cases e2;exact⟨D,r,.inr ⟨.inl hk,s,hc,hc'⟩⟩
     . rw[ix (lZ hj)]at e2;obtain⟨u',r',M⟩:=hl j y v' e1 e2 e3;refine⟨u',r',?_⟩;rcases M with M|⟨E,c',e,z'⟩
       exact .inl M;refine .inr ⟨E,c',e,z'.sameBut hs ?_⟩;rintro rfl;exact hj (Di hN e1 (I.ok.inj _ _ _ e hc▸hi))
   by_cases hcc:c'=s;subst hcc;exact⟨_,hc'⟩;obtain⟨w2,z2⟩:=I.cell y c' e;exact⟨w2,z2.sameBut hs hcc⟩;obtain⟨e,n,ne,nf,σ⟩:=I.pin p hp;refine⟨(hs.2 p.1 ?_).trans e,n,ne,nf,σ⟩;intro M;rw[M,hoc]at e;exact σ w' (by rw[<-(X8 e)];exact hocd)
def Ct{v:V}(I:Inv X d l a c)(s:X.N.Nodup)(H:X.N[k]? = U m)(b:Loc X.env.scope m)(r:RelV v D)(h:∀s',Inv X d (l.set k (U v)) a s'->b9 () s')(e:autoParam (X.fn m=Uf\/X.env.scope.names.lookup m=U .local) dR):wpAny c8 A (storeName X.env m D) b9 q c:=
 Lk I s H b r (λs' σ _=>h s' σ) e
def Inv.a3h{H':Hp}{s':v7}(I:Inv X d l a c)(f:s'.os=c.os)(u:Un (pP X.stack) L a H' c.heap s'.heap)(σ:J2 X.prog X.w H' s'.heap)(e:jP s'.gens)(H:∀b∈L,(b∈X.ex\/X.W6.heap.objs.size<=b)/\b≠X.env.locals/\(∀x s,X.env.cells.lookup x=U s->s≠b)/\∀p∈X.pn++d,p.1≠b):Inv X d l H' s':=by obtain⟨j,h,i,g,k⟩:=s';subst f;exact I.call u σ e H
abbrev XK:=t5->Option Addr->Hp->Prop
variable{b5:XK}
abbrev St:=List (Option V)
variable{n:St}
abbrev VK:=V->Hp->Prop
variable{d3:VK}{i6:List V->Hp->VK->Prop}
abbrev TE:=St->Hp->VK->Prop
variable{t R:TE}
abbrev TT:=St->Hp->(Bool->Hp->Prop)->Prop
variable{a6:TT}
abbrev TA:=St->Hp->(List V->Hp->Prop)->Prop
variable{Y:TA}
structure Ends where
 nx:St->Hp->Prop
 rt:VK
 bk:St->Hp->Prop:=λ_ _=>False
 ct:St->Hp->Prop:=λ_ _=>False
abbrev TS:=Ends->St->Hp->Prop
variable{b8:TS}
def EP(X:Cx)(pins:List (Addr×Obj))(σ:St)(Q:VK)(u:t5)(s':v7):Prop:=∃v H',Inv X pins σ H' s'/\RelV v u/\Q v H'
def TP(X:Cx)(pins:List (Addr×Obj))(σ:St)(Q:Bool->Hp->Prop)(b:Bool)(s':v7):Prop:=∃H',Inv X pins σ H' s'/\Q b H'
def AP(X:Cx)(pins:List (Addr×Obj))(σ:St)(Q:List V->Hp->Prop)(us:List t5)(s':v7):Prop:=∃vs H',Inv X pins σ H' s'/\Vals vs us/\Q vs H'
def SP(X:Cx)(pins:List (Addr×Obj))(D:Ends)(f:Flow)(s':v7):Prop:=
 match f with
 | .next=>∃σ' H',Inv X pins σ' H' s'/\D.nx σ' H'
 | .brk=>∃σ' H',Inv X pins σ' H' s'/\D.bk σ' H'
 | .cont=>∃σ' H',Inv X pins σ' H' s'/\D.ct σ' H'
 | .ret u=>∃v σ' H',Inv X pins σ' H' s'/\RelV v u/\D.rt v H'
def PE(X:Cx)(e:Expr)(t:TE):Prop:=
 ∀(pins:List (Addr×Obj)) (s:v7) (σ:St) (H:Hp) (Q:VK),Inv X pins σ H s->t σ H Q->wpAny (model X.prog X.w) X.A (eval e X.env) (EP X pins σ Q) X.xe s
def PT(X:Cx)(e:Expr)(t:TT):Prop:=
 ∀(pins:List (Addr×Obj)) (s:v7) (σ:St) (H:Hp) (Q:Bool->Hp->Prop),Inv X pins σ H s->t σ H Q->wpAny (model X.prog X.w) X.A (isTrue e X.env (eval e X.env)) (TP X pins σ Q) X.xe s
def PW(X:Cx)(e:Expr)(t:TT):Prop:=
 ∀(whole:Sem t5) (pins:List (Addr×Obj)) (s:v7) (σ:St) (H:Hp) (Q:Bool->Hp->Prop),Inv X pins σ H s->t σ H Q->wpAny (model X.prog X.w) X.A (isTrue e X.env whole) (TP X pins σ Q) X.xe s
def PW.pt(h:PW X o a6):PT X o a6:=h _
def PA(X:Cx)(es:List Expr)(t:TA):Prop:=
 ∀(pos:Pos) (pins:List (Addr×Obj)) (s:v7) (σ:St) (H:Hp) (Q:List V->Hp->Prop),Inv X pins σ H s->t σ H Q->wpAny (model X.prog X.w) X.A (spliced (H9 pos (w4 es X.env))) (AP X pins σ Q) X.xe s
def PS(X:Cx)(st:Stmt)(t:TS):Prop:=
 ∀(pins:List (Addr×Obj)) (s:v7) (σ:St) (H:Hp) (D:Ends),Inv X pins σ H s->t D σ H->wpAny (model X.prog X.w) X.A (exec st X.env) (SP X pins D) X.xe s
def pU(X:Cx)(st:List Stmt)(t:TS):Prop:=
 ∀(pins:List (Addr×Obj)) (s:v7) (σ:St) (H:Hp) (D:Ends),Inv X pins σ H s->t D σ H->wpAny (model X.prog X.w) X.A (execs st X.env) (SP X pins D) X.xe s
def G3{t:Sem d9}{Q b:d9->v7->Prop}(h:wpAny c8 A t Q q c)(d:∀a c,Q a c->b a c):wpAny c8 A t b q c:=cu h d λ_ _ x=>x
def Q7(i:Nat):TE:=λσ H Q=>∃v,σ[i]? = U (U v)/\Q v H
def tC(v:V):TE:=λ_ H Q=>Q v H
def a0q(w:X.N[k]? = U m)(o:VP X.env.scope m)(hd:autoParam ((m==("__debug__" : Str))=U') H0)(g:autoParam ((m==("__classdict__" : Str))=U') H0):PE X (.Name m p) (Q7 k):=by
 intro f s t H Q I h;obtain⟨v,e,h⟩:=h;obtain⟨x,i,q⟩:=I.loc;obtain⟨u,r,l⟩:=q k m v w e o;have d:EP X f t Q u s:=⟨v,H,I,r,h⟩;rcases l with ⟨b,n⟩|⟨b,c,j,a⟩
 exact wpAny_Name (wpAny_loadName_local I.ok.kind b i n d) hd
 . rcases b with b|b
   exact wpAny_Name (wpAny_loadName_cell I.ok.kind b j a d) hd;exact wpAny_Name (wpAny_loadName_free I.ok.kind b j a d g) hd
def a0w{i j pos}:PE X (.Constant (.int i) j pos) (tC (.int i)):=λ_ _ _ H _ I h=>wpAny_Constant_int ⟨.int i,H,I.tok _,⟨_,rfl⟩,h⟩
def a2G{b j pos}:PE X (.Constant (.bool b) j pos) (tC (.bl b)):=λ_ _ _ H _ I h=>Constant_bool ⟨.bl b,H,I,rfl,h⟩
def a0u{j pos}:PE X (.Constant .none j pos) (tC .non):=λ_ _ _ H _ I h=>Constant_none ⟨.non,H,I,rfl,h⟩
def a0r{x j pos}:PE X (.Constant (.str x) j pos) (tC (.str x)):=λ_ _ _ H _ I h=>Calls.Constant_str ⟨.str x,H,I.tok _,⟨_,rfl⟩,h⟩
def Gl(X:Cx)(x:Str):Prop:=X.env.kindOf x=U .globalImplicit
def Ae{H:Hp}{Q:t5->v7->Prop}(I:Inv X d n H c)(E:Gl X m)(b:X.mg m=U D)(h:Q D c)(hd:autoParam ((m==("__debug__" : Str))=U') H0):wpAny (model X.prog X.w) X.A (eval (.Name m p) X.env) Q q c:=
 Ql I.ok.kind E (Calls.loadGlobal_global (by rw[I.ok.glob];exact I.mod.glob.keeps I.bk) b h) hd
def gO{Q:t5->v7->Prop}(I:Inv X d n a c)(f:Gl X m)(s:X.mg m=J)(E:eL m=U D)(h:Q D c)(b:autoParam (m ≠ "__name__") H0)(hd:autoParam ((m==("__debug__" : Str))=U') H0):wpAny (model X.prog X.w) X.A (eval (.Name m p) X.env) Q q c:=by obtain⟨i,g,e⟩:=I.mod.blt;exact Ql I.ok.kind f (Calls.loadGlobal_builtin (by rw[I.ok.glob];exact I.mod.glob.keeps I.bk) s (by rw[I.ok.blt];exact g.keeps I.bk) ((e m b).trans E) h) hd
def Xv(b:Gl X m)(a:X.mg m=U D)(r:RelV M D)(hd:autoParam ((m==("__debug__" : Str))=U') H0):PE X (.Name m p) (tC M):=
 λ_ _ _ H _ I h=>Ae I b a ⟨M,H,I,r,h⟩ hd
def qx{v:V}(c:Gl X m)(a:X.mg m=J)(d:eL m=U D)(r:RelV v D)(b:autoParam (m ≠ "__name__") H0)(hd:autoParam ((m==("__debug__" : Str))=U') H0):PE X (.Name m p) (tC v):=
 λ_ _ _ H _ I h=>gO I c a d ⟨v,H,I,r,h⟩ b hd
def PC(X:Cx)(op:CmpOp)(a b:Expr)(t:TE):Prop:=
 ∀(pins:List (Addr×Obj)) (s:v7) (σ:St) (H:Hp) (Q:VK),Inv X pins σ H s->t σ H Q ->
  wpAny (model X.prog X.w) X.A (eval a X.env) (λv s₁=>wpAny (model X.prog X.w) X.A (eval b X.env) (λu s₂=>wpAny (model X.prog X.w) X.A (X5 op v u) (EP X pins σ Q) X.xe s₂) X.xe s₁) X.xe s
def tB(t:TE):TT:=λσ H Q=>t σ H λx H1=>∃c,x=.bl c/\Q c H1
def a0g(h:PE X o t)(f:autoParam (∀a,isTrue o X.env a=(do let v <- a;dS o.pos;holding [v] (truthy v))) X0):PT X o (tB t):=by
 intro b s i H Q I c;refine isTrue_plain (G3 (h b s i H _ I c) λv m ⟨x,j,k,g,l⟩=>?_) (f _);obtain⟨d,rfl,q⟩:=l;cases g;exact mC ⟨j,k,q⟩
def QU(t u:TT):TT:=λσ H Q=>t σ H λc H1=>if c=Uf then u σ H1 Q else Q U' H1
def Zm(t u:TT):TT:=λσ H Q=>t σ H λc H1=>if c=Uf then Q Uf H1 else u σ H1 Q
def QS(t:TT):TT:=λσ H Q=>t σ H λc H1=>Q (!c) H1
def pw_and1(f:PT X o a6):PW X (.BoolOp .And [o] p) a6:=by
 intro wh b s d H Q I h;refine isTrue_and (G3 (f b s d H Q I h) λc g e=>?_)
 cases c with
 |true=>exact isTrue_and_nil e
 |false=>exact e
def pw_or1(f:PT X o a6):PW X (.BoolOp .Or [o] p) a6:=by
 intro wh b s d H Q I h;refine isTrue_or (G3 (f b s d H Q I h) λc g e=>?_)
 cases c with
 |false=>exact isTrue_or_nil e
 |true=>exact e
def pw_and{tB':TT}(l:PT X o a6)(k:PW X (.BoolOp .And (Z::G) p) tB'):PW X (.BoolOp .And (o::Z::G) p) (QU a6 tB'):=by
 intro wh d s e H Q I h;refine isTrue_and (G3 (l d s e H _ I h) λc j ⟨f,g,i⟩=>?_)
 cases c with
 |true=>exact k wh d j e f Q g i
 |false=>exact⟨f,g,i⟩
def pw_or{tB':TT}(l:PT X o a6)(k:PW X (.BoolOp .Or (Z::G) p) tB'):PW X (.BoolOp .Or (o::Z::G) p) (Zm a6 tB'):=by
 intro wh d s e H Q I h;refine isTrue_or (G3 (l d s e H _ I h) λc j ⟨f,g,i⟩=>?_)
 cases c with
 |true=>exact⟨f,g,i⟩
 |false=>exact k wh d j e f Q g i
def a0h(f:PT X o a6):PT X (.UnaryOp .Not o p) (QS a6):=by exact λb s d H Q I h=>isTrue_not (f b s d H (λc e=>Q (!c) e) I h)
def Vh(ta tb:TE):TE:=λσ H Q=>ta σ H λx H1=>∃c,x=.bl c/\if c=Uf then tb σ H1 Q else Q (.bl U') H1
def Zl(ta tb:TE):TE:=λσ H Q=>ta σ H λx H1=>∃c,x=.bl c/\if c=Uf then Q (.bl Uf) H1 else tb σ H1 Q
def Vd(ta:TE):TE:=λσ H Q=>ta σ H λx H1=>∃c,x=.bl c/\Q (.bl (!c)) H1
def a0s{op}(h:PE X o t):PE X (.BoolOp op [o] p) t:=λb s c H Q I d=>BoolOp_one (h b s c H Q I d)
def a0y(m:PE X o t)(l:PE X (.BoolOp .And (Z::G) p) R):PE X (.BoolOp .And (o::Z::G) p) (Vh t R):=by
 intro d s f H Q I h;refine BoolOp_and (G3 (m d s f H _ I h) λv k ⟨x,g,i,j,e⟩=>?_)
 obtain⟨c,rfl,e⟩:=e;cases j;refine mC ?_;cases c with
 |true=>exact l d k f g Q i e
 |false=>exact⟨.bl U',g,i,rfl,e⟩
def a2E(m:PE X o t)(l:PE X (.BoolOp .Or (Z::G) p) R):PE X (.BoolOp .Or (o::Z::G) p) (Zl t R):=by
 intro d s f H Q I h;refine BoolOp_or (G3 (m d s f H _ I h) λv k ⟨x,g,i,j,e⟩=>?_)
 obtain⟨c,rfl,e⟩:=e;cases j;refine mC ?_;cases c with
 |false=>exact l d k f g Q i e
 |true=>exact⟨.bl Uf,g,i,rfl,e⟩
def a0t(j:PE X o t):PE X (.UnaryOp .Not o p) (Vd t):=by
 intro b s f H Q I h;refine UnaryOp_ (G3 (j b s f H _ I h) λv k ⟨x,g,i,e,d⟩=>?_);obtain⟨c,rfl,d⟩:=d;cases e;exact not_of (mC ⟨.bl (!c),g,i,rfl,d⟩)
def tIf(t:TT)(ta tb:TE):TE:=λσ H Q=>t σ H λc H1=>if c=Uf then ta σ H1 Q else tb σ H1 Q
def Sr{c:Expr}(l:PT X c a6)(n:PE X o t)(m:PE X Z R):PE X (.IfExp c o Z p) (tIf a6 t R):=by
 intro e s f H Q I h;refine wpAny_IfExp (G3 (l e s f H _ I h) λd g ⟨i,j,k⟩=>?_)
 cases d with
 |true=>exact n e g f i Q j k
 |false=>exact m e g f i Q j k
def N5(K:y7)(H:Hp)(a:Addr)(xs:List V):Prop:=
 Rd H a (.lst xs) \/
  ∃(o:Obj) (its:Array t5) (n:Nat),K.lookup a=U o/\o.cls=.type "list"/\o.dict=J/\o.data=.seq its n/\its.size<=F0/\Vals xs its.toList
def W4(K:y7)(H:Hp)(a:Addr)(xs:List V):Prop:=
 Rd H a (.tup xs) \/
  ∃(o:Obj) (its:Array t5) (n:Nat),K.lookup a=U o/\o.cls=.type "tuple"/\o.data=.seq its n/\its.size<=F0/\Vals xs its.toList
noncomputable def a4G:t5->Option V
 | .none=>U .non
 | .bool b=>U (.bl b)
 | .int i _=>U (.int i)
 | .str x _=>U (.str x)
 | .bytes b _=>U (.byt b)
 | .float b _=>U (.flt b)
 | .ref a=>U (.ref a)
 | .type n=>U (.ty n)
 |_=>J
def RelV.abs(r:RelV M D):a4G D=U M:=by
 cases M with
 |non=>cases r;rfl
 |bl _=>cases r;rfl
 |int _=>obtain⟨t,rfl⟩:=r;rfl
 |str _=>obtain⟨t,rfl⟩:=r;rfl
 |byt _=>obtain⟨t,rfl⟩:=r;rfl
 |flt _=>obtain⟨t,rfl⟩:=r;rfl
 |ref _=>cases r;rfl
 |ty _=>cases r;rfl
def RelV.inj{y:V}(r:RelV M D)(q:RelV y D):M=y:=X8 (r.abs.symm.trans q.abs)
theorem Vals.inj{xs ys:List V}{us:List t5}(h:Vals xs us):Vals ys us->xs=ys:=by
 induction h generalizing ys with
 |nil=>intro k;cases k;rfl
 |cons r t i=>intro k;cases k with
  |cons q s=>rw[r.inj q,i s]
def N5.of(h:a e=U (.lst r)):N5 O a e r:=.inl (.inl h)
def W4.of(h:a e=U (.tup r)):W4 O a e r:=.inl (.inl h)
def Inv.list(I:Inv X d n a c)(h:N5 X.K a e r):∃b:List t5,Vals r b/\PlainL c.heap e b.toArray/\r.length<=F0:=by
 rcases h with h|⟨o,b,H,g,f,s,σ,i,k⟩
 obtain⟨z,b,H,k,j⟩:=h.ok I.J7;exact⟨b,k,⟨_,H,j,rfl,rfl,rfl⟩,z⟩;refine⟨b.toList,k,⟨o,H,I.gP e o g,f,s,by simpa using σ⟩,?_⟩;have j:=k.length;simp only[uL]at j;simp[*]
def Inv.tuple(I:Inv X d n a c)(h:W4 X.K a e r):∃b:List t5,Vals r b/\gU c.heap e b.toArray/\r.length<=F0:=by
 rcases h with h|⟨o,b,H,f,σ,s,g,j⟩
 obtain⟨z,b,j,p⟩:=h.ok I.J7;exact⟨b,j,p,z⟩;refine⟨b.toList,j,⟨o,I.gP e o f,σ,H,by simpa using s⟩,?_⟩;have i:=j.length;simp only[uL]at i;simp[*]
def Inv.wN{ys:List V}(I:Inv X d n a c)(h:N5 X.K a e r)(h':N5 X.K a e ys):r=ys:=by
 obtain⟨s,m,⟨o,H,l,_,_,σ⟩,_⟩:=I.list h;obtain⟨b,i,⟨k,j,g,_,_,f⟩,_⟩:=I.list h';rw[l]at g;cases g;rw[σ]at f;injection f with d1 _
 have:s=b:=by simpa using D3 Array.toList d1
 subst this;exact m.inj i
def Inv.AN{ys:List V}(I:Inv X d n a c)(h:W4 X.K a e r)(h':W4 X.K a e ys):r=ys:=by
 obtain⟨s,m,⟨o,l,_,H,σ⟩,_⟩:=I.tuple h;obtain⟨b,i,⟨k,g,_,j,f⟩,_⟩:=I.tuple h';rw[l]at g;cases g;rw[σ]at f;injection f with d1 _
 have:s=b:=by simpa using D3 Array.toList d1
 subst this;exact m.inj i
abbrev Cx.qf(X:Cx)(E:t5->v7->Prop):Cx:={X with xe:=E}
abbrev Cx.AZ(X:Cx):Cx:=X.qf λ_ _=>False
theorem Cx.Ok.qf(ok:X.Ok)(E:t5->v7->Prop):(X.qf E).Ok:=
 ⟨ok.mod,ok.kind,ok.glob,ok.blt,ok.above,ok.inj,ok.has,ok.IH,ok.hd,ok.frames,ok.Ln,ok.VE,ok.bs,ok.sJ,ok.wM,ok.Aw,ok.kJ,ok.Bo⟩
def Cx.Ok.lE(ok:(X.qf q).Ok):X.Ok:=
 ⟨ok.mod,ok.kind,ok.glob,ok.blt,ok.above,ok.inj,ok.has,ok.IH,ok.hd,ok.frames,ok.Ln,ok.VE,ok.bs,ok.sJ,ok.wM,ok.Aw,ok.kJ,ok.Bo⟩
theorem Inv.qf(I:Inv X d n a c)(E:t5->v7->Prop):Inv (X.qf E) d n a c:=⟨I.ok.qf E,I.os,I.bare,I.base,I.loc,I.cell,I.free,I.jC,I.pin,I.J7,I.len⟩
theorem Inv.lE(I:Inv (X.qf q) d n a c):Inv X d n a c:=⟨I.ok.lE,I.os,I.bare,I.base,I.loc,I.cell,I.free,I.jC,I.pin,I.J7,I.len⟩
theorem SP.lE{X:Cx}{pins:List (Addr×Obj)}{E:t5->v7->Prop}{D:Ends}{f:Flow}{s':v7}(h:SP (X.qf E) pins D f s'):SP X pins D f s':=by
 cases f with
 |next=>obtain⟨a,b,I,q⟩:=h;exact⟨a,b,I.lE,q⟩
 |brk=>obtain⟨a,b,I,q⟩:=h;exact⟨a,b,I.lE,q⟩
 |cont=>obtain⟨a,b,I,q⟩:=h;exact⟨a,b,I.lE,q⟩
 |ret u=>obtain⟨v,a,b,I,r,q⟩:=h;exact⟨v,a,b,I.lE,r,q⟩
theorem pU.AZ(h:pU X.AZ b7 b8):pU X b7 b8:=λa s c H D I d =>
 cu (h a s c H D (I.qf _) d) (λ_ _ q=>q.lE) λ_ _ z=>dU z
def Ve:TS:=λD σ H=>D.nx σ H
def Zk(t u:TS):TS:=λD σ H=>t {D with nx:=u D} σ H
def Xk:pU X [] Ve:=λ_ _ a H _ I h=>yZ ⟨a,H,I,h⟩
def RY{u:TS}(i:PS X e8 b8)(d:pU X b7 u):pU X (e8::b7) (Zk b8 u):=by
 intro a s c H D I h;refine wpAny_execs_cons (G3 (i a s c H {D with nx:=u D} I h) λf g q=>?_)
 cases f with
 |next =>
  obtain⟨b,j,e,q⟩:=q;exact d a g b j D e q
 |ret v=>exact q
 |brk=>exact q
 |cont=>exact q
def Xj(c:PS X e8 b8):pU X [e8] b8:=by
 intro a s b H D I h;refine wpAny_execs_cons (G3 (c a s b H D I h) λf d q=>?_)
 cases f with
 |next=>exact yZ q
 |ret v=>exact q
 |brk=>exact q
 |cont=>exact q
def Inv.quiet{H:Hp}(I:Inv X d n H c):interactive X.env=U':=by simp[interactive,I.ok.kind]
def vg(te:TE):TS:=λD σ H=>te σ H λ_ H1=>D.nx σ H1
def qw(c:PE X o t)(hs:autoParam (cw o J p.line X.env=pure U') t8):PS X (.Expr o p) (vg t):=by exact λa s b H D I h=>wpAny_Expr_any (G3 (c a s b H _ I h) λv j ⟨x,d,f,i,g⟩=>⟨b,d,f,g⟩) I.quiet hs
def QR(te:TE):TS:=λD σ H=>te σ H D.rt
def LZ(f:PE X o t):PS X (.Return (U o) p) (QR t):=by exact λa s b H D I h=>wpAny_Return_some (G3 (f a s b H _ I h) λv j ⟨x,c,d,i,g⟩=>⟨x,b,c,d,i,g⟩)
def Vb:TS:=λD _ H=>D.rt .non H
def Xl:PS X (.Return J p) Vb:=λ_ _ a H _ I h=>wpAny_Return_none ⟨.non,a,H,I,rfl,h⟩
def Zo(c:TT)(t u:TS):TS:=λD σ H=>c σ H λb H1=>if b=Uf then t D σ H1 else u D σ H1
def a2C{u:TS}{b:List Stmt}(m:PT X o a6)(t:pU X b7 b8)(n:pU X b u):PS X (.If o b7 b p) (Zo a6 b8 u):=by
 intro e s f H D I h;refine wpAny_If (G3 (m e s f H _ I h) λd g ⟨i,j,k⟩=>?_)
 cases d with
 |true=>exact t e g f i D j k
 |false=>exact n e g f i D j k
def Le:TS:=λ_ _ _=>False
def Sa:PS X e8 Le:=λ_ _ _ _ _ _ h=>h.elim
abbrev TG:=V->St->Hp->(St->Hp->Prop)->Prop
abbrev wd:=List V->St->Hp->(St->Hp->Prop)->Prop
def PG(X:Cx)(target:Expr)(t:TG):Prop:=
 ∀(pins:List (Addr×Obj)) (s:v7) (σ:St) (H:Hp) (v:V) (u:t5) (Q:St->Hp->Prop),Inv X pins σ H s->RelV v u->t v σ H Q ->
  wpAny (model X.prog X.w) X.A (assign target X.env u) (λ_ s'=>∃σ' H',Inv X pins σ' H' s'/\Q σ' H') X.xe s
def Oo(X:Cx)(ts:List Expr)(t:wd):Prop:=
 ∀(pins:List (Addr×Obj)) (s:v7) (σ:St) (H:Hp) (vs:List V) (us:List t5) (Q:St->Hp->Prop),Inv X pins σ H s->Vals vs us->t vs σ H Q ->
  wpAny (model X.prog X.w) X.A (assignInOrder ((hE ts X.env).map (·.2)) us) (λ_ s'=>∃σ' H',Inv X pins σ' H' s'/\Q σ' H') X.xe s
abbrev UI:=V->V->V->Hp->(Hp->Prop)->Prop
def a1V(X:Cx)(t:UI):Prop:=
 ∀(pins:List (Addr×Obj)) (s:v7) (σ:St) (H:Hp) (o i v:V) (ov iv u:t5) (Q:Hp->Prop),Inv X pins σ H s->RelV o ov->RelV i iv->RelV v u->t o i v H Q ->
  wpAny (model X.prog X.w) X.A (setItem ov iv u) (λ_ s'=>∃H',Inv X pins σ H' s'/\Q H') X.xe s
def Y7(i:Nat):TG:=λv σ H Q=>Q (σ.set i (U v)) H
def HC(d:X.N.Nodup)(b:X.N[k]? = U m)(c:Loc X.env.scope m)(f:autoParam (X.fn m=Uf\/X.env.scope.names.lookup m=U .local) dR):PG X (.Name m p) (Y7 k):=by exact λa s g H v u Q I r h=>wpAny_assign_Name (Ct I d b c r (λj e=>⟨_,H,e,h⟩) f)
def DR:wd:=λvs σ H Q=>vs=[]/\Q σ H
def lj(t:TG)(u:wd):wd:=λvs σ H Q=>∃v r,vs=v::r/\t v σ H λσ' H'=>u r σ' H' Q
def Xt:Oo X [] DR:=by intro a s b H d c Q I r h;obtain⟨e,h⟩:=h;subst e;cases r;exact assignInOrder_nil ⟨b,H,I,h⟩
def Sn{t:TG}{u:wd}(i:PG X o t)(d:Oo X G u)(hs:autoParam ((hE (o::G) X.env).map (·.2)=assign o X.env::(hE G X.env).map (·.2)) t8):Oo X (o::G) (lj t u):=by
 intro a s f H e p Q I r h;obtain⟨v,n,j,h⟩:=h;subst j;cases r with
 |cons r c =>
  rw[hs];refine assignInOrder_cons (G3 (i a s f H _ _ _ I r h) λ_ g ⟨b,k,l,m⟩=>?_);exact d a g b k _ _ Q l c m
def wR(K:y7)(n:Nat)(t:wd):TG:=λv σ H Q=>∃a xs,v=.ref a/\W4 K H a xs/\xs.length=n/\t xs σ H Q
def a0p{t:wd}{n:Nat}(z:X.calm=Uf)(h:Oo X G t)(j:autoParam ((hE G X.env).length=n) t8)(d:autoParam ((hE G X.env).findIdx? (·.1)=J) t8):PG X (.Tuple G k p) (wR X.K n t):=by
 intro c s g H v u Q I r f;obtain⟨a,x,y,hq,C,f⟩:=f;subst y;cases r;obtain⟨A,i,l,B⟩:=I.tuple hq;refine assign_Tuple_tuple (I.ok.hd z) l (by simp[j,<-C,i.length]) d λw m=>?_;have q:Inv X c g H {s with heap:=w}:=I.kept λb o e=>m b o (R8 (G8 e)) e;exact h c _ g H x _ Q q (by simpa using i) f
def Ke(to ti:TE)(t:UI):TG:=λv σ H Q=>to σ H λo H1=>ti σ H1 λi H2=>t o i v H2 λH3=>Q σ H3
def CU {e:UI} (j:PE X o t) (g:PE X Z R) (hs:a1V X e) (F:autoParam (∀v,assign (.Subscript o Z p) X.env v=(do
   let b <- holding [v] (eval o X.env)
   let c <- holding [v,b] (eval Z X.env)
   dS p
   holding [v,b,c] (setItem b c v)
   release [v,b,c] [])) X0):PG X (.Subscript o Z p) (Ke t R e):=by
 intro a s d H v u Q I r h;refine u7 (gr (G3 (j a s d H _ I h) λb m ⟨x,B,n,z,C⟩=>?_));refine u7 (gr (G3 (g a m d B _ n C) λc w ⟨y,q,l,i,q2⟩=>?_));refine u7 (EX (u7 (gr (G3 (hs a w d q x y v b c u _ l z i r q2) λ_ E ⟨A,D,k⟩=>?_))));exact wpAny_release ⟨d,A,D,k⟩
def iC(te:TE)(g:TG):TS:=λD σ H=>te σ H λx H1=>g x σ H1 D.nx
def xH{g:TG}(f:PE X Z t)(j:PG X o g)(hs:autoParam (uD [o] Z p.line X.env=pure U') t8)(d:autoParam (uC [o] Z X.env=pure J) t8)(l:autoParam ((hE [o] X.env).map (·.2)=[assign o X.env]) t8):PS X (.Assign [o] Z p) (iC t g):=by
 intro a s c H D I h;refine wpAny_Assign_stores (G3 (f a s c H _ I h) λv k ⟨x,m,n,i,e⟩=>?_) hs d;rw[l];exact G3 (j a k c m x v _ n i e) λ_ b q=>q
def LY(g:X.N.Nodup)(c:X.N[k]? = U m)(f:Loc X.env.scope m)(d:PE X o t)(hs:autoParam (cw o (U (.Name m S)) p.line X.env=pure U') t8)(n:autoParam (X.fn m=Uf\/X.env.scope.names.lookup m=U .local) dR):
  PS X (.Assign [.Name m S] o p) (iC t (Y7 k)):=by
 intro b s l H D I h;refine wpAny_Assign_Name (G3 (d b s l H _ I h) λv r ⟨y,e,a,x,i⟩=>?_) hs;exact Ct a g c f x (λq j=>⟨_,e,j,i⟩) n
def Ld(c:TT)(tb:TS):TS:=λD σ H=>∃W:Nat->St->Hp->Prop,(∃m,W m σ H)/\∀m σ H,W m σ H ->
 c σ H λb H1=>if b=Uf then ∃N:St->Hp->Prop,(∀σ' H',N σ' H'->∃m',m'<m/\W m' σ' H')/\tb {D with nx:=N,ct:=N,bk:=D.nx} σ H1 else D.nx σ H1
def RZ(t:uk (model X.prog X.w) X.A X.env X.xe)(P:PT X o a6)(Q:pU X b7 b8):PS X (.While o b7 [] p) (Ld a6 b8):=by
 intro d s E H D I h;obtain⟨W,⟨m0,F⟩,turn⟩:=h;refine wpAny_While (codeAny_whileLoop (λn O=>∃i C,Inv X d i C O/\W n i C) ?_ m0 ⟨E,H,I,F⟩);rintro n G ⟨e,z,K,L⟩;refine oU t (G3 (P d G e z _ K (turn n e z L)) λb M ⟨u,r,q2⟩=>?_)
 cases b with
 |true =>
  obtain⟨N,y,q2⟩:=q2;refine oU t (G3 (Q d M e u _ r q2) λf R k=>?_)
  cases f with
  |next =>
   obtain⟨a,j,q,l⟩:=k;obtain⟨c,g,m⟩:=y a j l;exact⟨c,g,a,j,q,m⟩
  |cont =>
   obtain⟨a,j,q,l⟩:=k;obtain⟨c,g,m⟩:=y a j l;exact⟨c,g,a,j,q,m⟩
  |brk=>exact k
  |ret v=>exact k
 |false =>
  exact yZ ⟨e,u,r,q2⟩
structure It where
 go:Nat->Hp->Prop
 US:Nat->Hp->V->Hp->Prop
 stop:Nat->Hp->Prop
def mS(X:Cx)(pins:List (Addr×Obj))(H:Hp)(b:Addr):Prop:=
 H b=J/\b≠X.env.locals/\b∉X.fs/\(b∈X.ex\/X.W6.heap.objs.size<=b)/\(∀x c,X.env.cells.lookup x=U c->c≠b)/\∀p∈X.pn++pins,p.1≠b
def Inv.wU{H':Hp}(I:Inv X d n a c)(H:(hz c)<=e)(f:H' e=J):mS X d H' e:=by
 refine⟨f,fS (M8 I.lt H),I.SU H,.inr (C3 I.sz H),λx s b z=>?_,λp g z=>?_⟩;obtain⟨v,q⟩:=I.cell x s b;exact absurd (M8 q.lt (by rw[z];exact H)) (aB _);exact absurd (M8 (G8 (I.pin p g).1) (by rw[z];exact H)) (aB _)
structure Turn(P:M3)(w:E3)(K:y7)(tg:Expr)(Jff:It)(fp:List Addr)(it:Addr)(tn:Nat->Heap->Prop):Prop where
 mem:it∈fp
 obj:∀i h,tn i h->∀b∈fp,∃o,h.get? b=U o/\∀v,o.data≠.cell v
 keep:∀i h h',tn i h->(∀b∈fp,∀o,h.get? b=U o->h'.get? b=U o)->tn i h'
 item:∀(X:Cx),X.prog=P->X.w=w->X.K=K->X.calm=Uf->∀(i:Nat) (pins:List (Addr×Obj)) (s:v7) (σ:St) (H:Hp) (E:t5->v7->Prop),Inv X pins σ H s->(∀b∈fp,mS X pins H b)->tn i s.heap->Jff.go i H ->
  wpAny (model P w) X.A (oH (.ref it)) (λr s1=>∃u,r=U u /\
   wpAny (model P w) X.A (Fy tg (.ref it) u) (λ_ s2=>∃x H',Inv X pins σ H' s2/\RelV x u/\Jff.US i H x H'/\tn (i+1) s2.heap/\∀b∈fp,H' b=J) E s1) E s
 done:∀(X:Cx),X.prog=P->X.w=w->X.K=K->X.calm=Uf->∀(i:Nat) (pins:List (Addr×Obj)) (s:v7) (σ:St) (H:Hp) (E:t5->v7->Prop),Inv X pins σ H s->(∀b∈fp,mS X pins H b)->tn i s.heap->Jff.stop i H ->
  wpAny (model P w) X.A (oH (.ref it)) (λr s1=>r=J/\Inv X pins σ H s1) E s
 self:∀(A:Z0) (i:Nat) (s:v7) (Q:t5->v7->Prop) (E:t5->v7->Prop),tn i s.heap->Q (.ref it) s->wpAny (model P w) A (pyIter (.ref it)) Q E s
abbrev TI:=St->Hp->(It->Hp->Prop)->Prop
def PIE(X:Cx)(pins:List (Addr×Obj))(σ:St)(tg:Expr)(R:It->Hp->Prop)(itv:t5)(s2:v7):Prop:=
 ∃(it:Addr) (fp:List Addr) (tn:Nat->Heap->Prop) (Jff:It) (H':Hp),itv=.ref it/\Inv X pins σ H' s2/\Turn X.prog X.w X.K tg Jff fp it tn/\tn 0 s2.heap/\(∀b∈fp,mS X pins H' b)/\R Jff H'
def PI(X:Cx)(tg iter:Expr)(wi:TI):Prop:=
 ∀(pins:List (Addr×Obj)) (s:v7) (σ:St) (H:Hp) (R:It->Hp->Prop),Inv X pins σ H s->wi σ H R ->
  wpAny (model X.prog X.w) X.A (eval iter X.env) (λv s1=>wpAny (model X.prog X.w) X.A (pyIter v) (PIE X pins σ tg R) X.xe s1) X.xe s
def BU{n:String}{vs:Array t5}(d:c.heap.get? e=U b6)(E:b6.cls=.type n)(hd:b6.data=.fields vs)(M:["enumerate","zip","dict_itemiterator","dict_reverseitemiterator","odict_iterator","itertools.zip_longest","itertools.pairwise"].contains n=U')(a:b9 () c):wpAny c8 A (Fy o (.ref e) D) b9 q c:=by
 cases o<;>first
  |exact A3 a
  |(cases D<;>first
    |exact A3 a
    | (refine u7 (wpAny_load d ?_)
       rw[E,hd];show wpAny c8 A (if (["enumerate","zip","dict_itemiterator","dict_reverseitemiterator","odict_iterator","itertools.zip_longest","itertools.pairwise"].contains n&&vs[0]?==U (af _))=Uf then _ else _) b9 q c;rw[s9 (by intro h;rw[M,Ff]at h;exact nT h)]
       exact A3 a))
def Itl(K:y7)(a:Addr):It:=
 ⟨λi H=>∃xs x,N5 K H a xs/\xs[i]? = U x,λi H x H'=>H'=H/\∀xs,N5 K H a xs->xs[i]? = U x,λi H=>∃xs,N5 K H a xs/\xs.length<=i⟩
def Itt(K:y7)(a:Addr):It:=
 ⟨λi H=>∃xs x,W4 K H a xs/\xs[i]? = U x,λi H x H'=>H'=H/\∀xs,W4 K H a xs->xs[i]? = U x,λi H=>∃xs,W4 K H a xs/\xs.length<=i⟩
def Qt(lo:Int)(n:Nat):It:=⟨λi _=>i<n,λi H x H'=>H'=H/\x=.int (lo+i),λi _=>n<=i⟩
def KY(a it:Addr):Turn y a7 O Z (Itl O a) [it] it (λi h=>h.IsListIter it a i) where
 mem:=F7
 obj:=λi h f b j=>by
  have e:b=it:=by simpa using j
  subst e;obtain⟨o,e,c,d⟩:=f;exact⟨o,e,λv z=>by rw[d]at z;cases z⟩
 keep:=λi h C f k=>f.at λo e=>k it F7 o e
 item:=by
  intro X n B t w i g s N H E I m f G;subst n B t;obtain⟨xs,x,hq,q⟩:=G;obtain⟨L,F,p,Q⟩:=I.list hq;obtain⟨u,Y,T⟩:=F.get q;obtain⟨P,M,f2,D,r,A⟩:=m it F7;refine wpAny_pyNext_list_item f p.isList (by simpa using Y) λC l R=>?_;have S:Inv X g N H {s with heap:=C}:=I.turned (λb o j e=>(R.2 b j).trans e) P M D r A;obtain⟨o,e,c,d⟩:=id l;exact⟨u,rfl,BU e c d f5 ⟨x,H,S,T,⟨rfl,λys hy=>by rw[I.wN hy hq];exact q⟩,l,λb j=>(m b j).1⟩⟩
 done:=by intro X n B t w i g s N H E I m f G;subst n B t;obtain⟨xs,hq,q⟩:=G;obtain⟨L,F,p,Q⟩:=I.list hq;obtain⟨P,M,f2,D,r,A⟩:=m it F7;have:=F.length;exact wpAny_pyNext_list_end (I.ok.hd w) f p.isList (by simp;simp_all) λC V=>⟨rfl,I.turned (λb o j e=>V b o j e) P M D r A⟩
 self:=λ_ _ _ _ _ f h=>wpAny_pyIter_listiter f h
def IS(a it:Addr):Turn y a7 O Z (Itt O a) [it] it (λi h=>h.IsTupleIter it a i) where
 mem:=F7
 obj:=λi h f b j=>by
  have e:b=it:=by simpa using j
  subst e;obtain⟨o,e,c,d⟩:=f;exact⟨o,e,λv z=>by rw[d]at z;cases z⟩
 keep:=λi h D f k=>f.at λo e=>k it F7 o e
 item:=by
  intro X q C P w i g s N H E I n f L;subst q C P;obtain⟨xs,x,hq,r⟩:=L;obtain⟨l,G,p,Q⟩:=I.tuple hq;obtain⟨u,Y,T⟩:=G.get r;obtain⟨A,M,f2,F,t,B⟩:=n it F7;refine wpAny_pyNext_tuple_item f (show s.heap.IsTuple a l.toArray from p) (by simpa using Y) λD m R=>?_;have S:Inv X g N H {s with heap:=D}:=I.turned (λb o j e=>(R.2 b j).trans e) A M F t B;obtain⟨o,e,c,d⟩:=id m;exact⟨u,rfl,BU e c d f5 ⟨x,H,S,T,⟨rfl,λys hy=>by rw[I.AN hy hq];exact r⟩,m,λb j=>(n b j).1⟩⟩
 done:=by intro X q C P w i g s N H E I n f L;subst q C P;obtain⟨xs,hq,r⟩:=L;obtain⟨l,G,p,Q⟩:=I.tuple hq;obtain⟨A,M,f2,F,t,B⟩:=n it F7;have:=G.length;exact wpAny_pyNext_tuple_end (I.ok.hd w) f (show s.heap.IsTuple a l.toArray from p) (by simp;simp_all) λD V=>⟨rfl,I.turned (λb o j e=>V b o j e) A M F t B⟩
 self:=λ_ _ _ _ _ f h=>wpAny_pyIter_tupleiter f h
def IT(it:Addr)(lo:Int)(n:Nat):Turn y a7 O o (Qt lo n) [it] it (λi h=>IsRangeIter h it (lo+(i:Nat)*1) ((n:Int)-(i:Nat)) 1) where
 mem:=F7
 obj:=λi h a b d=>by
  have e:b=it:=by simpa using d
  subst e;exact⟨_,a,λv z=>by cases z⟩
 keep:=λi h q a k=>k it F7 _ a
 item:=by
  intro X P C A x i c s B H E I g a u;obtain⟨l,p,w,r,j,m⟩:=g it F7;refine(Walks.range (I.ok.hd x) it lo 1 n).item i s _ _ u a λv q D M f N=>?_;obtain⟨t,rfl⟩:=M;have F:Inv X c B H {s with heap:=q,toks:=D}:=I.turned (λb K d e=>N b K (by simpa using d) e) l p r j m;refine⟨_,rfl,BU f rfl rfl f5 ⟨.int (lo+i),H,F,⟨t,?_⟩,⟨rfl,rfl⟩,f,λb d=>(g b d).1⟩⟩;rw[oN]
 done:=by intro X P C A x i c s B H E I g a u;obtain⟨l,p,w,r,j,m⟩:=g it F7;exact wpAny_pyNext_range_end (I.ok.hd x) a (by have:n<=i:=u;lia) λq G=>⟨rfl,I.turned (λb K d e=>G b K d e) l p r j m⟩
 self:=λ_ _ _ _ _ a h=>wpAny_pyIter_rangeiter a h
def CH{s:v7}{R:It->Hp->Prop}{lo E:Int}{t u v:Tok}(I:Inv X d n a s)(p : -(2 ^ 62)<=lo)(i:lo<2 ^ 62)(j : -(2 ^ 62)<=E)(g:E<2 ^ 62)(f:R (Qt lo (E-lo).toNat) a):wpAny (model X.prog X.w) X.A (pyIter (.ref (hz s))) (PIE X d n o R) q {s with heap:=s.heap.push {cls:=.type "range",data:=.fields #[.int lo t,.int E u,.int 1 v]},toks:=k}:=by
 refine wpAny_pyIter_range (IsRange.new ..) (small_one p i j g) ?_;have H:Inv X d n a {s with heap:=s.heap.push {cls:=.type "range",data:=.fields #[.int lo t,.int E u,.int 1 v]},toks:=k}:=I.kept λb c e=>L6 _ e
 refine⟨(s.heap.push {cls:=.type "range",data:=.fields #[.int lo t,.int E u,.int 1 v]}).objs.size,[(s.heap.push {cls:=.type "range",data:=.fields #[.int lo t,.int E u,.int 1 v]}).objs.size],_,_,a,rfl,
  H.kept λb c e=>L6 _ e,IT _ lo (E-lo).toNat,?_,λb m=>?_,f⟩
 . have l:lo+((0:Nat))*1=lo:=by simp
   have h:(((E-lo).toNat))-((0:Nat))=Builtin.Range.rangeSize lo E 1:=by rw[rangeSize_one];split<;>lia
   rw[l,h];exact W2 _ rfl
 . have e:b=(s.heap.push {cls:=.type "range",data:=.fields #[.int lo t,.int E u,.int 1 v]}).objs.size:=by simpa using m
   subst e;exact H.wU F3 (H.J7.fresh F3)
def VA(ta:TA):TI:=λσ H R=>ta σ H λvs H1=>∃j:Int,vs=[.int j]/\-(2 ^ 62)<=j/\j<2 ^ 62/\R (Qt 0 j.toNat) H1
def Vz(ta:TA):TI:=λσ H R=>ta σ H λvs H1=>∃i j:Int,vs=[.int i,.int j]/\(-(2 ^ 62)<=i/\i<2 ^ 62/\-(2 ^ 62)<=j/\j<2 ^ 62)/\R (Qt i (j-i).toNat) H1
def Mg(l:Gl X "range")(f:X.mg "range" = J)(n:PA X [Z] Y)(hs:autoParam (w4 [Z] X.env=[(U',eval Z X.env)]) t8):PI X o (.Call (.Name "range" p) [Z] [] S) (VA Y):=by
 intro b s k H R I h;refine Call_ (gO I l f boot_range (pX (G3 (n S b s k H _ I h) λv u ⟨a,w,m,i,c⟩=>?_) hs rfl))
 obtain⟨j,e,c,q2,q⟩:=c;subst e;cases i with
 |cons r g =>
  cases g;obtain⟨t,rfl⟩:=r;exact call_range_1 (CH m B4 B4 c q2 (by simpa using q))
def Mf{b:Expr}(x:Gl X "range")(a:X.mg "range" = J)(y:PA X [Z,b] Y)(hs:autoParam (w4 [Z,b] X.env=[(U',eval Z X.env),(U',eval b X.env)]) t8)(c:autoParam (w4 [b] X.env=[(U',eval b X.env)]) t8):
  PI X o (.Call (.Name "range" p) [Z,b] [] S) (Vz Y):=by
 intro d s m H R I h;refine Call_ (gO I x a boot_range (pX (G3 (y S d s m H _ I h) λC B ⟨z,D,n,w,g⟩=>?_) (by rw[hs,c]) (by rw[c];rfl)))
 obtain⟨i,j,e,⟨g,q2,l,v⟩,q⟩:=g;subst e;cases w with
 |cons r f =>
  cases f with
  |cons u f =>
   cases f;obtain⟨t,rfl⟩:=r;obtain⟨A,rfl⟩:=u;exact call_range_2 (CH n g q2 l v q)
def QT(wi:TI)(g:TG)(tb:TS):TS:=λD σ H=>wi σ H λJff H1=>∃W:Nat->Nat->St->Hp->Prop,(∃m,W 0 m σ H1)/\∀i m σ H,W i m σ H ->
 (Jff.stop i H/\D.nx σ H)\/(Jff.go i H/\∃N:St->Hp->Prop,(∀σ' H',N σ' H'->∃m',m'<m/\W (i+1) m' σ' H')/\∀x H',Jff.US i H x H'->g x σ H' λσ2 H2=>tb {D with nx:=N,ct:=N,bk:=D.nx} σ2 H2)
def tF(fp:List Addr)(h:Heap):List (Addr×Obj):=fp.filterMap λb=>(h.get? b).map λo=>(b,o)
def nk(a:e∈L)(b:h.get? e=U b6):(e,b6)∈tF L h:=List.mem_filterMap.mpr ⟨e,a,by rw[b];rfl⟩
def ME{p:Addr×Obj}(a:p∈tF L h):p.1∈L/\h.get? p.1=U p.2:=by
 obtain⟨b,d,e⟩:=List.mem_filterMap.mp a;cases q:h.get? b with
 |none=>rw[q]at e;exact nE e
 |some o =>
  rw[q]at e;have c:=X8 e;subst c;exact⟨d,q⟩
def Inv.pinned{H:Hp}(I:Inv X d n H c)(h:∀b∈L,mS X d H b)(g:∀b∈L,∃o,c.heap.get? b=U o/\∀v,o.data≠.cell v):Inv X (d++tF L c.heap) n H c:=
 I.kF λp i=>(List.mem_append.mp i).elim (λz=>I.pin p (L9 _ z)) λz=>by obtain⟨f,e⟩:=ME z;obtain⟨j,l,k,_⟩:=h p.1 f;obtain⟨o,s,a⟩:=g p.1 f;rw[e]at s;cases s;exact⟨e,j,l,k,a⟩
def Inv.wB{pl:List (Addr×Obj)}{H:Hp}(I:Inv X (d++pl) n H c):Inv X d n H c:=I.kF λp b=>I.pin p (L9 _ (U7 _ b))
def a0j{wi:TI}{g:TG}(hp:uk (model X.prog X.w) X.A X.env X.xe)(hc:X.calm=Uf)(hi:PI X o Z wi)(hg:PG X o g)(hb:pU X b7 b8)(hs:autoParam (∀x,eM Z X.env x=pure x) X0):PS X (.For o Z b7 [] p) (QT wi g b8):=by
 intro pins s σ H D I h;refine wpAny_For (G3 (hi pins s σ H _ I h) λv s1 h1=>G3 h1 λitv s2 h2=>?_) hs;obtain⟨it,fp,tn,Jff,H2,e,I2,T,st2,f2,W,⟨m0,w0⟩,turn⟩:=h2;subst e;have stat:∀{H':Hp},(∀b∈fp,H' b=J)->∀b∈fp,mS X pins H' b:=λhn b hb=>⟨hn b hb,(f2 b hb).2⟩;refine codeAny_forLoop_any (λn s'=>∃i σ' H',Inv X pins σ' H' s'/\tn i s'.heap/\(∀b∈fp,H' b=J)/\W i n σ' H') ?_ m0 ⟨0,σ,H2,I2,st2,λb hb=>(f2 b hb).1,w0⟩
 rintro n s3 ⟨i,σ3,H3,I3,st3,fr3,w3⟩;rcases turn i n σ3 H3 w3 with ⟨stop,qn⟩|⟨go,N,hN,step⟩
 refine oU hp (G3 (T.done X rfl rfl rfl hc i pins s3 σ3 H3 X.xe I3 (stat fr3) st3 stop) λr s4 ⟨hr,I4⟩=>?_);subst hr;exact yZ ⟨σ3,H3,I4,qn⟩
 . refine oU hp (G3 (T.item X rfl rfl rfl hc i pins s3 σ3 H3 X.xe I3 (stat fr3) st3 go) λr s4 ⟨u,hr,h4⟩=>?_);subst hr;refine oU hp (G3 h4 λ_ s5 ⟨x,H5,I5,r5,y5,st5,fr5⟩=>?_);have I5':=I5.pinned (stat fr5) (T.obj _ _ st5);refine oU hp (G3 (hg _ s5 σ3 H5 x u _ I5' r5 (step x H5 y5)) λ_ s6 ⟨σ6,H6,I6,q6⟩=>?_);refine oU hp (G3 (hb _ s6 σ6 H6 _ I6 q6) λf s7 q7=>?_)
   have again:∀{σ7:St} {H7:Hp},Inv X (pins++tF fp s5.heap) σ7 H7 s7->N σ7 H7->∃m,m<n/\∃i σ' H',Inv X pins σ' H' s7/\tn i s7.heap/\(∀b∈fp,H' b=J)/\W i m σ' H':=λ{σ7 H7} I7 n7=>by
    obtain⟨m',hm,w7⟩:=hN σ7 H7 n7;refine⟨m',hm,i+1,σ7,H7,I7.wB,T.keep _ _ _ st5 λb hb a e=>(I7.pin (b,a) (L9 _ (L9 _ (nk hb e)))).1,λb hb=>?_,w7⟩;obtain⟨a,e,d⟩:=T.obj _ _ st5 b hb;exact(I7.pin (b,a) (L9 _ (L9 _ (nk hb e)))).2.1
   cases f with
   |next=>obtain⟨σ7,H7,I7,n7⟩:=q7;exact again I7 n7
   |cont=>obtain⟨σ7,H7,I7,n7⟩:=q7;exact again I7 n7
   |brk=>obtain⟨σ7,H7,I7,q7⟩:=q7;exact⟨σ7,H7,I7.wB,q7⟩
   |ret v=>obtain⟨x7,σ7,H7,I7,r7,q7⟩:=q7;exact⟨x7,σ7,H7,I7.wB,r7,q7⟩
abbrev R2:=V->V->Hp->VK->Prop
variable{c7:R2}
def V3(X:Cx)(f:t5->t5->Sem t5)(r:R2):Prop:=
 ∀(pins:List (Addr×Obj)) (s:v7) (σ:St) (H:Hp) (x y:V) (v u:t5) (Q:VK),Inv X pins σ H s->RelV x v->RelV y u->r x y H Q ->
  wpAny (model X.prog X.w) X.A (f v u) (EP X pins σ Q) X.xe s
def VQ(X:Cx)(f:t5->Sem t5)(r:V->Hp->VK->Prop):Prop:=
 ∀(pins:List (Addr×Obj)) (s:v7) (σ:St) (H:Hp) (x:V) (v:t5) (Q:VK),Inv X pins σ H s->RelV x v->r x H Q ->
  wpAny (model X.prog X.w) X.A (f v) (EP X pins σ Q) X.xe s
def ae(X:Cx)(f:t5)(r:List V->Hp->VK->Prop):Prop:=
 ∀(pins:List (Addr×Obj)) (s:v7) (σ:St) (H:Hp) (xs:List V) (us:List t5) (Q:VK),Inv X pins σ H s->Vals xs us->r xs H Q ->
  wpAny (model X.prog X.w) X.A (call f us) (EP X pins σ Q) X.xe s
def sD(r:R2)(ta tb:TE):TE:=λσ H Q=>ta σ H λx H1=>tb σ H1 λy H2=>r x y H2 Q
def tUn(r:V->Hp->VK->Prop)(ta:TE):TE:=λσ H Q=>ta σ H λx H1=>r x H1 Q
def rI(C:Int->Int->Prop)(g:Int->Int->V):R2:=λx y H Q=>∃i j,x=.int i/\y=.int j/\C i j/\Q (g i j) H
def mX(g:Int->Int->V):R2:=λx y H Q=>∃i j,x=.int i/\y=.int j/\Q (g i j) H
def rU(g:Int->V):V->Hp->VK->Prop:=λx H Q=>∃i,x=.int i/\Q (g i) H
def UC(a:PE X o t)(Q:PE X Z R){H:Hp}{b:V->V->Hp->Prop}(I:Inv X d n H c)(h:t n H λx s=>R n s λy H2=>b x y H2)(k:∀v u s2 x y H2,Inv X d n H2 s2->RelV x v->RelV y u->b x y H2->wpAny (model X.prog X.w) X.A (c6 v u) q X.xe s2):
  wpAny (model X.prog X.w) X.A (eval o X.env) (λv s₁=>wpAny (model X.prog X.w) X.A (eval Z X.env) (λu s₂=>wpAny (model X.prog X.w) X.A (c6 v u) q X.xe s₂) X.xe s₁) X.xe c:=by
 refine G3 (a d c n H _ I h) λv j ⟨x,s,l,i,m⟩=>?_;refine G3 (Q d j n s _ l m) λu s2 ⟨y,H2,g,e,q2⟩=>?_;exact k v u s2 x y H2 g i e q2
def a2F{op:Operator}(e:V3 X (aK op) c7)(m:PE X o t)(l:PE X Z R):PE X (.BinOp o op Z p) (sD c7 t R):=by exact λc s j H Q I h=>wpAny_BinOp (UC m l I h λv u f x y d g k i q=>e c f j d x y v u Q g k i q)
def a2D{op:UnaryOp}{r:V->Hp->VK->Prop}(d:VQ X (unaryOp op) r)(k:PE X o t):PE X (.UnaryOp op o p) (tUn r t):=by exact λb s c H Q I h=>UnaryOp_ (G3 (k b s c H _ I h) λv f ⟨x,g,i,e,j⟩=>d b f c g x v Q i e j)
def Vr{C:Int->Int->Prop}(a:∀(i j:Int) (t u:Tok) (s:v7) (Q:t5->v7->Prop) (E:t5->v7->Prop),C i j->Q (.int (i0 i j) s.toks) {s with toks:=s.toks+1}->wpAny (model X.prog X.w) X.A (c6 (.int i t) (.int j u)) Q E s):
  V3 X c6 (rI C λi j=>.int (i0 i j)):=by intro b s l H x y v u Q I e c h;obtain⟨i,j,rfl,rfl,k,q⟩:=h;obtain⟨t,rfl⟩:=e;obtain⟨d,rfl⟩:=c;exact a i j t d s _ _ k ⟨.int (i0 i j),H,I.tok _,⟨_,rfl⟩,q⟩
def a0J(a:∀(i j:Int) (t u:Tok) (s:v7) (Q:t5->v7->Prop) (E:t5->v7->Prop),Q (.int (i0 i j) s.toks) {s with toks:=s.toks+1}->wpAny (model X.prog X.w) X.A (c6 (.int i t) (.int j u)) Q E s):
  V3 X c6 (mX λi j=>.int (i0 i j)):=by intro b s k H x y v u Q I e c h;obtain⟨i,j,rfl,rfl,q⟩:=h;obtain⟨t,rfl⟩:=e;obtain⟨d,rfl⟩:=c;exact a i j t d s _ _ ⟨.int (i0 i j),H,I.tok _,⟨_,rfl⟩,q⟩
def Jx{g:Int->Int->Bool}(a:∀(i j:Int) (t u:Tok) (s:v7) (Q:t5->v7->Prop) (E:t5->v7->Prop),Q (.bool (g i j)) s->wpAny (model X.prog X.w) X.A (c6 (.int i t) (.int j u)) Q E s):
  V3 X c6 (mX λi j=>.bl (g i j)):=by intro b s k H x y v u Q I e c h;obtain⟨i,j,rfl,rfl,q⟩:=h;obtain⟨t,rfl⟩:=e;obtain⟨d,rfl⟩:=c;exact a i j t d s _ _ ⟨.bl (g i j),H,I,rfl,q⟩
def a2b(i j:Int):Prop:=0<=j/\j<=1000000/\i.natAbs<2 ^ 64
def IQ(k:Nat):(0:Int)<=2 ^ k:=by exact FW _
def a0I:V3 X (aK .Add) (mX λi j=>.int (i+j)):=a0J λ_ _ _ _ _ _ _ q=>add_int q
def a0B:V3 X (aK .Sub) (mX λi j=>.int (i-j)):=a0J λ_ _ _ _ _ _ _ q=>sub_int q
def XC:V3 X (aK .Mod) (rI (λ_ j=>j≠0) λi j=>.int (i.fmod j)):=Vr λ_ _ _ _ _ _ _ a q=>mod_int' a q
def a0C:V3 X (aK .RShift) (rI (λ_ j=>0<=j) λi j=>.int (i/2 ^ j.toNat)):=Vr λi j _ _ _ _ _ a q =>
 rshift_int a (by rw[cS i (IQ _)];exact q)
def unI{f:t5->Sem t5}{g:Int->Int}(a:∀(i:Int) (t:Tok) (s:v7) (Q:t5->v7->Prop) (E:t5->v7->Prop),Q (.int (g i) s.toks) {s with toks:=s.toks+1}->wpAny (model X.prog X.w) X.A (f (.int i t)) Q E s):
  VQ X f (rU λi=>.int (g i)):=by intro b s d H x v Q I c h;obtain⟨i,rfl,q⟩:=h;obtain⟨t,rfl⟩:=c;exact a i t s _ _ ⟨.int (g i),H,I.tok _,⟨_,rfl⟩,q⟩
def Zc:VQ X (unaryOp .USub) (rU λi=>.int (-i)):=unI λ_ _ _ _ _ q=>neg_int q
noncomputable def Zw:V->V->Bool
 | .non,.non=>Uf | .non,.int _=>Uf | .int _,.non=>Uf | .non,.bl _=>Uf | .bl _,.non=>Uf | .non,.str _=>Uf | .str _,.non=>Uf
 | .int _,.int _=>Uf | .bl _,.bl _=>Uf | .str _,.str _=>Uf | .byt _,.byt _=>Uf
 | .int _,.str _=>Uf | .str _,.int _=>Uf | .bl _,.str _=>Uf | .str _,.bl _=>Uf
 |_,_=>U'
def rEq:R2:=λx y H Q=>Zw x y=Uf/\Q (.bl (decide (x=y))) H
def rNe:R2:=λx y H Q=>Zw x y=Uf/\Q (.bl (!decide (x=y))) H
def ID{i j:Int}:decide (V.int i=V.int j)=(i==j):=by rw[qY];simp
def NQ{j:Bool}:decide (V.bl c9=V.bl j)=(c9==j):=by rw[qY];simp
def IC{j:Str}:decide (V.str m=V.str j)=(m==j):=by rw[qY];simp
def IE{i j:Array UInt8}:decide (V.byt i=V.byt j)=(i.toList==j.toList):=by rw[qY];cases i;cases j;simp
def L7{H:Hp}{k':Bool}(I:Inv X d n H c)(q:d3 (.bl c9) H)(e:c9=k'):EP X d n d3 (.bool k') c:=by subst e;exact⟨.bl c9,H,I,rfl,q⟩
def a2L:V3 X (X5 .Eq) rEq:=by
 intro e s f H x y v u Q I d a h;obtain⟨c,q⟩:=h;cases x with
 |non =>
  cases d;cases y with
  |non=>cases a;exact PySem.EqNone.eq_none_none (L7 I q rfl)
  |bl j=>cases a;exact PySem.EqNone.eq_none_bool (L7 I q rfl)
  |int j=>obtain⟨b,rfl⟩:=a;exact PySem.EqNone.eq_none_int (L7 I q rfl)
  |str j=>obtain⟨b,rfl⟩:=a;exact PySem.EqNone.eq_none_str (L7 I q rfl)
  |_=>exact absurd (show U'=Uf from c) dI
 |bl i =>
  cases d;cases y with
  |non=>cases a;exact PySem.EqNone.eq_bool_none (L7 I q rfl)
  |bl j=>cases a;exact eq_bool (L7 I q NQ)
  |str j=>obtain⟨b,rfl⟩:=a;exact PySem.EqMixed.eq_bool_str (L7 I q rfl)
  |_=>exact absurd (show U'=Uf from c) dI
 |int i =>
  obtain⟨t,rfl⟩:=d;cases y with
  |non=>cases a;exact PySem.EqNone.eq_int_none (L7 I q rfl)
  |int j=>obtain⟨b,rfl⟩:=a;exact eq_int (L7 I q ID)
  |str j=>obtain⟨b,rfl⟩:=a;exact PySem.EqMixed.eq_int_str (L7 I q rfl)
  |_=>exact absurd (show U'=Uf from c) dI
 |str i =>
  obtain⟨t,rfl⟩:=d;cases y with
  |non=>cases a;exact PySem.EqNone.eq_str_none (L7 I q rfl)
  |bl j=>cases a;exact PySem.EqMixed.eq_str_bool (L7 I q rfl)
  |int j=>obtain⟨b,rfl⟩:=a;exact PySem.EqMixed.eq_str_int (L7 I q rfl)
  |str j=>obtain⟨b,rfl⟩:=a;exact eq_str (L7 I q IC)
  |_=>exact absurd (show U'=Uf from c) dI
 |byt i =>
  obtain⟨t,rfl⟩:=d;cases y with
  |byt j=>obtain⟨b,rfl⟩:=a;exact PySem.W.eq_bytes (L7 I q IE)
  |_=>exact absurd (show U'=Uf from c) dI
 |_=>cases y<;>exact absurd (show U'=Uf from c) dI
def a2I:V3 X (X5 .NotEq) rNe:=by
 intro e s f H x y v u Q I d a h;obtain⟨c,q⟩:=h;cases x with
 |non =>
  cases d;cases y with
  |non=>cases a;exact PySem.EqNone.ne_none_none (L7 I q rfl)
  |bl j=>cases a;exact PySem.EqNone.ne_none_bool (L7 I q rfl)
  |int j=>obtain⟨b,rfl⟩:=a;exact PySem.EqNone.ne_none_int (L7 I q rfl)
  |str j=>obtain⟨b,rfl⟩:=a;exact PySem.EqNone.ne_none_str (L7 I q rfl)
  |_=>exact absurd (show U'=Uf from c) dI
 |bl i =>
  cases d;cases y with
  |non=>cases a;exact PySem.EqNone.ne_bool_none (L7 I q rfl)
  |bl j=>cases a;exact ne_bool (L7 I q (D3 not NQ))
  |str j=>obtain⟨b,rfl⟩:=a;exact PySem.EqMixed.ne_bool_str (L7 I q rfl)
  |_=>exact absurd (show U'=Uf from c) dI
 |int i =>
  obtain⟨t,rfl⟩:=d;cases y with
  |non=>cases a;exact PySem.EqNone.ne_int_none (L7 I q rfl)
  |int j=>obtain⟨b,rfl⟩:=a;exact ne_int (L7 I q (D3 not ID))
  |str j=>obtain⟨b,rfl⟩:=a;exact PySem.EqMixed.ne_int_str (L7 I q rfl)
  |_=>exact absurd (show U'=Uf from c) dI
 |str i =>
  obtain⟨t,rfl⟩:=d;cases y with
  |non=>cases a;exact PySem.EqNone.ne_str_none (L7 I q rfl)
  |bl j=>cases a;exact PySem.EqMixed.ne_str_bool (L7 I q rfl)
  |int j=>obtain⟨b,rfl⟩:=a;exact PySem.EqMixed.ne_str_int (L7 I q rfl)
  |str j=>obtain⟨b,rfl⟩:=a;exact ne_str (L7 I q (D3 not IC))
  |_=>exact absurd (show U'=Uf from c) dI
 |byt i =>
  obtain⟨t,rfl⟩:=d;cases y with
  |byt j=>obtain⟨b,rfl⟩:=a;exact PySem.W.ne_bytes (L7 I q (D3 not IE))
  |_=>exact absurd (show U'=Uf from c) dI
 |_=>cases y<;>exact absurd (show U'=Uf from c) dI
def Jv:V3 X (X5 .Lt) (mX λi j=>.bl (decide (i<j))):=Jx λ_ _ _ _ _ _ _ q=>lt_int q
def Vq:V3 X (X5 .LtE) (mX λi j=>.bl (decide (i<=j))):=Jx λ_ _ _ _ _ _ _ q=>le_int q
def a2J:V3 X (X5 .Gt) (mX λi j=>.bl (decide (j<i))):=Jx λ_ _ _ _ _ _ _ q=>gt_int q
def a2K:V3 X (X5 .GtE) (mX λi j=>.bl (decide (j<=i))):=Jx λ_ _ _ _ _ _ _ q=>ge_int q
def Mo:V3 X (X5 .Is) (λx y H Q=>y=.non/\Q (.bl (decide (x=.non))) H):=by
 intro b s d H x y v u Q I a c h;obtain⟨rfl,q⟩:=h;cases c;refine is_none_gen (L7 I q ?_);cases x<;>first
  |(cases a;rfl)
  |(obtain⟨t,rfl⟩:=a;rfl)
def Xz:V3 X (X5 .IsNot) (λx y H Q=>y=.non/\Q (.bl (!decide (x=.non))) H):=by
 intro b s d H x y v u Q I a c h;obtain⟨rfl,q⟩:=h;cases c;refine isnot_none_gen (L7 I q ?_);cases x<;>first
  |(cases a;rfl)
  |(obtain⟨t,rfl⟩:=a;rfl)
def V3.or{b:R2}(h:V3 X c6 c7)(h':V3 X c6 b):V3 X c6 (λx y H Q=>c7 x y H Q\/b x y H Q):=by
 intro a s d H x y v u Q I e c q;rcases q with q|q
 exact h a s d H x y v u Q I e c q;exact h' a s d H x y v u Q I e c q
def fK(b:Expr)(h:autoParam (d5≠.In) H0)(a:autoParam (d5≠.NotIn) H0):qW d5 b=U':=by
 have d:(d5==CmpOp.In)=U':=by cases d5<;>first|rfl|exact absurd rfl h
 have c:(d5==CmpOp.NotIn)=U':=by cases d5<;>first|rfl|exact absurd rfl a
 cases b<;>simp[qW,d,c]
def Xx(f:V3 X (X5 d5) c7)(n:PE X o t)(m:PE X Z R)(d:qW d5 Z=U'):PE X (.Compare o [d5] [Z] p) (sD c7 t R):=by exact λc s k H Q I h=>wpAny_Compare1 (UC n m I h λv u g x y e i l j q=>f c g k e x y v u Q i l j q) d
def BN(t:TE):TT:=λσ H Q=>t σ H λx H'=>∃k,x=.bl k/\Q k H'
def Xc(g:V3 X (X5 d5) c7)(E:PE X o t)(D:PE X Z R)(a:qW d5 Z=U'):PT X (.Compare o [d5] [Z] p) (BN (sD c7 t R)):=by
 intro d s f H Q I h;refine wpAny_isTrue_Compare1 (G3 (E d s f H _ I h) λv l ⟨x,B,m,b,C⟩=>G3 (D d l f B _ m C) λu q ⟨y,r,j,n,q2⟩ =>
  G3 (g d q f r x y v u _ j b n q2) λc G ⟨z,w,F,A,k,e,i⟩=>?_) a
 subst e;cases A;exact mC ⟨w,F,i⟩
def Cr(r r':R2)(ta tb tc:TE):TE:=λσ H Q=>ta σ H λx H1=>tb σ H1 λy H2=>r x y H2 λz H3=>∃k,z=.bl k /\
 (if k=Uf then tc σ H3 λw' H4=>r' y w' H4 Q else Q (.bl U') H3)
def RJ{c:Expr}{tc:TE}{g:CmpOp}{n:R2}(r:V3 X (X5 d5) c7)(j:V3 X (X5 g) n)(ha:PE X o t)(hb:PE X Z R)(hc:PE X c tc)(N:lastMarks [d5,g] [Z,c]=U':=by with_unfolding_all rfl):PT X (.Compare o [d5,g] [Z,c] p) (BN (Cr c7 n t R tc)):=by
 intro f s i H Q I h;refine isTrue_chain (G3 (ha f s i H _ I h) λv C ⟨x,H1,E,W,q1⟩=>test_link (G3 (hb f C i H1 _ E q1) λu V ⟨y,O,A,m,q2⟩ =>
  G3 (r f V i O x y v u _ A W m q2) λd q ⟨z,a,tb,b,k,e,l⟩=>?_)) N
 subst e;cases b;refine mC ?_;cases k with
 |false =>
  obtain⟨k',F,D⟩:=l;cases F;exact ite_ff ⟨a,tb,D⟩
 |true =>
  refine ite_tt (test_last (G3 (hc f q i a _ tb l) λB s4 ⟨S,K,P,Y,T⟩=>G3 (j f s4 i K y S u B _ P m Y T) λd' s5 ⟨z2,ta,w,M,k2,L,G⟩=>?_));subst L;cases M;exact mC ⟨ta,w,G⟩
def qC:(F0:Nat)<2 ^ 63:=by rw[mi];decide
def Jw:V3 X (aK .Add) (λx y H Q=>∃i j,x=.str i/\y=.str j/\i.length+j.length<=F0/\Q (.str (i++j)) H):=by intro a s g H x y v u Q I e c h;obtain⟨i,j,rfl,rfl,b,q⟩:=h;obtain⟨t,rfl⟩:=e;obtain⟨d,rfl⟩:=c;exact add_str (λd f=>⟨.str (i++j),H,I.tok _,⟨_,rfl⟩,q⟩) b
def vals1(r:Vals [M] z):∃u,z=[u]/\RelV M u:=by
 cases r with
 |cons b a=>cases a;exact⟨_,rfl,b⟩
def vals2{y:V}(r:Vals [M,y] z):∃u w',z=[u,w']/\RelV M u/\RelV y w':=by
 cases r with
 |cons c a =>
  cases a with
  |cons b d=>cases d;exact⟨_,_,rfl,c,b⟩
def Uz:ae X (.builtin "abs") (λxs H Q=>∃i,xs=[.int i]/\Q (.int (if i<0 then -i else i)) H):=by intro a s c H xs d Q I r h;obtain⟨i,rfl,q⟩:=h;obtain⟨u,rfl,t,rfl⟩:=vals1 r;exact call_abs_int λu b=>⟨.int (if i<0 then -i else i),H,I.tok _,⟨_,rfl⟩,q⟩
def Oa(c:X.calm=Uf):ae X (.builtin "max") (λxs H Q=>∃i j,xs=[.int i,.int j]/\Q (.int (if j>i then j else i)) H):=by
 intro b s g H xs m Q I r h;obtain⟨i,j,rfl,q⟩:=h;obtain⟨u,e,rfl,⟨t,rfl⟩,⟨l,rfl⟩⟩:=vals2 r;refine max_two_ints (I.ok.hd c) λd f k=>⟨_,H,I.kept k,?_,q⟩;by_cases a:j>i;rw[t2 a,t2 a];exact⟨_,rfl⟩;rw[s9 a,s9 a];exact⟨_,rfl⟩
structure xi(h:Heap)(x dx C:Addr)(mA:Str->Option t5):Prop where
 obj:h.get? x=U (mw C dx)
 ns:h.Ns1 dx mA
 ne:dx≠x
set_option tactic.hygienic true in
def MS(n:h.Ns1 e a8):∃od,h.get? e=U od/\∀name,yX name od=U (a8 name):=by
 obtain⟨o,c,p,j,g,m,_,i⟩:=n;refine⟨o,j,λname=>?_⟩;have f:=i name;unfold nsFind findBy at f;rw[<-Array.find?_toList]at f;delta yX;rw[g];dsimp only;split;rename_i y q;rw[q]at f;exact D3 U f
 . rename_i q;rw[q]at f;have a:c.toList.any (·.refKey)=U':=by rw[List.any_eq_false];intro y k;obtain⟨z,t,b⟩:=m y (Array.mem_toList_iff.mp k);simp[DictEntry.refKey,b]
   have l:¬c.toList.any (·.refKey)=Uf:=by rw[a];exact dI
   rw[s9 l];exact D3 U f
def xi.look{C:Addr}(I:xi h e B C a8):∃od,yW h e (mw C B) C (U od)/\∀name,yX name od=U (a8 name):=
 let ⟨od,c,d⟩:=MS I.ns
 ⟨od,⟨I.obj,rfl,rfl,c⟩,d⟩
section
variable{prog:M3}{w:E3}{K:y7}
def get_map{C:Addr}{Q:t5->v7->Prop}(X:K.In c.heap)(I:xi c.heap e B C a8)(d:uG K C m=Uf)(E:uJ K C=Uf)(g:bq K (.ref C) m=U J)(f:a8 m=U D)(b:OP D=Uf)(h:Q D {c with toks:=c.toks+1}):
  wpAny (model prog w) A (getAttr (.ref e) m c9) Q q c:=by obtain⟨i,Jff,s⟩:=I.look;exact PySem.W.get_value X Jff (FY d).1 (PySem.W.findObj_own E g rfl (by rw[s,f])) b h
def TK{C f:Addr}(X:K.In c.heap)(I:xi c.heap e B C a8)(a:uG K C m=Uf)(d:bq K (.ref C) m=U (U (.ref f)))(b:uA K (.ref f)=Uf)(E:a8 m=J)(h:i3 (.ref f,[.ref e]) c):
  wpAny (model prog w) A (jQ (.ref e) m d6) i3 q c:=by obtain⟨s,Jff,g⟩:=I.look;exact PySem.W.method_fn X Jff (FY a).1 (FY a).2 d (beq_iff_eq.mp b) (by show(yX m s).map (·.isSome)=U U';rw[g,E];rfl) h
def WA{C:Addr}(X:K.In c.heap)(I:xi c.heap e B C a8)(hs:bq K (.ref C) "__setattr__" = U (U (.builtin "object.__setattr__")))(p:FL K C=Uf)(j:Fw K C m=U J)(o:uJ K C=Uf)(l:ER a8 N)(hsz:N.length<=F0)(h:∀h',xi h' e B C (λy=>if y=m then U D else a8 y)->oR B c.heap h'->b9 () {c with heap:=h',toks:=c.toks+2}):
  wpAny (model prog w) A (setAttr (.ref e) m D) b9 q c:=by
 obtain⟨t,Jff,u⟩:=I.look;refine PySem.W.set_plain X Jff hs (PySem.W.osa_open X Jff p j λb=>?_);obtain⟨v,E,x⟩:=ze o;refine u7 (A3 (u7 (u7 (wpAny_loadPart I.obj (u7 (PySem.W.Looks.here (PySem.W.looks_clsIn X E) ?_))))));rw[x];refine A3 (u7 (A3 (u7 ?_)));refine wpAny_nsSet1 I.ns λh' d s=>?_;obtain⟨z,n,k,g,i,f⟩:=d.count (PySem.Within.cons m D l);refine u7 (wpAny_lookBehind g (by rw[i];exact pastItsLine_dict (C3 f (by rw[X9];simp[*]))) ?_);exact A3 (h _ ⟨(s.2 _ (lZ I.ne)).trans I.obj,d,I.ne⟩ s)
def Tj {R:Result->v7->Prop} (X:K.In c.heap) (s:Fs K e=Uf) (C:bq K (.ref e) "__init__" = U (U (.ref B))) (i:PySem.W.typeIn K (.ref B)=U (.type "function")) (h:codeAny (model prog w) (A.under (.builtin "type.__call__" ⟨.ref e::z,e9⟩)) (.call (.ref B) ⟨.ref ((hz c) + 1)::z,e9⟩) (PySem.W.InitBack ((hz c) + 1) R)
   {c with heap:=(c.heap.push mB).push (mw e (hz c))}) :
  codeAny (model prog w) A (.call (.ref e) ⟨z,e9⟩) R c:=by obtain⟨j,g,d,t,k⟩:=c;exact PySem.W.make_core (PySem.W.makes_of X s) (Ga X C) (λa=>PySem.W.bind_fn X a i) (.inl rfl) h
end
noncomputable def dg(f:Str)(v:V):List (Str×V)->List (Str×V)
 | []=>[(f,v)]
 |(g,x)::r=>if g=f then(g,v)::r else(g,x)::dg f v r
theorem vS(f g:Str)(v:V):∀fs:List (Str×V),(dg f v fs).lookup g=if g=f then U v else fs.lookup g
 | []=>by
  show fQ g [(f,v)]=_;by_cases h:g=f;have a:=beq_iff_eq.mpr h;simp only[fQ,a,t2 h];have a:=beq_eq_false_iff_ne.mpr h;simp only[fQ,a,s9 h]
 |(k,x)::r=>by
  rw[show dg f v ((k,x)::r)=(if k=f then(k,v)::r else(k,x)::dg f v r)from rfl];by_cases b:k=f;rw[t2 b];by_cases h:g=k;have a:=beq_iff_eq.mpr h;simp only[fQ,a,t2 (h.trans b)];have a:=beq_eq_false_iff_ne.mpr h;simp only[fQ,a,s9 (λe:g=f=>h (e.trans b.symm))];rw[s9 b];by_cases h:g=k;have a:=beq_iff_eq.mpr h;simp only[fQ,a,s9 (λe:g=f=>b (h.symm.trans e))];have a:=beq_eq_false_iff_ne.mpr h;simp only[fQ,a];exact(vS f g v r)
theorem tS(f:Str)(v:V):∀fs:List (Str×V),f∈(dg f v fs).map (·.1)/\∀g,g∈fs.map (·.1)->g∈(dg f v fs).map (·.1)
 | []=>⟨by simp[dg],λg h=>by simp at h⟩
 |(k,x)::r=>by
  obtain⟨b,c⟩:=tS f v r;rw[show dg f v ((k,x)::r)=(if k=f then(k,v)::r else(k,x)::dg f v r)from rfl];by_cases a:k=f;rw[t2 a];subst a;exact⟨F7,λg h=>by simpa using h⟩
  . rw[s9 a];refine⟨?_,λg h=>?_⟩;rw[C6];exact C4 _ b
    . rw[C6]at h ⊢;rcases List.mem_cons.mp h with e|e
      exact List.mem_cons.mpr (.inl e);exact C4 _ (c g e)
theorem vU(f:Str)(v:V):∀fs:List (Str×V),(dg f v fs).length<=fs.length+1
 | []=>by simp[dg]
 |(k,x)::r=>by
  have:=vU f v r;rw[show dg f v ((k,x)::r)=(if k=f then(k,v)::r else(k,x)::dg f v r)from rfl];by_cases a:k=f;rw[t2 a,X9,X9];simp[*];rw[s9 a,X9,X9];simp[*]
def gM.some_of(r:gM (U M) i4):∃u,i4=U u/\RelV M u:=by
 cases i4 with
 |none=>exact(show False from r).elim
 |some u=>exact⟨u,rfl,r⟩
def gM.none_of(r:gM J i4):i4=J:=by
 cases i4 with
 |none=>rfl
 |some u=>exact(show False from r).elim
def Nr(r:RelV M D):OP D=Uf:=by
 cases M with
 |non=>cases(show D=uq from r);rfl
 |bl b=>cases(show D=uo b from r);rfl
 |int i=>obtain⟨t,e⟩:=(show ∃t,D=yE i t from r);cases e;rfl
 |str x=>obtain⟨t,e⟩:=(show ∃t,D=yD x t from r);cases e;rfl
 |byt b=>obtain⟨t,e⟩:=(show ∃t,D=Value.bytes b t from r);cases e;rfl
 |flt b=>obtain⟨t,e⟩:=(show ∃t,D=Value.float b t from r);cases e;rfl
 |ref a=>cases(show D=ba a from r);rfl
 |ty n=>cases(show D=yF n from r);rfl
section
variable{w:E3}
def Af{dx:Addr}(c:J2 y w a h)(P:a e=U (.ins B dx d8)):∃b,xi h e dx B b/\(∀f,gM (d8.lookup f) (b f))/\ER b (d8.map (·.1))/\d8.length<=1000/\a dx=U (.own e):=by
 obtain⟨d,z,ne,g,b,n,r,q⟩:=(show X4 y w a h e (.ins B dx d8)from c e _ P);exact⟨b,⟨g,n,ne⟩,r,q,z,d⟩
end
structure uX(K:y7)(C:Addr):Prop where
 pg:uG K C md=Uf
 hd:uJ K C=Uf
 po:FL K C=Uf
 sa:bq K (.ref C) "__setattr__" = U (U (.builtin "object.__setattr__"))
def uX.get(c:uX O e)(f:Str):uG O e f=Uf:=c.pg
def aI(K:y7)(C:Addr)(f:Str):Prop:=bq K (.ref C) f=U J
def aI.a2q(n:aI O e m):Fw O e m=U J:=by
 delta Fw;rw[show bq O (.ref e) m=U J from n];rfl
structure Con(K:y7)(C:Addr)(f:Str)(v:V)(u:t5):Prop where
 at_:bq K (.ref C) f=U (U u)
 rel:RelV v u
 get:FK K u "__get__" = U J
 cp:PySem.W.copiedNames.contains f=U'
structure Meth(K:y7)(C:Addr)(m:Str)(f:Addr):Prop where
 at_:bq K (.ref C) m=U (U (.ref f))
 fn:uA K (.ref f)=Uf
 kp:hP K (.ref f)=Uf
def Kb{dx:Addr}{Q:t5->v7->Prop}(I:Inv X d n a c)(C:a e=U (.ins B dx d8))(s:uX X.K B)(H:aI X.K B m)(l:d8.lookup m=U M)(h:∀u s',Inv X d n a s'->RelV M u->Q u s'):wpAny (model X.prog X.w) A (getAttr (.ref e) m c9) Q q c:=by
 obtain⟨i,O,r,_,_,_⟩:=Af I.J7 C;obtain⟨u,g,σ⟩:=gM.some_of (by rw[<-l];exact r m);exact get_map I.gP O (s.get m) s.hd H g (Nr σ) (h u _ (I.tok _) σ)
def yf{dx:Addr}{g:Addr}(I:Inv X d n a c)(H:a e=U (.ins B dx d8))(σ:uX X.K B)(k:Meth X.K B m g)(l:d8.lookup m=J)(h:i3 (.ref g,[.ref e]) c):wpAny (model X.prog X.w) A (jQ (.ref e) m d6) i3 q c:=by
 obtain⟨mA,O,r,_,_,_⟩:=Af I.J7 H;have hn:mA m=J:=gM.none_of (by rw[<-l];exact r m);exact TK I.gP O (σ.get m) k.at_ k.fn hn h
def Ja{dx:Addr}(I:Inv X d n a c)(C:a e=U (.ins B dx d8))(s:uX X.K B)(H:aI X.K B m)(G:d8.length<1000)(t:RelV M D)(h:∀s',Inv X d n (upd a e (.ins B dx (dg m M d8))) s'->b9 () s'):wpAny (model X.prog X.w) A (setAttr (.ref e) m D) b9 q c:=by
 obtain⟨i,O,r,k,_,j⟩:=Af I.J7 C;have p:(d8.map (·.1)).length<=F0:=by rw[E7,mi];exact pJ
 refine WA I.gP O s.sa s.po H.a2q s.hd k p λE σ f=>h _ ?_
 have l:∃o,E.get? dx=U o:=let ⟨o,_,_,u,_⟩:=σ.ns;⟨o,u⟩;refine I.write (by rw[C];exact cT) (.inr j) (λb y F z=>(f.2 b F).trans z) l ?_
 refine⟨by rw[J6 O.ne];exact j,?_,O.ne,σ.obj,_,σ.ns,λg=>?_,λg v=>?_⟩;have:=vU m M d8;exact C3 v5 v5;show gM ((dg m M d8).lookup g) (if g=m then U D else i g);rw[vS];by_cases y:g=m;rw[t2 y,t2 y];exact t;rw[s9 y,s9 y];exact r g;by_cases y:g=m;rw[y];exact(tS m M d8).1;refine(tS m M d8).2 g (k g λz=>v ?_);show(if g=m then U D else i g)=J;rw[s9 y];exact z
def Inv.made{C:Addr}(I:Inv X d n a c):Inv X d n (upd (upd a (hz c) (.own ((hz c)+1))) ((hz c)+1) (.ins C (hz c) []))
  {c with heap:=(c.heap.push mB).push (mw C (hz c))}:=by
 have H:(c.heap.push mB).get? (hz c)=U mB:=W2 c.heap rfl;have g:((c.heap.push mB).push (mw C (hz c))).get? ((hz c)+1)=U (mw C (hz c)):=by
  have:=W2 (c.heap.push mB) (o:=mw C (hz c)) rfl
  rwa [iu]at this
 have s:(c.heap.push mB).Ns (hz c) (λ_=>J):=⟨mB,#[],_,H,rfl,(λe f=>absurd f (λh=>nomatch h)),λ_=>rfl⟩;have σ:=I.laid (o:=.own ((hz c)+1)) (t':=c.toks) (λb u q=>L6 _ q) F3 ⟨_,H⟩;refine σ.laid (λb u q=>L6 _ q) (oQ (iu _ _)) ?_;have ne:(hz c)≠(hz c)+1:=R8 (rh _);refine⟨by rw[J6 ne,O4],eX _,ne,g,λ_=>J,(Heap.Ns1.of_empty s).at λo q=>L6 _ q,λ_=>cT,λy h=>absurd rfl h⟩
def Yy{env:Env}{Q:t5->v7->Prop}(a:aU o m env (eval o env)=eval o env)(h:wpAny (model y a7) A (eval o env) (λE s₁=>wpAny (model y a7) A (getAttr E m Uf) Q q s₁) q c):wpAny (model y a7) A (eval (.Attribute o m p) env) Q q c:=
 Attribute_any_ h (by rw[arm_eval_Attribute,a])
def rB(K:y7)(ta:TE)(f:Str):TE:=λσ H Q=>ta σ H λx H1=>∃a C dx fs v,x=.ref a/\H1 a=U (.ins C dx fs)/\uX K C/\aI K C f/\fs.lookup f=U v/\Q v H1
def ZC(K:y7)(ta tv:TE)(f:Str):TS:=λD σ H=>tv σ H λy H1=>ta σ H1 λx H2=>∃a C dx fs,x=.ref a/\H2 a=U (.ins C dx fs)/\uX K C/\aI K C f/\fs.length<1000 /\
 D.nx σ (upd H2 a (.ins C dx (dg f y fs)))
def tG(g:PE X o t)(r:aU o m X.env (eval o X.env)=eval o X.env):PE X (.Attribute o m p) (rB X.K t m):=by
 intro b s j H Q I h;refine Yy r (G3 (g b s j H _ I h) λu y ⟨x,f,e,k,a,C,z,fs,v,D,d,c,n,l,q⟩=>?_);subst D;obtain rfl:=k;exact Kb e d c n l λA w i B=>⟨v,f,i,B,q⟩
def a0k(w:PE X o t)(r:PE X Z R)(hs:cw Z (U (.Attribute o m S)) p.line X.env=pure U'):PS X (.Assign [.Attribute o m S] Z p) (ZC X.K t R m):=by
 intro b s d H D I h;refine plainObj_wpAny_Assign_Attribute (G3 (r b s d H _ I h) λu j ⟨y,v,f,K,q⟩=>G3 (w b j d v _ f q) λk E ⟨x,B,g,i,a,C,F,fs,G,e,c,n,l,q2⟩=>?_) hs;subst G;obtain rfl:=i;exact Ja g e c n l K λA z=>⟨d,_,z,q2⟩
section
variable{H:Hp}{Q:t5->v7->Prop}
inductive oF(K:y7)(H:Hp):V->t5->Prop where
 |non:oF K H .non (.type "NoneType")
 |bl (x:Bool):oF K H (.bl x) (.type "bool")
 |int (i:Int):oF K H (.int i) (.type "int")
 |str (x:Str):oF K H (.str x) (.type "str")
 |flt (x:UInt64):oF K H (.flt x) (.type "float")
 |lst {a:Addr} {xs:List V} (e:H a=U (.lst xs)):oF K H (.ref a) (.type "list")
 |dP {a:Addr} {o:Obj} {xs:List V} (e:H a=U (.dP o (.lst xs))):oF K H (.ref a) (.type "list")
 |tup {a:Addr} {xs:List V} (e:H a=U (.tup xs)):oF K H (.ref a) (.type "tuple")
 |dK {a:Addr} {kvs:List (Key×V)} (e:H a=U (.dK kvs)):oF K H (.ref a) (.type "dict")
 |dT {a:Addr} {kvs:List (List Key×V)} (e:H a=U (.dT kvs)):oF K H (.ref a) (.type "dict")
 |ins {a C dx:Addr} {fs:List (Str×V)} (e:H a=U (.ins C dx fs)) (cl:uX K C) (ha:bq K (.ref C) "__class__" = U (U (.builtin "object.__class__")))
   (hn:FK K (.builtin "object.__class__") "__get__" = U (U (.builtin "getset_descriptor.__get__"))) (htk:OB K (.builtin "object.__class__")=U Uf)
   (hm:EW K C (.type "object")=U Uf):oF K H (.ref a) (.ref C)
end
structure O9(k:Nat)(A:Z0):Prop where
 hd:A.handled=J
 dp:A.depth+3*k+5<recursionLimit
 un:A.units+16*k+200<S7
def O9.mono{j:Nat}(r:O9 k A)(h:j<=k):O9 j A:=⟨r.hd,by have:=r.dp;lia,by have:=r.un;lia⟩
theorem O9.deeper(r:O9 (k+1) A)(env:Env):O9 k (A.deeper env):=
 ⟨r.hd,by have:=r.dp;show A.depth+1+3*k+5<_;lia,by have:=r.un;show A.units+3+16*k+200<_;lia⟩
def JQ:(A.under (.builtin "type.__call__" ⟨.ref e::z,e9⟩)).depth=A.depth+1:=by first|rfl|simp[EO]
def JP:(A.under (.builtin "type.__call__" ⟨.ref e::z,e9⟩)).units=A.units+1:=by first|rfl|simp[EO]
def O9.make(r:O9 (k+1) A)(C:Addr)(us:List t5)(a:List (Str×t5)):O9 k (A.under (.builtin "type.__call__" ⟨.ref C::us,a⟩)):=
 ⟨r.hd,by have:=r.dp;rw[JQ];lia,by have:=r.un;rw[JP];lia⟩
theorem O9.depth(r:O9 k A):A.depth<recursionLimit:=by have:=r.dp;lia
theorem O9.units(r:O9 k A):A.units+64<S7:=by have:=r.un;lia
def nY:TA:=λ_ H Q=>Q [] H
def jl(ta:TE)(tr:TA):TA:=λσ H Q=>ta σ H λx H1=>tr σ H1 λxs H2=>Q (x::xs) H2
def qy:PA X [] nY:=λ_ _ _ _ H Q I h=>FJ ⟨[],H,I,.nil,h⟩
def iW(e:PE X o t)(f:PA X G Y)(hs:autoParam (w4 (o::G) X.env=(U',eval o X.env)::w4 G X.env) t8):PA X (o::G) (jl t Y):=by
 intro pos a s b H Q I h;rw[hs];refine zm (G3 (e a s b H _ I h) λu k ⟨x,l,m,i,n⟩=>?_);exact G3 (f pos a k b l _ m n) λq p ⟨j,d,g,c,q2⟩=>⟨x::j,d,g,.cons i c,q2⟩
def QQ(t:TA):TE:=λσ H Q=>t σ H λxs H1=>xs.length<=F0/\∀p,H1 p=J->Q (.ref p) (upd H1 p (.tup xs))
def Zn(t:TA):TE:=λσ H Q=>t σ H λxs H1=>xs.length<=F0/\∀p,H1 p=J->Q (.ref p) (upd H1 p (.lst xs))
def Mh{x1}(h:PA X G Y):PE X (.Tuple G x1 p) (QQ Y):=by
 intro pins s σ H Q I hq;refine wpAny_Tuple_spliced (G3 (h p pins s σ H _ I hq) λus s1 ⟨xs,H1,I1,r,z,q⟩=>⟨by rw[<-r.length];exact z,?_⟩);have hf:H1 s1.heap.objs.size=J:=I1.J7.fresh F3;refine⟨.ref s1.heap.objs.size,upd H1 s1.heap.objs.size (.tup xs),I1.laid (t':=s1.toks) (λb u e=>L6 _ e) F3 ?_,rfl,q _ hf⟩;exact⟨z,us,r,⟨_,W2 _ rfl,rfl,_,rfl⟩⟩
def a0v(h:PA X G Y):PE X (.List G p) (Zn Y):=by
 intro pins s σ H Q I hq;refine wpAny_List_spliced (G3 (h p pins s σ H _ I hq) λus s1 ⟨xs,H1,I1,r,z,q⟩=>⟨by rw[<-r.length];exact z,?_⟩);have hf:H1 s1.heap.objs.size=J:=I1.J7.fresh F3;refine⟨.ref s1.heap.objs.size,upd H1 s1.heap.objs.size (.lst xs),I1.laid (t':=s1.toks) (λb u e=>L6 _ e) F3 ?_,rfl,q _ hf⟩;exact⟨z,us,0,r,W2 _ rfl⟩
abbrev Sp:=List V->Hp->VK->XK->Prop
variable{b4:Sp}
abbrev Bx:=List Env->Hp->v7->XK->t5->v7->Prop
variable{a9:Bx}
structure xj(P:M3)(w:E3)(K:y7)(mg:Str->Option t5)(base:Heap)(A:Z0)(outer:List Env)(s:v7)(H:Hp):Prop where
 frames:A.frames=U outer
 mod:Mod K mg base
 bs:∀b o,base.get? b=U o->s.heap.get? b=U o/\H b=J
 sJ:base.objs.size<=s.heap.objs.size
 kJ:s.heap.FunFrames base outer
 Bo:∀b∈pP outer,H b=J
 J7:J2 P w H s.heap
 bare:jP s.gens
def CE(outer:List Env)(P:M3)(w:E3)(H:Hp)(s:v7)(Q:VK)(u:t5)(s':v7):Prop:=
 ∃v H',s'.os=s.os/\jP s'.gens/\Un (pP outer) [] H H' s.heap s'.heap/\J2 P w H' s'.heap/\RelV v u/\Q v H'
def CR(CX:Bx)(outer:List Env)(P:M3)(w:E3)(H:Hp)(s:v7)(Q:VK)(E:XK)(r:Result)(s':v7):Prop:=
 match r with
 | .ok (.ret u)=>CE outer P w H s Q u s'
 | .ok _=>False
 | .error e=>CX outer H s E e s'
structure bz(P:M3)(w:E3)(K:y7)(mg:Str->Option t5)(base:Heap)(CX:Bx)(k:Nat)(f:Addr)(fd:U5)(ps:List Str)(sp:Sp):Prop where
 len:∀vs H Q E,sp vs H Q E->vs.length=ps.length
 run:∀(A:Z0) (outer:List Env) (s:v7) (H:Hp) (args:Args) (us:List t5) (vs:List V) (Q:VK) (E:XK),O9 k A->xj P w K mg base A outer s H->lY s fd args (ps.zip us)->Vals vs us->sp vs H Q E ->
  codeAny (model P w) A (.call (.ref f) args) (CR CX outer P w H s Q E) s
def xj.make(e:xj y a7 O a8 h A i5 c a)(C:Addr)(us:List t5)(P:List (Str×t5)):
  xj y a7 O a8 h (A.under (.builtin "type.__call__" ⟨.ref C::us,P⟩)) i5 c a:=⟨by first|exact e.frames|(simpa [EO,Code.envs,Code.isFrame,pushEnvs]using e.frames),e.mod,e.bs,e.sJ,e.kJ,e.Bo,e.J7,e.bare⟩
def Inv.a1D(I:Inv X d n a c):xj X.prog X.w X.K X.mg X.base X.A X.stack c a:=
 ⟨I.ok.frames,I.ok.mod,I.bs,C3 I.ok.sJ I.sz,I.stack,I.Hi,I.J7,I.bare⟩
def Inv.after{s':v7}(I:Inv X d n a c)(h:CE X.stack X.prog X.w a c d3 D s'):EP X d n d3 D s':=by obtain⟨v,i,f,H,un,s,r,q⟩:=h;obtain⟨j,g,σ,t,e⟩:=s';obtain rfl:=f;exact⟨v,i,I.call un s H (λb z=>absurd z B9),r,q⟩
def rC(sp:Sp)(dvs:List V)(E:XK)(t:TA):TE:=λσ H Q=>t σ H λvs H1=>sp (vs++dvs) H1 Q E
def ni(C:Addr)(m:Str)(sp:Sp)(dvs:List V)(E:XK)(ta:TE)(t:TA):TE:=λσ H Q=>ta σ H λx H1=>∃a dx fs,x=.ref a/\H1 a=U (.ins C dx fs)/\fs.lookup m=J /\
 t σ H1 λvs H2=>sp (x::(vs++dvs)) H2 Q E
def Vf(C:Addr)(sp:Sp)(dvs:List V)(E:XK)(t:TA):TE:=λσ H Q=>t σ H λvs H1=>∀x dx,H1 x=J->H1 dx=J->dx≠x ->
 sp (.ref x::(vs++dvs)) (upd (upd H1 dx (.own x)) x (.ins C dx [])) (λv H2=>v=.non/\Q (.ref x) H2) E
def Binds(K:y7)(fd:U5)(ps:List Str)(ds:List t5):Prop:=
 ∀(s:v7) (us:List t5),K.In s.heap->(us++ds).length=ps.length->lY s fd ⟨us,[]⟩ (ps.zip (us++ds))
def Binds.all(h:∀us:List t5,us.length=N.length->bindArgs b3 ⟨us,[]⟩=pure (N.zip us)):Binds O b3 N []:=λs us _ b=>by rw[bw]at b ⊢;exact .of_eq (h us b)
def Passes(CX:Bx)(X:Cx)(E:XK):Prop:=∀(pins:List (Addr×Obj)) (σ:St) (H:Hp) (s:v7) (e:t5) (s':v7),Inv X pins σ H s->CX X.stack H s E e s'->X.xe e s'
section
variable{f C:Addr}
def CA{H:Hp}{us:List t5}{vs:List V}(F:bz X.prog X.w X.K X.mg X.base a9 k f b3 N b4)(g:O9 k X.A)(l:Binds X.K b3 N z)(hd:Vals r z)(a:Passes a9 X b5)(I:Inv X d n H c)(E:Vals vs us)(h:b4 (vs++r) H d3 b5):wpAny (model X.prog X.w) X.A (call (.ref f) us) (EP X d n d3) X.xe c:=by
 have b:=E.append hd;have i:(us++z).length=N.length:=by rw[<-b.length];exact F.len _ _ _ _ h
 refine wpAny_call (yR (F.run X.A X.stack c H ⟨us,[]⟩ (us++z) (vs++r) d3 b5 g I.a1D (l c us I.gP i) b h) λE j hq=>?_)
 cases E with
 |error e=>exact a d n H c e j I hq
 |ok s =>
  cases s with
  |ret u=>exact I.after hq
  |next=>exact dU hq
  |brk=>exact dU hq
  |cont=>exact dU hq
def HF(F:bz X.prog X.w X.K X.mg X.base a9 k f b3 N b4)(l:O9 k X.A)(n:Gl X m)(g:X.mg m=U (.ref f))(u:hP X.K (.ref f)=Uf)(t:Binds X.K b3 N z)(hd:Vals r z)(j:Passes a9 X b5)(v:PA X (o::G) Y)(b:autoParam ((m==("__debug__" : Str))=U') H0)(i:autoParam (w4 (o::G) X.env=(U',eval o X.env)::w4 G X.env) t8)(c:autoParam ((H9 S (w4 G X.env)).any (·.1)=U') t8):
  PE X (.Call (.Name m p) (o::G) [] S) (rC b4 r b5 Y):=by
 intro a s e H Q I h;refine rm (Ae I n g ?_ b);refine FU I.ok.mod.Ia u (G3 (v S a s e H _ I h) λB x ⟨y,C,d,E,q⟩=>⟨d.gP,?_⟩) i c;exact CA F l t hd j d E q
def HD (M:PE X o t) (c:uX X.K C) (v:Meth X.K C m f) (F:bz X.prog X.w X.K X.mg X.base a9 k f b3 N b4) (E:O9 k X.A) (P:Binds X.K b3 N z) (hd:Vals r z) (B:Passes a9 X b5) (R:PA X (Z::G) Y) (d:autoParam (w4 (Z::G) X.env=(U',eval Z X.env)::w4 G X.env) t8) (g:autoParam ((H9 p (w4 G X.env)).any (·.1)=U') t8) (w:autoParam (eval (.Call (.Attribute o m S) (Z::G) [] p) X.env=(do
   let ov <- eval o X.env
   dS S.atName
   let (f,first) <- holding [ov] (jQ ov m d6)
   callWith p f first (H9 p (w4 (Z::G) X.env)) (cq p (eJ [] X.env)))) t8) :
  PE X (.Call (.Attribute o m S) (Z::G) [] p) (ni C m b4 r b5 t Y):=by
 intro b s n H Q I h;refine PH (G3 (M b s n H _ I h) λu W ⟨x,O,A,D,a,CX,fs,L,y,l,q⟩=>?_) w;subst L;obtain rfl:=D;refine yf A y c v l ?_;refine FU I.ok.mod.Ia v.kp (G3 (R p b W n O _ A q) λK V ⟨j,T,i,e,q2⟩=>⟨i.gP,?_⟩) d g;exact CA (vs:=.ref a::j) F E P hd B i (.cons rfl e) q2
def Sq (j:PE X o t) (c:uX X.K C) (e:Meth X.K C m f) (F:bz X.prog X.w X.K X.mg X.base a9 k f b3 N b4) (A:O9 k X.A) (v:Binds X.K b3 N z) (hd:Vals r z) (n:Passes a9 X b5) (i:autoParam (eval (.Call (.Attribute o m S) [] [] p) X.env=(do
   let ov <- eval o X.env
   dS S.atName
   let (f,first) <- holding [ov] (jQ ov m d6)
   callWith p f first (H9 p (w4 [] X.env)) (cq p (eJ [] X.env)))) t8) :
  PE X (.Call (.Attribute o m S) [] [] p) (ni C m b4 r b5 t nY):=by
 intro b s E H Q I h;refine PH (G3 (j b s E H _ I h) λu w ⟨x,D,d,G,a,B,fs,y,g,l,q⟩=>?_) i;subst y;obtain rfl:=G;refine yf d g c e l ?_;exact PySem.W.callWith_K0 d.gP e.kp (CA (vs:=[.ref a]) F A v hd n d (.cons rfl .nil) q)
structure Mk(K:y7)(C f:Addr):Prop where
 makes:Fs K C=Uf
 init:bq K (.ref C) "__init__" = U (U (.ref f))
 fn:uA K (.ref f)=Uf
 kp:hP K (.ref C)=Uf
def Rl{us:List t5}{vs:List V}(M:Mk X.K C f)(F:bz X.prog X.w X.K X.mg X.base a9 k f b3 N b4)(s:O9 (k+1) X.A)(H:Binds X.K b3 N z)(hd:Vals r z)(l:Passes a9 X b5)(I:Inv X d n a c)(E:Vals vs us)(h:∀x w,a x=J->a w=J->w≠x->b4 (.ref x::(vs++r)) (upd (upd a w (.own x)) x (.ins C w [])) (λv H2=>v=.non/\d3 (.ref x) H2) b5):
  wpAny (model X.prog X.w) X.A (call (.ref C) us) (EP X d n d3) X.xe c:=by
 have hq:=h ((hz c)+1) (hz c) (I.J7.fresh (yJ _)) (I.J7.fresh F3) (R8 (rh _));have b:=Inv.made (C:=C) I;have g:Vals (V.ref ((hz c)+1)::(vs++r)) (ba ((hz c)+1)::(us++z)):=.cons rfl (E.append hd);have p:(ba ((hz c)+1)::us++z).length=N.length:=by have e:=g.length;rw[F.len _ _ _ _ hq]at e;exact e.symm
 refine wpAny_call (Tj I.gP M.makes M.init (beq_iff_eq.mp M.fn) (yR (F.run _ X.stack _ _ ⟨ba ((hz c)+1)::us,[]⟩ (ba ((hz c)+1)::(us++z)) _ _ b5 (s.make C us [])
  (b.a1D.make C us []) (H _ (ba ((hz c)+1)::us) b.gP p) g hq) λE q Q=>?_))
 cases E with
 |error e=>exact l d n _ _ e q b Q
 |ok i =>
  cases i with
  |ret u =>
   obtain⟨v,y,j,o,t,m⟩:=b.after Q;subst t;exact⟨o,⟨V.ref ((hz c)+1),y,j,rfl,m⟩⟩
  |next=>exact dU Q
  |brk=>exact dU Q
  |cont=>exact dU Q
def Xu(M:Mk X.K C f)(F:bz X.prog X.w X.K X.mg X.base a9 k f b3 N b4)(l:O9 (k+1) X.A)(n:Gl X m)(g:X.mg m=U (.ref C))(t:Binds X.K b3 N z)(hd:Vals r z)(j:Passes a9 X b5)(u:PA X (o::G) Y)(b:autoParam ((m==("__debug__" : Str))=U') H0)(i:autoParam (w4 (o::G) X.env=(U',eval o X.env)::w4 G X.env) t8)(c:autoParam ((H9 S (w4 G X.env)).any (·.1)=U') t8):
  PE X (.Call (.Name m p) (o::G) [] S) (Vf C b4 r b5 Y):=by
 intro a s e H Q I h;refine rm (Ae I n g ?_ b);refine FU I.ok.mod.Ia M.kp (G3 (u S a s e H _ I h) λx y ⟨v,B,d,E,q⟩=>⟨d.gP,?_⟩) i c;exact Rl M F l t hd j d E q
end
section
variable{fd:U5}{ps ks:List Str}
structure a5g(K:y7)(fd:U5)(ps ks:List Str)(g:List t5->List t5->List t5)(gV:List V->List V->List V):Prop where
 to:∀(s:v7) (us ws:List t5),K.In s.heap->(g us ws).length=ps.length->lY s fd ⟨us,ks.zip ws⟩ (ps.zip (g us ws))
 rel:∀{vs:List V} {us:List t5} {zs:List V} {ws:List t5},Vals vs us->Vals zs ws->Vals (gV vs zs) (g us ws)
end
structure kR(N P:List Str)(sc:eV):Prop where
 kind:sc.kind=.function
 co:sc.isCoroutine=U'
 gen:sc.isGenerator=U'
 nd:N.Nodup
 pre:N.take P.length=P
 par:∀x∈P,sc.names.lookup x=U .local\/sc.names.lookup x=U .cell
 a0Q:∀y∈sc.names,y.2≠.free
theorem Bq{a:Str->Option ma}{x:Str}:∀{binds:List (Str×t5)} {m:Str->Option t5},(∀v,(x,v)∉binds)->bindL a binds m x=m x
 | [],_,_=>rfl
 |(n,v)::r,m,h=>by
  unfold bindL;rw[Bq λw b=>h w (C4 _ b)];split
  . have:x≠n:=by rintro rfl;exact h v C9
    simp[this]
  rfl
theorem Bs{a:Str->Option ma}{x:Str}:∀{binds:List (Str×t5)} {m:Str->Option t5},(∀v,(x,v)∉binds)->bindC a binds m x=m x
 | [],_,_=>rfl
 |(n,v)::r,m,h=>by
  unfold bindC;rw[Bs λw b=>h w (C4 _ b)];split;rfl
  . have:x≠n:=by rintro rfl;exact h v C9
    simp[this]
theorem Br{a:Str->Option ma}{x:Str}{v:t5}:∀{P:List Str} {vs:List t5} {i:Nat} {m:Str->Option t5},P.Nodup->P[i]? = U x->vs[i]? = U v->a x=U .local ->
  bindL a (P.zip vs) m x=U v
 | [],_,_,_,_,h,_,_=>by simp at h
 |_::_,[],_,_,_,_,h,_=>by simp at h
 |p::P,w::vs,0,m,nd,h1,h2,hk=>by
  simp at h1 h2;subst h1;subst h2;show bindL a ((p,w)::P.zip vs) m p=_;unfold bindL;rw[Bq λv b=>(List.nodup_cons.mp nd).1 (Fq b).1,t2 hk];simp
 |p::P,w::vs,i+1,m,nd,h1,h2,hk=>by
  show bindL a ((p,w)::P.zip vs) m x=_;exact Br (List.nodup_cons.mp nd).2 (by simpa using h1) (by simpa using h2) hk
theorem Bu{a:Str->Option ma}{x:Str}{v:t5}:∀{P:List Str} {vs:List t5} {i:Nat} {m:Str->Option t5},P.Nodup->P[i]? = U x->vs[i]? = U v->a x≠U .local ->
  bindC a (P.zip vs) m x=U v
 | [],_,_,_,_,h,_,_=>by simp at h
 |_::_,[],_,_,_,_,h,_=>by simp at h
 |p::P,w::vs,0,m,nd,h1,h2,hk=>by
  simp at h1 h2;subst h1;subst h2;show bindC a ((p,w)::P.zip vs) m p=_;unfold bindC;rw[Bs λv b=>(List.nodup_cons.mp nd).1 (Fq b).1,s9 hk];simp
 |p::P,w::vs,i+1,m,nd,h1,h2,hk=>by
  show bindC a ((p,w)::P.zip vs) m x=_;exact Bu (List.nodup_cons.mp nd).2 (by simpa using h1) (by simpa using h2) hk
def start(N:List Str)(vs:List V):St:=vs.map U++C2 (N.length-vs.length) J
noncomputable def qk(CX:Bx)(P:M3)(w:E3)(K:y7)(mg:Str->Option t5)(base:Heap)(N:List Str)(qual:Str)(scope:eV)(f:Addr)(cd:t5)(A:Z0)(outer:List Env)(s:v7)(H:Hp)(E:XK):Cx where
 prog:=P
 w:=w
 K:=K
 mg:=mg
 base:=base
 A:=A.deeper (fP qual scope s.heap.objs.size f cd)
 N:=N
 W6:=s
 E1:=H
 env:=fP qual scope s.heap.objs.size f cd
 outer:=outer
 stack:=fP qual scope s.heap.objs.size f cd::outer
 ex:=[]
 calm:=Uf
 fn:=λ_=>Uf
 pn:=[]
 xe:=λe s'=>wpAny (model P w) (A.deeper (fP qual scope s.heap.objs.size f cd)) (leaving (fP qual scope s.heap.objs.size f cd) e) (λ_ s''=>CX outer H s E e s'') (λe' s''=>CX outer H s E e' s'') s'
def Em(h:g8.names.lookup m=U .cell):∃c,(hB k g8.names []).lookup m=U c:=by exact Option.isSome_iff_exists.mp (PR g8.names k [] (.inl h))
def Nh{K:List Str}{s1:v7}(S:kR N K g8)(hd:A.handled=J)(j:xj y a7 O a8 h A i5 c a)(Q:r.length=K.length)(E:Vals r z)(x:InCallC c (hz c) (bindL (fP m g8 (hz c) e D).kindOf (K.zip z) λ_=>J) (hB ((hz c)+1) g8.names []) (bindC (fP m g8 (hz c) e D).kindOf (K.zip z) λ_=>J) s1):
  Inv (qk a9 y a7 O a8 h N m g8 e D A i5 c a b5) [] (start N r) a s1:=by
 have:K.length<=N.length:=by have:=D3 mh S.pre;rw[uF]at this;lia
 obtain⟨F,R,rfl,G⟩:=x.done;have l:∀b:Addr,b∉(qk a9 y a7 O a8 h N m g8 e D A i5 c a b5).ex:=λb H=>absurd (show b∈([])from H) B9
 refine⟨⟨j.mod,S.kind,rfl,rfl,X6 _,λP H f F g=>?_,λP o=>?_,λP f _ w=>?_,λ_=>hd,Around.frames_deeper j.frames,.inr ⟨rfl,rfl⟩,λb H=>absurd H (l b),j.bs,j.sJ,λb _ _=>l b,λb H=>absurd H (l b),j.kJ,j.Bo⟩,
  rfl,j.bare,Un.kept G,⟨_,x.toInCall.ns,λi P v F g T=>?_⟩,λP f w=>⟨_,x.cell P f w⟩,j.J7.fresh F3,λP f w=>?_,λp t=>absurd (show p∈([])from t) B9,j.J7.kept G,?_⟩
 exact name_of_addr x.apart (mE F) (mE g)
 . have o:=o;rcases o with o|o
   exact Em o;exact absurd rfl (S.a0Q _ (mE o))
 exact fA (x.above P f (mE w))
 . have C:i<r.length:=by
     unfold start at g;by_cases C:i<r.length;exact C
     . rw[ny (by simpa using C)]at g
       rw[Gk]at g;split at g<;>cases g
   have M:r[i]? = U v:=by
    unfold start at g;rw[iy (by simpa using C),O1]at g
    cases d:r[i]? with
    |none=>rw[d]at g;exact nE g
    |some s=>rw[d]at g;cases g;rfl
   obtain⟨u,I,L⟩:=E.get M;have t:K[i]? = U P:=by rw[<-S.pre,List.getElem?_take_of_lt (FT v5 v5)];exact F
   have B:K.Nodup:=by rw[<-S.pre];exact S.nd.sublist (List.take_sublist _ _)
   refine⟨u,L,?_⟩;rcases S.par P (pq t)with k|k
   exact .inl ⟨k,Br B t I k⟩;obtain⟨f,d⟩:=Em k;refine .inr ⟨.inl k,f,d,?_⟩;have q:=x.cell P f d;rw[Bu B t I (by show g8.names.lookup P≠_;rw[k];decide)]at q;exact q
 exact j.J7.fresh (fA (x.above P f (mE w)));delta start;show _=N.length;rw[aa,E7,ro];simp[*]
def a2Z {qual:Str} {params:Arguments} {kV doc pm cdv ct oc:t5} {an od:Option Addr} {osl:Array (Option t5)} {ps:List Str} (lk:O.lookup e=U ⟨oc,od,.func (hH m qual params b7 g8 D kV doc pm an cdv ct),osl⟩) (hcd:yV O cdv qual=Uf) (S:kR N ps g8) (len:∀vs H Q E,b4 vs H Q E->vs.length=ps.length) (hbody:∀(A:Z0) (outer:List Env) (s:v7) (H:Hp) (vs:List V) (Q:VK) (E:XK),O9 k (A.deeper (fP qual g8 s.heap.objs.size e cdv))->b4 vs H Q E ->
   ∃t,pU (qk a9 y a7 O a8 h N qual g8 e cdv A outer s H E) b7 t/\t {nx:=λ_ H'=>Q .non H',rt:=Q} (start N vs) H) :
  bz y a7 O a8 h a9 (k+1) e (hH m qual params b7 g8 D kV doc pm an cdv ct) ps b4:=by
 refine⟨len,λA outer s H args us vs Q E hr e0 hb r hsp=>?_⟩;have hl:=len _ _ _ _ hsp;have KX:O.In s.heap:=e0.mod.Ia.keeps λb o w=>(e0.bs b o w).1;have lim:s.heap.NoLimit:=e0.mod.nolimit.keeps λb o w=>(e0.bs b o w).1
 have hkind:∀P∈ps.zip us,g8.names.lookup P.1=U .local\/(g8.names.lookup P.1=U .cell/\((hB (s.heap.objs.size+1) g8.names []).lookup P.1).isSome=Uf):=λ⟨n,v⟩ hy=>by
  rcases S.par n (Fq hy).1 with q|q
  exact .inl q;exact .inr ⟨q,PR _ _ _ (.inl q)⟩
 refine codeAny_call_function hr.depth (KX _ _ lk) rfl S.co S.gen rfl (PySem.W.codeRec_of KX hcd) (hb _ _ _ _ ?_);refine wpAny_newFunctionEnv_cells S.kind hkind λenv he s1 x=>?_;subst he;refine⟨lim.keeps x.toInCall.keep,codeAny_func ?_⟩;obtain⟨t,ht,hq⟩:=hbody A outer s H vs Q E (hr.deeper _) hsp;have I:Inv (qk a9 y a7 O a8 h N qual g8 e cdv A outer s H E) [] (start N vs) H s1:=Nh S hr.hd e0 hl r x;refine cu (ht [] s1 (start N vs) H _ I hq) (λfl s' hs=>?_) λw s' hs=>hs
 have fin:∀{σ':St} {H':Hp} {v:V} {u:t5},Inv (qk a9 y a7 O a8 h N qual g8 e cdv A outer s H E) [] σ' H' s'->RelV v u->Q v H'->CE outer y a7 H s Q u s':=
  λ{σ' H' v u} Jff rv q=>⟨v,H',Jff.os,Jff.bare,Jff.base,Jff.J7,rv,q⟩
 cases fl with
 |ret u =>
  obtain⟨v,σ',H',Jff,rv,q⟩:=hs;exact fin Jff rv q
 |next =>
  obtain⟨σ',H',Jff,q⟩:=hs;exact fin (v:=V.non) (u:=uq) Jff rfl q
 |brk =>
  obtain⟨_,_,_,q⟩:=hs;exact dU q
 |cont =>
  obtain⟨_,_,_,q⟩:=hs;exact dU q
section
variable{T:String}
def xu(r:List V->Hp->VK->Prop)(t:TA):TE:=λσ H Q=>t σ H λvs H1=>r vs H1 Q
def CV{id:String}(w:ae X (.builtin id) i6)(x:Gl X m)(f:X.mg m=J)(i:eL m=U (.builtin id))(y:PA X (o::G) Y)(g:autoParam (m ≠ "__name__") H0)(b:autoParam ((m==("__debug__" : Str))=U') H0)(j:autoParam (w4 (o::G) X.env=(U',eval o X.env)::w4 G X.env) t8)(c:autoParam ((H9 S (w4 G X.env)).any (·.1)=U') t8):PE X (.Call (.Name m p) (o::G) [] S) (xu i6 Y):=by intro a s d H Q I h;refine rm (gO I x f i ?_ g b);exact PyProof.Rows.callWith_builtin1 (G3 (y S a s d H _ I h) λe n ⟨l,q,u,k,v⟩=>w a n d q l e Q u k v) j c
def Mi(w:ae X (.type T) i6)(x:Gl X m)(f:X.mg m=J)(i:eL m=U (.type T))(y:PA X (o::G) Y)(g:autoParam (m ≠ "__name__") H0)(b:autoParam ((m==("__debug__" : Str))=U') H0)(j:autoParam (w4 (o::G) X.env=(U',eval o X.env)::w4 G X.env) t8)(c:autoParam ((H9 S (w4 G X.env)).any (·.1)=U') t8):PE X (.Call (.Name m p) (o::G) [] S) (xu i6 Y):=by intro a s d H Q I h;refine rm (gO I x f i ?_ g b);exact pX (G3 (y S a s d H _ I h) λe n ⟨l,q,u,k,v⟩=>w a n d q l e Q u k v) j c
end
end L2
namespace HT
open PySem PyProof.Rows
variable{A:Z0}{E:t5->v7->Prop}{s:v7}{b:Addr}{v:t5}{o:Option Int}{a:Array t5}
def lexLt:List Int->List Int->Bool
 | [],[]=>U'
 | [],_::_=>Uf
 |_::_,[]=>U'
 |x::xs,y::ys=>if x=y then lexLt xs ys else decide (x<y)
def JV(x y:Int)(xs ys:List Int):lexLt (x::xs) (y::ys)=if x=y then lexLt xs ys else decide (x<y):=rfl
def BF:lexLt [] []=U':=rfl
def Ac(y:Int)(ys:List Int):lexLt [] (y::ys)=Uf:=rfl
def Ad(x:Int)(xs:List Int):lexLt (x::xs) []=U':=rfl
def Uh(A:Z0)(s:v7)(a:Int)(t:Tok)(c:Int)(u:Tok):∃e,SeqAt.EqAt A s (.int a t) (.int c u) e/\(e=Uf↔a=c):=
 ⟨(a==c),SeqAt.EqAt.int_int a t c u,by simp⟩
def Ro(A:Z0)(s:v7)(a:Int)(t:Tok)(c:Int)(u:Tok)(prog:M3)(w:E3)(E:t5->v7->Prop)(Q:t5->v7->Prop)(h:Q (.bool (decide (a<c))) s):
  wpAny (model prog w) A (richCompare .Lt (.int a t) (.int c u)) Q E s:=
 (PyProof.Rows.lt_int h)
section
open PySem.SeqAt
open PySem.AutoSeq1 (wpAny_loadPart')
open PySem.MeetsSeq PySem.MeetsSeq2 PySem.MeetsSeq3
def Bz(l b:Addr)(items items2:Array t5)(n n2:Nat)(dd dd2:Option Addr)(sl E2:Array (Option t5))(ns ms:List Int)(hi:aJ items.toList ns)(hj:aJ items2.toList ms):
  Meets (Builtin.«tuple.__lt__» ⟨[.ref l,.ref b],[]⟩)
   (λ_ R s=>s.heap.get? l=U {cls:=.type "tuple",dict:=dd,data:=.seq items n,slots:=sl}/\s.heap.get? b=U {cls:=.type "tuple",dict:=dd2,data:=.seq items2 n2,slots:=E2} /\
    R (.ok (.ret (.bool (lexLt ns ms)))) s):=
 .of_wp λprog w A R s h=>by
  obtain⟨hp,g,d,tk,os⟩:=s;obtain⟨hl,hb,h⟩:=h;have f2:=AutoSeq1.sub_tuple_tuple;have z1:items.size=ns.length:=by rw[<-hi.length];simp
  have z2:items2.size=ms.length:=by rw[<-hj.length];simp
  wp_walk using wpAny_loadPart' hl,wpAny_loadPart' hb,wpAny_forIn_list _ (λrest b s'=>b.1=J/\s'=⟨hp,g,d,tk,os⟩/\∃(vs ws:List t5) (ns' ms':List Int),rest=vs.zip ws /\
   aJ vs ns'/\aJ ws ms'/\ns'.length+items2.size=ms'.length+items.size/\R (.ok (.ret (.bool (lexLt ns' ms')))) ⟨hp,g,d,tk,os⟩) _
  case turn =>
   rintro⟨y,x⟩ rest b s' ⟨hb',rfl,vs,ws,ns',ms',hz,hvi,hwi,hlen,hR⟩;cases hvi with
   |nil=>rw[List.zip_nil_left]at hz;cases hz
   |cons a t hvi' =>
    cases hwi with
    |nil=>rw[OZ]at hz;cases hz
    |cons c u hwi' =>
     rw[lr]at hz;injection hz with hyx hrest
     injection hyx with hy hx
     subst hy hx;rw[JV]at hR;simp only[X9]at hlen;obtain⟨e,he,hiff⟩:=Uh A.in1 ⟨hp,g,d,tk,os⟩ a t c u;refine u7 (he prog w _ _ ?_);cases e with
     |true =>
      rw[t2 (hiff.mp rfl)]at hR
      wp_walk
      exact⟨rfl,rfl,_,_,_,_,hrest,hvi',hwi',by omega,hR⟩
     |false =>
      rw[s9 (λq=>absurd (hiff.mpr q) dI)]at hR;have hri:=Ro A.in1 ⟨hp,g,d,tk,os⟩ a t c u prog w
      wp_walk using hri
      exact⟨_,rfl,by simpa using hR⟩
  case fin =>
   rintro⟨b1,b2⟩ s' ⟨hb',rfl,vs,ws,ns',ms',hz,hvi,hwi,hlen,hR⟩;simp only at hb';subst hb';have hv:lexLt ns' ms'=decide (items.size<items2.size):=by
    cases hvi with
    |nil =>
     cases hwi with
     |nil =>
      simp only[jV]at hlen;rw[BF];exact(Z9 (by simp_all)).symm
     |cons c u hw =>
      simp only[jV,X9]at hlen;rw[Ac];exact(iq (by simp_all)).symm
    |cons a t hv =>
     cases hwi with
     |nil =>
      simp only[jV,X9]at hlen;rw[Ad];exact(Z9 (by omega)).symm
     |cons c u hw =>
      rw[lr]at hz;cases hz
   rw[hv]at hR
   wp_walk
   exact⟨_,rfl,by simpa [Builtin.Tuple.tupleCompareSizes]using hR⟩
  case h =>
   exact⟨rfl,rfl,items.toList,items2.toList,ns,ms,rfl,hi,hj,by omega,h⟩
end
section
variable{prog:M3}{w:E3}
def JR{l:Addr}{items:Array t5}{ns ms:List Int}{Q:t5->v7->Prop}(v:gU s.heap l items)(C:gU s.heap b a)(r:aJ items.toList ns)(t:aJ a.toList ms)(q:A.units<S7)(h:Q (.bool (lexLt ns ms)) s):wpAny (model prog w) A (X5 .Lt (.ref l) (.ref b)) Q E s:=by
 obtain⟨⟨z,B,o,u⟩,m,p,n,j⟩:=id v;obtain⟨⟨k,f,g,i⟩,d,c,y,e⟩:=id C;subst p j c e;exact richCompare_meets_room (op:=.Lt) ⟨_,m,rfl⟩ ⟨_,d,rfl⟩ PySem.F.slot_tuple_lt PySem.F.entry_tuple_lt (PySem.F.args_tuple_lt_2 _ _) (Bz l b items a n y B f u i ns ms r t)
  ⟨m,d,show uo (lexLt ns ms)≠Value.notImplemented/\Q (.bool (lexLt ns ms)) s from⟨(λx=>nomatch x),h⟩⟩ q
def Yt{t:Addr}{vs ws:List t5}{Q:t5->v7->Prop}(x:gU s.heap t vs.toArray)(B:gU s.heap b ws.toArray)(p:vs≠[])(z:ws=[]->Q (.ref t) s)(y:ws≠[]->Q (.ref s.heap.objs.size) {s with heap:=s.heap.push {cls:=.type "tuple",data:=.seq (vs++ws).toArray}})(hsz:vs.length+ws.length<=F0):wpAny (model prog w) A (aK .Add (.ref t) (.ref b)) Q E s:=by
 obtain⟨⟨l,v,g,q⟩,i,u,n,m⟩:=id x;obtain⟨⟨o,c,k,f⟩,a,d,r,h⟩:=id B;subst u m d h;have e:vs.toArray++ws.toArray=(vs++ws).toArray:=by simp
 by_cases j:ws=[]
 . exact yQ ⟨_,i,rfl⟩ ⟨_,a,rfl⟩ FH EV Gi Gj (Gn _ _)
     (tuple_addW1 t b vs.toArray ws.toArray n r v c q f (by simpa using p) (by simp[j])) ⟨i,a,z j⟩
 . refine yQ ⟨_,i,rfl⟩ ⟨_,a,rfl⟩ FH EV Gi Gj (Gn _ _)
     (tuple_addW2 t b vs.toArray ws.toArray n r v c q f (by simpa using p) (by simpa using j) (by rw[W0,W0];exact hsz)) ⟨i,a,?_⟩
   rw[e];exact y j
def P0(n d:Nat):Option Int->Nat
 |none=>d
 |some v=>if v<0 then(v+(n:Int)).toNat else min v.toNat n
def Hs(n d k:Nat):P0 n d (U (k:Int))=min k n:=by
 show(if k<0 then((k:Int)+n).toNat else min (k:Int).toNat n)=min k n;rw[s9 B4,gw]
def IG(v:Int)(n d:Nat):(if v<0 then max (v+(n:Int)) 0 else min v (n:Int))=((P0 n d (U v):Nat):Int):=by
 show(if v<0 then max (v+n) 0 else min v n)=(((if v<0 then(v+n).toNat else min v.toNat n)));by_cases a:v<0;simp only[t2 a];simp[*];simp only[s9 a];lia
def Kw(lo a:Option Int)(n:Nat):Qi lo a 1 (n:Int)=(((P0 n 0 lo:Nat):Int),((P0 n n a:Nat):Int)):=by
 refine Prod.ext ?_ ?_
 . cases lo with
   |none=>rfl
   |some v=>exact IG v n 0
 . cases a with
   |none=>rfl
   |some v=>exact IG v n n
def Jp(i j:Nat):zz (i:Int) (j:Int) 1=j-i:=by delta zz;split<;>lia
def xx{Q:Option Int->v7->Prop}(p:gW v o)(h:Q o s):wpAny (model prog w) A (Builtin.Slice.slicePartIndex v) Q E s:=by
 cases p with
 |none=>exact slicePart_none h
 |int i t=>exact slicePart_int h
def nZ{e:t5}{c:Option Int}{n:Nat}{Q:Int×Int×Nat->v7->Prop}(hs:s.heap.IsSliceOf b v e .none)(pl:gW v o)(i:gW e c)(h:Q (((P0 n 0 o:Nat):Int),1,P0 n n c-P0 n 0 o) s):wpAny (model prog w) A (Builtin.Slice.sliceApplied (.ref b) (pure (n:Int))) Q E s:=by
 obtain⟨j,a,g,f⟩:=id hs;refine u7 (u7 (Z8 a f rfl (u7 (Z8 a f rfl (u7 (Z8 a f rfl (A3 ?_)))))));refine u7 (slicePart_none ?_);refine u7 (xx pl (u7 (xx i (u7 (A3 ?_)))));show wpAny _ _ (match Qi o c 1 n with|(o,c)=>pure (o,(1:Int),zz o c 1)) _ _ s;rw[Kw o c n];show wpAny _ _ (pure (((P0 n 0 o):Int),1,zz ((P0 n 0 o)) ((P0 n n c)) 1)) _ _ s;rw[Jp];exact A3 h
def Sl(xs:Array t5)(i k:Nat):((C8 k).filterMap λ(m:Nat)=>xs[((i:Int)+(m:Int)*1).toNat]?).toArray=((xs.toList.drop i).take k).toArray:=by
 have e:(λ(m:Nat)=>xs[((i:Int)+m*1).toNat]?)=λm=>xs[i+m]?:=by
  funext m
  have:((i:Int)+m*1).toNat=i+m:=by lia
  rw[this]
 rw[e];have:=pick_run xs i k;rw[List.filterMap_map]at this;have a:((λx=>xs[x]?)∘λx=>i+x)=λm=>xs[i+m]?:=rfl;rw[a]at this;rw[this]
def vM{i:Addr}{j:t5}{t:Option Int}{Q:t5->v7->Prop}(c:gU s.heap b a)(hs:s.heap.IsSliceOf i v j .none)(pl:gW v o)(p:gW j t)(l:¬(P0 a.size 0 o=0/\P0 a.size a.size t=a.size))(h:Q (.ref s.heap.objs.size) {s with heap:=s.heap.push {cls:=.type "tuple",data:=.seq ((a.toList.drop (P0 a.size 0 o)).take (P0 a.size a.size t-P0 a.size 0 o)).toArray}})(hsz:a.size<=F0):wpAny (model prog w) A (gX (.ref b) (.ref i)) Q E s:=by
 have k:sizeOk (.seq ((a.toList.drop (P0 a.size 0 o)).take (P0 a.size a.size t-P0 a.size 0 o)).toArray):=by
  show((a.toList.drop (P0 a.size 0 o)).take (P0 a.size a.size t-P0 a.size 0 o)).toArray.size<=F0;rw[W0,uF,FG,uL];exact C3 (OO _ _) (C3 (EE _ _) v5)
 obtain⟨m,g,d,n⟩:=id hs;have e:s.TypeIs (.ref i) "slice":=⟨m,g,d⟩;delta gX;try with_reducible refine gr ?_
 first|refine u7 (A3 ?_)|skip
 refine u7 (wpAny_sequenceKey c.typeIs f5 ?_);refine u7 (nu c.typeIs zB
  (lq zB c.typeIs entry_tuple_getitem ?_ (args_tuple_getitem _ _)))
 show wpAny _ _ (Qk (.ref b) >>= _) _ _ s
 refine u7 (tupleItemsOf_ c ?_);refine u7 (uw e ?_);refine u7 (nZ hs pl p ?_);have f:¬((((P0 a.size 0 o):Int)==0&&(1:Int)==1&&(P0 a.size a.size t-P0 a.size 0 o)==a.size)=Uf):=by exact λq=>l ⟨by simp_all,by lia⟩
 show wpAny _ _ (if (((P0 a.size 0 o):Int)==0&&1==1&&(P0 a.size a.size t-P0 a.size 0 o)==a.size)=Uf then _ else _) _ _ s
 rw[s9 f,Sl];first
  |exact u7 (oY (A3 ⟨_,rfl,A3 h⟩) k)
  |exact u7 (oY (u7 (A3 (A3 ⟨_,rfl,A3 h⟩))) k)
  |exact u7 (u7 (oY (A3 (A3 ⟨_,rfl,A3 h⟩)) k))
  |exact u7 (u7 (oY (A3 ⟨_,rfl,A3 h⟩) k))
end
end HT
namespace L2
open PySem PySem.Spec PyProof.Rows
variable{X:Cx}{a:List (Addr×Obj)}{b:St}{H:Hp}{s:v7}{Z:List V}{e:Expr}{Y:TE}{S:List t5}{n:Nat}{R:Pos}{p:Addr}{Q:String}{r:V->Option Int->Option Int->Hp->VK->Prop}{P:Type}{f:t5}{O:V->List V->Hp->VK->Prop}
abbrev TO:=St->Hp->(Option Int->Hp->Prop)->Prop
def PO(X:Cx)(e:Option Expr)(t:TO):Prop:=
 ∀(pins:List (Addr×Obj)) (s:v7) (σ:St) (H:Hp) (Q:Option Int->Hp->Prop),Inv X pins σ H s->t σ H Q ->
  wpAny (model X.prog X.w) X.A (evalPart e X.env) (λu s'=>∃o H',Inv X pins σ H' s'/\gW u o/\Q o H') X.xe s
def He:TO:=λ_ H Q=>Q J H
def Vc(t:TE):TO:=λσ H Q=>t σ H λx H1=>∃i,x=.int i/\Q (U i) H1
def intsAre_of{ns:List Int}:∀{us:List t5},Vals (ns.map V.int) us->aJ us ns:=by
 induction ns with
 |nil=>intro us r;rw[oP]at r;cases r;exact .nil
 |cons n ns b =>
  intro us r;cases r with
  |cons c a =>
   obtain⟨t,e⟩:=c;subst e;exact .cons n t (b a)
def Xn:PO X J He:=by exact λa s b H Q I h=>A3 ⟨J,H,I,.none,h⟩
def Xm(h:PE X e Y):PO X (U e) (Vc Y):=by
 intro a s d H Q I b;refine G3 (h a s d H _ I b) λu k ⟨x,f,g,c,j⟩=>?_;obtain⟨i,rfl,q⟩:=j;obtain⟨t,rfl⟩:=c;exact⟨U i,f,g,.int i t,q⟩
def we(X:Cx)(r:V->Option Int->Option Int->Hp->VK->Prop):Prop:=
 ∀(pins:List (Addr×Obj)) (s:v7) (σ:St) (H:Hp) (x:V) (v vl vu:t5) (lo hi:Option Int) (sl:Addr) (Q:VK),Inv X pins σ H s->RelV x v->s.heap.IsSliceOf sl vl vu .none->gW vl lo->gW vu hi->r x lo hi H Q ->
  ∃T id,um (.type T) "__getitem__" = pure (U (.builtin id))/\s.TypeIs v T/\wpAny (model X.prog X.w) X.A (gX v (.ref sl)) (EP X pins σ Q) X.xe s
def we.or{c:V->Option Int->Option Int->Hp->VK->Prop}(h:we X r)(h':we X c):we X (λx lo b H Q=>r x lo b H Q\/c x lo b H Q):=by
 intro a s f H x v i e lo b k Q I g j d l q;rcases q with q|q
 exact h a s f H x v i e lo b k Q I g j d l q;exact h' a s f H x v i e lo b k Q I g j d l q
def tSl(r:V->Option Int->Option Int->Hp->VK->Prop)(te:TE)(tl th:TO):TE:=λσ H Q=>te σ H λx H1=>tl σ H1 λl H2=>th σ H2 λu H3=>r x l u H3 Q
def So{lo hi:Option Expr}{tl th:TO}{p2:Pos}(F:we X r)(D:PE X e Y)(n:PO X lo tl)(y:PO X hi th):PE X (.Subscript e (.Slice lo hi J p2) R) (tSl r Y tl th):=by
 intro a s d H Q I h;refine Subscript_ (G3 (D a s d H _ I h) λv o ⟨x,L,t,G,M⟩=>?_);refine wpAny_Slice (G3 (n a o d L _ t M) λg E ⟨l,z,m,B,q2⟩=>G3 (y a E d z _ m q2) λf c ⟨u,i,O,N,k⟩=>?_);refine A3 ?_;have C:Inv X a d i {c with heap:=c.heap.push {cls:=.type "slice",data:=.fields #[g,f,.none]}}:=O.kept λb P q=>L6 _ q;obtain⟨T,w,p,j,K⟩:=F a {c with heap:=c.heap.push {cls:=.type "slice",data:=.fields #[g,f,.none]}} d i x v g f l u (hz c) Q C G (Heap.IsSliceOf.new ..) B N k;exact tail_any j p K (by with_unfolding_all rfl)
def rZ(xs:List V)(lo hi:Option Int):List V:=(xs.drop (HT.P0 xs.length 0 lo)).take (HT.P0 xs.length xs.length hi-HT.P0 xs.length 0 lo)
def wa(xs:List V)(lo a:Option Int):(rZ xs lo a).length<=xs.length:=by delta rZ;rw[uF,FG];exact C3 (OO _ _) (EE _ _)
def a4p(K:y7):V->Option Int->Option Int->Hp->VK->Prop:=λx lo hi H Q=>∃a xs,x=.ref a/\W4 K H a xs /\
 ¬(HT.P0 xs.length 0 lo=0/\HT.P0 xs.length xs.length hi=xs.length)/\∀p,H p=J->Q (.ref p) (upd H p (.tup (rZ xs lo hi)))
def Zu:we X (a4p X.K):=by
 intro k s y H x v A w e f B Q I p t l u h;obtain⟨a,d,rfl,n,m,q⟩:=h;cases p;obtain⟨g,r,i,j⟩:=I.tuple n;have c:g.toArray.size=d.length:=by rw[W0];exact r.length.symm
 refine⟨"tuple",_,PyProof.Rows.slot_tuple_getitem.lookup,i.typeIs,?_⟩;refine HT.vM i t l u (by rw[c];exact m) ?_ (by rw[c];exact j);rw[c];refine⟨.ref s.heap.objs.size,_,I.laid (λb z q=>L6 _ q) F3 ?_,rfl,q _ (I.J7.fresh F3)⟩;exact⟨C3 (wa d e f) j,_,(r.drop (HT.P0 d.length 0 e)).take (HT.P0 d.length d.length f-HT.P0 d.length 0 e),EC _ _⟩
def ZM(K:y7):R2:=λx y H Q=>∃a b ns ms,x=.ref a/\y=.ref b/\W4 K H a (ns.map V.int)/\W4 K H b (ms.map V.int)/\Q (.bl (HT.lexLt ns ms)) H
def a0G(f:X.A.units<S7):V3 X (X5 .Lt) (ZM X.K):=by intro d s t H x y v u Q I l k h;obtain⟨a,b,i,r,rfl,rfl,p,n,q⟩:=h;cases l;cases k;obtain⟨o,j,g,_⟩:=I.tuple p;obtain⟨c,e,m,_⟩:=I.tuple n;exact HT.JR g m (intsAre_of j) (intsAre_of e) f ⟨.bl (HT.lexLt i r),H,I,rfl,q⟩
def a2w(K:y7):R2:=λx y H Q=>∃a b xs ys,x=.ref a/\y=.ref b/\W4 K H a xs/\W4 K H b ys/\xs≠[]/\xs.length+ys.length<=F0 /\
 (ys=[]->Q (.ref a) H)/\(ys≠[]->∀p,H p=J->Q (.ref p) (upd H p (.tup (xs++ys))))
def Vals.vq(r:Vals Z S):S=[]↔Z=[]:=by
 cases r with
 |nil=>simp
 |cons _ _=>simp
def XE:V3 X (aK .Add) (a2w X.K):=by
 intro g s t H x y v u Q I k m h;obtain⟨a,b,B,C,rfl,rfl,r,o,j,f,n,q2⟩:=h;cases k;cases m;obtain⟨p,d,i,_⟩:=I.tuple r;obtain⟨e,c,l,_⟩:=I.tuple o;refine HT.Yt i l (λz=>j (d.vq.mp z)) (λz=>⟨.ref a,H,I,rfl,n (c.vq.mp z)⟩) (λz=>?_) (by rw[<-d.length,<-c.length];exact f);refine⟨.ref s.heap.objs.size,_,I.laid (λb A q=>L6 _ q) F3 ?_,rfl,q2 (λw=>z (c.vq.mpr w)) _ (I.J7.fresh F3)⟩;exact⟨by rw[aa];exact f,_,d.append c,EC _ _⟩
noncomputable def jy(n:Nat)(i:Int):Option Nat:=if 0<=i then(if i<n then U i.toNat else J)else if -(n:Int)<=i then U (i+n).toNat else J
def aG(xs:List P)(i:Int):Option P:=(jy xs.length i).bind λj=>xs[j]?
def Ic{i:Int}{j:Nat}(h:jy n i=U j):seqIndex? i n=U j/\j<n/\-(n:Int)<=i/\i<n:=by
 unfold jy at h;by_cases b:0<=i;rw[t2 b]at h;by_cases a:i<n;rw[t2 a]at h;exact⟨by rw[seqIndex_of b a,(X8 h)],by lia,by lia,a⟩;rw[s9 a]at h;exact nE h;rw[s9 b]at h;by_cases a : -n<=i;rw[t2 a]at h;exact⟨by rw[EN (Int.not_le.1 v5) a,(X8 h)],by lia,a,by lia⟩;rw[s9 a]at h;exact nE h
def AD{xs:List P}{i:Int}{v:P}(h:aG xs i=U v):∃j,seqIndex? i xs.length=U j/\xs[j]? = U v/\j<xs.length/\-(xs.length:Int)<=i/\i<xs.length:=by obtain⟨j,e,h⟩:=t4 h;obtain⟨d,b,c,f⟩:=Ic e;exact⟨j,d,h,b,c,f⟩
def qN(b:Expr):Prop:=∀o i,subscripted b U' o i=operate [o,i] (gX o i)
def wm(X:Cx)(r:R2):Prop:=
 ∀(value slice:Expr) (pins:List (Addr×Obj)) (s:v7) (σ:St) (H:Hp) (x y:V) (v u:t5) (Q:VK),Inv X pins σ H s->RelV x v->RelV y u->r x y H Q ->
  subscripted slice U' v u=operate [v,u] (gX v u)->wpAny (model X.prog X.w) X.A (subscriptTail value slice v u) (EP X pins σ Q) X.xe s
def VU(X:Cx)(id:String)(r:V->List V->Hp->VK->Prop):Prop:=
 ∀(pins:List (Addr×Obj)) (s:v7) (σ:St) (H:Hp) (x:V) (xs:List V) (v:t5) (us:List t5) (Q:VK),Inv X pins σ H s->RelV x v->Vals xs us->r x xs H Q ->
  wpAny (model X.prog X.w) X.A (call (.builtin id) (v::us)) (EP X pins σ Q) X.xe s
section
def wm.or{r d:R2}(h:wm X r)(h':wm X d):wm X (λx y H Q=>r x y H Q\/d x y H Q):=by
 intro b a c s f H x y v u Q I g e q i;rcases q with q|q
 exact h b a c s f H x y v u Q I g e q i;exact h' b a c s f H x y v u Q I g e q i
def Js{b:Expr}{tb:TE}{r:R2}(f:wm X r)(m:PE X e Y)(l:PE X b tb)(hs:qN b):PE X (.Subscript e b R) (sD r Y tb):=by exact λc s j H Q I h=>Subscript_ (UC m l I h λv u a x y d g k i q=>f e b c a j d x y v u Q g k i q (hs _ _))
def ZQ(K:y7):R2:=λx y H Q=>∃p xs i v,x=.ref p/\y=.int i/\N5 K H p xs/\aG xs i=U v/\Q v H
def ZO(K:y7):R2:=λx y H Q=>∃p xs i v,x=.ref p/\y=.int i/\W4 K H p xs/\aG xs i=U v/\Q v H
def ZP:R2:=λx y H Q=>∃z i c,x=.str z/\y=.int i/\z.length<=F0/\aG z.cps.toList i=U c/\Q (.str ⟨#[c]⟩) H
def Yd:wm X (ZQ X.K):=by
 intro e k a s n H x y v u Q I D L h o;obtain⟨p,R,i,z,rfl,rfl,hq,F,q⟩:=h;cases D;obtain⟨t,rfl⟩:=L;obtain⟨l,r,f,O⟩:=I.list hq;obtain⟨j,c,C,P,G,E⟩:=AD F;obtain⟨w,A,g⟩:=r.get C;have B:=r.length;have:=qC;have b:EP X a n Q w s:=⟨z,H,I,g,q⟩;by_cases m:0<=i
 . have d:i.toNat=j:=by rw[seqIndex_of m E]at c;exact X8 c
   exact item_listR f.isList m u3 (by rw[d];simpa using A) b o
 . have d:(i+l.toArray.size).toNat=j:=by rw[EN (Int.not_le.1 v5) G]at c;rw[W0,<-B];exact X8 c
   exact PQ f.isList.typeIs slot_list_getitem.lookup
    (wpAny_getItem_list_neg f.isList (Int.not_le.1 v5) (by rw[W0]<;>simp_all) u3 (by rw[d];simpa using A) ⟨rfl,b⟩) o
def a1i:wm X (ZO X.K):=by
 intro a c d s C H x y v u Q I g l h n;obtain⟨p,G,i,z,rfl,rfl,hq,k,q⟩:=h;cases g;obtain⟨t,rfl⟩:=l;obtain⟨o,r,e,B⟩:=I.tuple hq;obtain⟨j,m,f,D,F,E⟩:=AD k;obtain⟨w,A,b⟩:=r.get f;have:=qC;exact PQ e.typeIs slot_tuple_getitem.lookup
  (getItem_tuple e u3 u3 (by rw[W0,<-r.length];exact m) (by simpa using A) ⟨rfl,(⟨z,H,I,b,q⟩)⟩) n
def a1k:wm X ZP:=by
 intro a b d s C H x y v u Q I k p h w;obtain⟨z,i,c,rfl,rfl,B,n,q⟩:=h;obtain⟨t,rfl⟩:=k;obtain⟨D,rfl⟩:=p;obtain⟨j,e,g,E,o,l⟩:=AD n;have f:z.cps.toList.length=z.length:=by simp[Str.length]
 rw[f]at e o l;have:=qC;exact tail_any (typeIs_str s z t) slot_str_getitem.lookup (getItem_str (by have r:decide (i < -(2 ^ 63))=U':=Z9 u3;have m:decide (i>=2 ^ 63)=U':=Z9 u3;rw[r,m,Bool.or_false]) (by rw[e];simpa using g) ⟨.str ⟨#[c]⟩,H,I.tok _,⟨_,rfl⟩,q⟩) w
def Hw(K:y7):R2:=λx y H Q=>ZQ K x y H Q\/ZO K x y H Q\/ZP x y H Q
def DK:wm X (Hw X.K):=Yd.or (a1i.or a1k)
def JO(a:List t5)(n j:Nat)(u:t5):jR (·.setIfInBounds j u) {cls:=.type "list",data:=.seq a.toArray n}={cls:=.type "list",data:=.seq (a.set j u).toArray n}:=by simp[jR]
theorem Inv.lst(I:Inv X a b H s)(h:H p=U (.lst Z)):
  ∃(c:List t5) (n:Nat),Vals Z c/\s.heap.get? p=U {cls:=.type "list",data:=.seq c.toArray n}/\Z.length<=F0:=by obtain⟨z,c,n,r,e⟩:=I.J7 p _ h;exact⟨c,n,r,e,z⟩
def Inv.a0W{ys:List V}{its':List t5}{c:Nat}{f:Obj->Obj}(I:Inv X a b H s)(h:H p=U (.lst Z))(i:s.heap.get? p=U {cls:=.type "list",data:=.seq S.toArray n})(g:f {cls:=.type "list",data:=.seq S.toArray n}={cls:=.type "list",data:=.seq its'.toArray c})(r:Vals ys its')(hz:ys.length<=F0)(t:Nat):
  Inv X a b (upd H p (.lst ys)) {s with heap:=s.heap.update p f,toks:=t}:=by
 have e:(s.heap.update p f).get? p=U {cls:=.type "list",data:=.seq its'.toArray c}:=by rw[PD f i (by rw[g]<;>rfl),g]
 refine I.write (by rw[h];trivial) (.inl rfl) (λd u j q=>(PN _ _ (lZ j)).trans q) ⟨_,e⟩ ?_;exact⟨hz,its',c,r,e⟩
def BQ:V->V->V->Hp->(Hp->Prop)->Prop:=λo i v H Q=>∃p xs k j,o=.ref p/\i=.int k/\H p=U (.lst xs)/\jy xs.length k=U j/\Q (upd H p (.lst (xs.set j v)))
def set_list:a1V X BQ:=by
 intro a s B H o i v L G u Q I A D C h;obtain⟨p,E,k,j,rfl,rfl,w,y,q⟩:=h;cases A;obtain⟨t,rfl⟩:=D;obtain⟨b,n,r,d,z⟩:=I.lst w;obtain⟨c,K,m,x⟩:=Ic y;have e:=r.length;have:=qC;have l:Inv X a B (upd H p (.lst (E.set j v))) {s with heap:=s.heap.update p (jR (·.setIfInBounds j u))}:=
  I.a0W w d (JO b n j u) (r.set C j) (by rw[OA];exact z) s.toks
 by_cases g:0<=k
 . have f:k.toNat=j:=by rw[seqIndex_of g x]at c;exact X8 c
   exact PySem.W.ki_setAt d g u3 (by rw[W0,<-e];exact x) (by rw[f];exact⟨_,l,q⟩)
 . have f:(k+b.toArray.size).toNat=j:=by rw[EN (Int.not_le.1 v5) m]at c;rw[W0,<-e];exact X8 c
   exact PySem.W.ki_setBack d (Int.not_le.1 v5) (by rw[W0,<-e];exact m) u3 (by rw[f];exact⟨_,l,q⟩)
def Cv(lo a:Option Int)(n:Nat):(oM lo a J n).1=((HT.P0 n 0 lo:Nat):Int)/\(oM lo a J n).2.1=((HT.P0 n n a:Nat):Int)/\(oM lo a J n).2.2=1:=by
 refine⟨?_,?_,rfl⟩
 . cases lo with
   |none=>simp[oM,HT.P0]
   |some i =>
    simp only[oM,HT.P0,ON];by_cases h:i<0
    . simp only[h]<;>lia
    . simp only[h]<;>lia
 . cases a with
   |none=>simp[oM,HT.P0]
   |some i =>
    simp only[oM,HT.P0,ON];by_cases h:i<0
    . simp only[h]<;>lia
    . simp only[h]<;>lia
def BA(a:List t5)(lo b:Option Int):slicePick a.toArray lo b J=((a.drop (HT.P0 a.length 0 lo)).take (HT.P0 a.length a.length b-HT.P0 a.length 0 lo)).toArray:=by obtain⟨e,c,d⟩:=Cv lo b a.toArray.size;delta slicePick;rw[e,c,d];simp only[sliceRange_one,pick_run]<;>rfl
def ZK(K:y7):V->Option Int->Option Int->Hp->VK->Prop:=λx lo hi H Q=>∃a xs,x=.ref a/\N5 K H a xs/\∀p,H p=J->Q (.ref p) (upd H p (.lst (rZ xs lo hi)))
def Ww:we X (ZK X.K):=by
 intro i s w H x v z u e f A Q I n p j t h;obtain⟨a,c,rfl,k,q⟩:=h;cases n;obtain⟨l,r,g,m⟩:=I.list k;have d:=r.length;refine⟨"list",_,slot_list_getitem.lookup,g.isList.typeIs,?_⟩;refine wpAny_getItem_list_slice g.isList p j t .none B9 ?_ (by rw[W0]<;>simp_all);rw[BA,<-d];refine⟨.ref s.heap.objs.size,_,I.laid (λb y q=>L6 _ q) F3 ?_,rfl,q _ (I.J7.fresh F3)⟩;exact⟨C3 (wa c e f) m,_,0,(r.drop (HT.P0 c.length 0 e)).take (HT.P0 c.length c.length f-HT.P0 c.length 0 e),W2 _ rfl⟩
def Es:ae X (.builtin "len") (λxs H Q=>∃p ys,xs=[.ref p]/\(N5 X.K H p ys\/W4 X.K H p ys)/\Q (.int ys.length) H):=by
 intro e s j H xs k Q I r h;obtain⟨p,ys,rfl,hq,q⟩:=h;obtain⟨u,rfl,g⟩:=vals1 r;cases g;have:=qC;rcases hq with hq|hq
 obtain⟨d,b,c,f⟩:=I.list hq;have a:=b.length;exact Calls.call_len_list c.isList (by simp only[W0]<;>lia) ⟨.int ys.length,H,I.tok _,⟨s.toks+1,by rw[W0,a]⟩,q⟩;obtain⟨d,b,c,f⟩:=I.tuple hq;have a:=b.length;exact len_tuple c (by simp only[W0]<;>lia) ⟨.int ys.length,H,I.tok _,⟨s.toks+1,by rw[W0,a]⟩,q⟩
def Er:ae X (.builtin "len") (λxs H Q=>∃z,xs=[.str z]/\z.length<=F0/\Q (.int z.length) H):=by intro a s d H xs e Q I r h;obtain⟨z,rfl,c,q⟩:=h;obtain⟨u,rfl,t,rfl⟩:=vals1 r;have:=qC;exact len_str u3 ⟨.int z.length,H,I.tok _,⟨_,rfl⟩,q⟩
def ae.or{r c:List V->Hp->VK->Prop}(h:ae X f r)(h':ae X f c):ae X f (λxs H Q=>r xs H Q\/c xs H Q):=by
 intro a s b H xs e Q I d q;rcases q with q|q
 exact h a s b H xs e Q I d q;exact h' a s b H xs e Q I d q
def Ep:ae X (.type "list") (λxs H Q=>∃p ys,xs=[.ref p]/\(N5 X.K H p ys\/W4 X.K H p ys)/\∀l,H l=J->Q (.ref l) (upd H l (.lst ys))):=by
 intro k s A H xs C Q I r h;obtain⟨p,ys,rfl,hq,q⟩:=h;obtain⟨u,rfl,B⟩:=vals1 r;cases B;have m:∀a,Vals ys a->ys.length<=F0->∀c d,(∀b z,s.heap.get? b=U z->c.get? b=U z) ->
   c.get? s.heap.objs.size=U {cls:=.type "list",dict:=J,data:=.seq a.toArray d,slots:=#[]}->EP X k A Q (.ref s.heap.objs.size) {s with heap:=c}:=λa f i c d j e =>
  ⟨.ref s.heap.objs.size,_,I.laid j F3 (show X4 X.prog X.w _ c _ (.lst ys)from⟨i,a,d,f,e⟩),rfl,q _ (I.J7.fresh F3)⟩
 rcases hq with hq|hq
 obtain⟨a,f,x,i⟩:=I.list hq;have:=f.length;obtain⟨o,v,y,n,t⟩:=x.isList;exact call_list_seq p (.inl rfl) v y t (λc d j e=>m a f i c d j e) (by simp only[W0]<;>simp_all);obtain⟨a,f,x,i⟩:=I.tuple hq;have:=f.length;obtain⟨o,v,y,n,t⟩:=x;exact call_list_seq p (.inr rfl) v y t (λc d j e=>m a f i c d j e) (by simp only[W0]<;>simp_all)
def BI:ae X (.type "tuple") (λxs H Q=>∃p ys,xs=[.ref p]/\((N5 X.K H p ys/\∀l,H l=J->Q (.ref l) (upd H l (.tup ys)))\/(W4 X.K H p ys/\Q (.ref p) H))):=by
 intro a s k H xs x Q I r h;obtain⟨p,ys,rfl,h⟩:=h;obtain⟨u,rfl,t⟩:=vals1 r;cases t;rcases h with ⟨hq,q⟩|⟨hq,q⟩
 . obtain⟨c,f,g,j⟩:=I.list hq;have:=f.length;refine call_tuple_list g.isList (λd v=>?_) (by simp only[W0]<;>simp_all);have m:Inv X a k H {s with heap:=d}:=I.kept v
   have n:Inv X a k (upd H d.objs.size (.tup ys)) {s with heap:=d.push {cls:=.type "tuple",data:=.seq c.toArray}}:=
    m.laid (λb o e=>L6 _ e) F3 (show X4 X.prog X.w _ _ _ (.tup ys)from⟨j,c,f,EC _ _⟩)
   exact⟨.ref d.objs.size,_,n,rfl,q _ (m.J7.fresh F3)⟩
 obtain⟨c,f,g,j⟩:=I.tuple hq;exact call_tuple_same g ⟨.ref p,H,I,rfl,q⟩
def Zd(K:y7)(T:String)(x:V)(H:Hp):Prop:=match x with
 | .str _=>T = "str"
 | .int _=>T = "int"
 | .ref p=>(T = "list"/\∃xs,N5 K H p xs)\/(T = "tuple"/\∃o,K.lookup p=U o/\o.cls=.type "tuple"/\o.dict=J) \/
   (T = "dict"/\((∃kvs,H p=U (.dK kvs))\/∃kvs,H p=U (.dT kvs)))\/(T = "set"/\∃S n,H p=U (.set S n))
 |_=>False
def KW{x:V}(I:Inv X a b H s)(r:RelV x f)(ty:Zd X.K Q x H):
  s.TypeIs f Q/\∀k,f=.ref k->∃ob,s.heap.get? k=U ob/\ob.dict=J:=by
 cases x with
 |str z =>
  obtain⟨t,rfl⟩:=r;cases(show Q = "str" from ty);exact⟨typeIs_str s z t,λ_ e=>nomatch e⟩
 |int i =>
  obtain⟨t,rfl⟩:=r;cases(show Q = "int" from ty);exact⟨typeIs_int s i t,λ_ e=>nomatch e⟩
 |ref p =>
  cases r;rcases ty with ⟨rfl,q,hq⟩|⟨rfl,o,T,l,v⟩|⟨rfl,T⟩|⟨rfl,S,n,T⟩
  obtain⟨m,_,j,_⟩:=I.list hq;refine⟨j.isList.typeIs,λk e=>?_⟩;cases e;obtain⟨o,n,e,c,v,_⟩:=j;exact⟨o,e,v⟩;refine⟨⟨o,I.gP p o T,l⟩,λk e=>?_⟩;cases e;exact⟨o,I.gP _ o T,v⟩
  . have z:∃o,s.heap.get? p=U o/\o.ExactDict:=by
      rcases T with ⟨g,T⟩|⟨g,T⟩
      obtain⟨_,_,_,_,o,_,_,e,d,_⟩:=I.J7 p _ T;exact⟨o,e,d⟩;obtain⟨_,_,_,_,o,_,_,e,d,_⟩:=I.J7 p _ T;exact⟨o,e,d⟩
    obtain⟨o,e,d⟩:=z;refine⟨⟨o,e,d.1⟩,λk h=>?_⟩;cases h;exact⟨o,e,d.2.1⟩
  obtain⟨o,_,_,_,e,d,_⟩:=I.J7 p _ T;refine⟨⟨o,e,d.1⟩,λk h=>?_⟩;cases h;exact⟨o,e,d.2.1⟩
 |_=>exact dU ty
def Zp(K:y7)(T:String)(r:V->List V->Hp->VK->Prop)(to:TE):TE:=λσ H Q=>to σ H λx H1=>Zd K T x H1/\r x [] H1 Q
def Hf(K:y7)(T:String)(r:V->List V->Hp->VK->Prop)(to:TE)(t:TA):TE:=λσ H Q=>to σ H λx H1=>Zd K T x H1/\t σ H1 λxs H2=>r x xs H2 Q
variable{T:String}
def a0x{name:Str}{cpos:Pos}(k:PlainAttrs T)(slot:Slot T name Q)(d:typeOf (.builtin Q)=pure (.type "method_descriptor"))(i:VU X Q O)(j:PE X e Y)(b:autoParam (aU e name X.env (eval e X.env)=eval e X.env) t8)(c:autoParam ((R.endLine==cpos.line)=Uf) t8):PE X (.Call (.Attribute e name R) [] [] cpos) (Zp X.K T O Y):=by
 intro a s f H r I h;refine wpAny_Call_method0_late b c (G3 (j a s f H _ I h) λv m ⟨x,p,g,o,t,q⟩=>?_);obtain⟨n,l⟩:=KW g o t;exact⟨T,Q,k,slot,d,n,l,Gh rfl (PySem.evalArgs_none (i a m f p x [] v [] r g o .nil q))⟩
def xK {o:Expr} {es:List Expr} {t:TA} {name:Str} {cpos:Pos} (u:PlainAttrs T) (slot:Slot T name Q) (i:typeOf (.builtin Q)=pure (.type "method_descriptor")) (C:VU X Q O) (n:PE X o Y) (M:PA X (e::es) t) (f:autoParam (aU o name X.env (eval o X.env)=eval o X.env) t8) (g:autoParam (((H9 cpos (w4 (e::es) X.env)).all (λx=>!x.1)&&(cq cpos (eJ [] X.env)).all (λx=>x.1.isSome)
   && decide ((e::es).length+([]:List aZ).length+(if ([]:List aZ).isEmpty then 0 else 1)<30))=Uf) t8)
  (d:autoParam ((R.endLine==cpos.line)=Uf) t8) (hs:autoParam (w4 (e::es) X.env=(U',eval e X.env)::w4 es X.env) t8) (c:autoParam ((H9 cpos (w4 es X.env)).any (·.1)=U') t8) :
  PE X (.Call (.Attribute o name R) (e::es) [] cpos) (Hf X.K T O Y t):=by
 intro b s j H r I h;refine wpAny_Call_method_late f g d rfl (G3 (n b s j H _ I h) λv y ⟨x,G,k,m,A,L⟩=>?_);obtain⟨F,w⟩:=KW k m A;refine⟨T,Q,u,slot,i,F,w,?_⟩;have l:=M cpos b y j G _ k L;rw[hs]at l ⊢;refine Gh (by show(U'||(H9 cpos (w4 es X.env)).any (·.1))=U';rw[c]<;>rfl) (Pt ?_);exact G3 l λz E ⟨q,D,p,B,q2⟩=>C b E j D x q v z r p m B q2
end
def MtM(X:Cx)(id:String)(r:V->List V->Hp->VK->Prop):Prop:=
 ∀(pins:List (Addr×Obj)) (s:v7) (σ:St) (H:Hp) (x:V) (xs:List V) (v:t5) (us:List t5) (Q:VK),Inv X pins σ H s->RelV x v->Vals xs us->r x xs H Q ->
  wpAny (model X.prog X.w) X.A (call (.builtin id) (v::us)) (EP X pins σ Q) X.xe s
def Vals.one{x:V}(h:Vals [x] S):∃u,S=[u]/\RelV x u:=by
 cases h with
 |cons r t=>cases t;exact⟨_,rfl,r⟩
def Vals.zero:∀{us:List t5},Vals [] us->us=[]
 |_,.nil=>rfl
theorem Vals.reverse{xs:List V}{us:List t5}(h:Vals xs us):Vals xs.reverse us.reverse:=by
 induction h with
 |nil=>exact .nil
 |cons r t a=>rw[zk,zk];exact Vals.append a (.cons r .nil)
def Inv.Tn{ys:List V}{its':List t5}{f:Array t5->Array t5}{t':Nat}(I:Inv X a b H s)(d:H p=U (.lst Z))(e:s.heap.get? p=U {cls:=.type "list",data:=.seq S.toArray n})(g:f S.toArray=its'.toArray)(c:Vals ys its')(hz:ys.length<=F0):
  Inv X a b (upd H p (.lst ys)) {s with heap:=s.heap.update p (jR f),toks:=t'}:=by
 have q:=PySem.IsL.update e f;rw[g]at q;refine I.write (by rw[d];exact trivial) (.inl rfl) (λi u h σ=>(PN s.heap (jR f) (lZ h)).trans σ) ⟨_,q⟩ ?_;exact⟨hz,its',_,c,q⟩
def Inv.a0Y(I:Inv X a b H s)(σ:Vals Z S)(hz:Z.length<=F0):
  Inv X a b (upd H s.heap.objs.size (.lst Z)) {s with heap:=s.heap.push {cls:=.type "list",data:=.seq S.toArray},toks:=n}:=
 I.laid (λ_ _ q=>L6 _ q) F3 ⟨hz,S,0,σ,W2 _ rfl⟩
theorem Inv.fresh(I:Inv X a b H s):H (hz s)=J:=I.J7.fresh F3
def Inv.JS(I:Inv X a b H s)(l:H p=U (.lst Z)):Z.length<=F0/\∃(σ:List t5) (n:Nat),Vals Z σ/\Z.length=σ.length/\s.heap.get? p=U {cls:=.type "list",data:=.seq σ.toArray n}:=by obtain⟨z,σ,n,r,e⟩:=I.J7 p _ l;exact⟨z,σ,n,r,r.length,e⟩
def SR(h:n<=F0):Gm n=U':=by exact Z9 B4
def zH:V->List V->Hp->VK->Prop:=λx vs H Q=>∃l xs y,x=.ref l/\vs=[y]/\H l=U (.lst xs)/\xs.length<F0/\Q .non (upd H l (.lst (xs++[y])))
def Ba:MtM X "list.append" zH:=by
 intro c s k H x j v p Q I f d h;obtain⟨l,o,y,rfl,rfl,b,i,q⟩:=h;cases f;obtain⟨u,rfl,g⟩:=d.one;obtain⟨z,a,n,r,m,e⟩:=I.JS b;refine me F.slot_list_append ⟨_,e,rfl⟩ F.entry_list_append (F.args_list_append_2 _ _) (PySem.list_append l a.toArray n u (by rw[W0];simp_all)) ⟨e,?_⟩;refine⟨.non,_,I.Tn b e B9 (r.append (.cons g .nil)) ?_,rfl,q⟩;rw[aa,Gd];exact v5
def Hy:V->List V->Hp->VK->Prop:=λx vs H Q=>∃l b xs zs,x=.ref l/\vs=[.ref b]/\H l=U (.lst xs)/\H b=U (.lst zs)/\xs.length+zs.length<=F0/\Q .non (upd H l (.lst (xs++zs)))
def MN:MtM X "list.extend" Hy:=by
 intro g s E H x C v G Q I k w h;obtain⟨l,b,L,A,rfl,rfl,i,j,B,q⟩:=h;cases k;obtain⟨u,rfl,o⟩:=w.one;cases o;obtain⟨z,c,n,r,D,e⟩:=I.JS i;obtain⟨K,a,m,t,y,p⟩:=I.JS j;have f:c.toArray.size+a.toArray.size<=F0:=by rw[W0,W0];simp_all
 have d:¬(!c.toArray.isEmpty&&Gm (c.toArray.size+a.toArray.size))=Uf:=by rw[SR f,Bool.and_false];exact dI
 refine me F.slot_list_extend ⟨_,e,rfl⟩ F.entry_list_extend (F.args_list_extend_2 _ _)
  (AutoSeq1.list_extend_list_list_0 l c.toArray n b a.toArray m d (by rw[W0];exact xT) (uI v5)) ⟨e,p,?_⟩
 refine⟨.non,_,I.Tn i e B9 (r.append t) ?_,rfl,q⟩;rw[aa];omega
def CJ:V->List V->Hp->VK->Prop:=λx vs H Q=>∃l xs,x=.ref l/\vs=[]/\H l=U (.lst xs)/\Q .non (upd H l (.lst xs.reverse))
def JK:MtM X "list.reverse" CJ:=by
 intro d s k H x j v o Q I g f h;obtain⟨l,m,rfl,rfl,c,q⟩:=h;cases g;have b:=f.zero;subst b;obtain⟨z,a,n,r,i,e⟩:=I.JS c;refine me F.slot_list_reverse ⟨_,e,rfl⟩ F.entry_list_reverse (F.args_list_reverse_1 _) (AutoSeq1.list_reverse_list_0 l a.toArray n (by rw[W0];simp_all)) ⟨e,?_⟩;refine⟨.non,_,I.Tn c e B9 r.reverse ?_,rfl,q⟩;rw[FX];omega
section
variable{prog:M3}{w:E3}
end
end L2
namespace Att
open PySem PySem.W PySem.Calls PyProof.Rows
variable{P:Params}{h:Heap}{l:OpenLaw}
def xZ:∀(ns:List Int) (vs:List t5),WellAll P h vs (ns.map WData.int)->aJ vs ns:=by
 intro ns;induction ns with
 |nil =>
  intro vs w;cases w;exact .nil
 |cons n ns c =>
  intro vs w;cases w with
  |cons a b =>
   cases a;exact .cons _ _ (c _ b)
def Lw{n:Nat}(o:l.most=U n){args:List WData}{b:List t5}(c:l.row.toRowW.claim.pre args=Uf)(j:WellAll P h b args):
  ∃a vs ns,b=[ba a]/\args=[WData.list (ns.map WData.int)]/\h.get? a=U {cls:=.type "list",data:=.seq vs.toArray}/\aJ vs ns/\ns.length<=n:=by
 obtain⟨d,r,rfl,x,s⟩:=hasAllW_cons ((pre_splitW c).1);obtain rfl:=hasAllW_nil s;obtain⟨y,rfl,u⟩:=hasW_list x;obtain⟨ns,rfl⟩:=items_int u;have e:ns.length<=n:=by
  have i:(WTm.not (.lt (.lit (.int n)) (.len (.arg 0)))).holds [] {args:=[.list (ns.map .int)]}=Uf:=by have i:=(holds_andW ((pre_splitW c).2)).1;rw[o]at i;exact i
  have g:=condW_of i (w_not (w_lt w_lit (w_len_list (w_arg rfl))));refine mz λq=>?_
  first
   |(rw[iq t]at g;exact absurd g f5)
   |(simp at g;lia)
 cases j with
 |cons v w =>
  cases w;cases v with
  |list p f=>exact⟨_,_,ns,rfl,rfl,p,xZ ns _ f,e⟩
def Mb(l:OpenLaw)(args:List WData):l.row.toRowW.claim.post args (.bool Uf) args=Uf:=
 postW_of
  (show WShape.has [] (.bool Uf) .bool=Uf by first|rfl|decide|simp[WShape.has])
  (show(WTm.eq .res (.lit (.bool Uf))).value [] {args:=args,res:=U (.bool Uf),after:=args}=U (.bool (Uf==Uf))from w_eq_bool (w_res rfl) w_lit) rfl
def GW {n:Nat} {q:M3} {b:List Str} {z:(Str->Option t5)->Heap->Prop} {A:E3->Heap->Prop} {d:DefRec} (K:l.most=U n) (p:d.params.defaults=[]) (call:∀(w:E3) (W6 s₁:v7) (mg k:Str->Option t5) (fa:Addr) (o:Obj) (u j e:t5) (a:Addr) (vs:List t5) (ns:List Int),
   Ground q b [] z w W6 mg k s₁.heap->A w s₁.heap ->
   s₁.heap.get? fa=U o->o.data=.func (docDef d.name d.params d.body d.scope u j e)->s₁.heap.CodeRec j d.name->mg d.name=U (.ref fa) ->
   s₁.heap.get? a=U {cls:=.type "list",data:=.seq vs.toArray}->aJ vs ns->ns.length<=n->s₁.gens = #[] ->
   codeAny (model l.prog w) lX (.call (.ref fa) ⟨[.ref a],[]⟩) (λr s'=>r=.ok (.ret (.bool Uf))/\OldK s₁.heap s'.heap/\s'.os=s₁.os/\jP s'.gens) s₁) :
  WalkO q b z A l.row.toRowW d [] (λf vs=>ED f vs):=by
 intro w W6 s₁ mg k G Y fa o u j e O kV B I s hD m F y x N g v M t H;obtain rfl:=Dflts.none hD p;obtain rfl:=Dflts.noKw hD;obtain⟨a,vs,ns,rfl,rfl,h,c,i⟩:=Lw K g t;refine enter_call (yR (call w W6 s₁ mg k fa o u j e a vs ns G Y B (fd_plain I) s m h c i F) λr s' hq=>?_);obtain⟨rfl,C,D,L⟩:=hq;exact⟨.inl ⟨.bool Uf,.bool Uf,[],rfl,λ_=>rfl,.bool Uf,Mb l _,λ_=>⟨List.Pairwise.nil,λ_ E=>(nomatch E)⟩⟩,C,D,L⟩
section
variable{prog:M3}{w:E3}{K:Frag}
def ledger(h:Heap)(L d:Addr):List (Addr×Obj):=(C8 h.objs.size).filterMap λa=>if a=L\/a=d then J else(h.get? a).map λo=>(a,o)
end
end Att
namespace L2
open PySem PySem.Spec PyProof.Rows
variable{c:Cx}{m d5:Nat}{z T c9 i3 j2 j3 j4:Addr}{H q i0:Hp}{e E b7:Expr}{I:Bool}{p A c8:Pos}{g:y7}{O j8:List Addr}{G c6:TE}{o a7:Str}{y:v7}{B:St}{Z:List Expr}{D:Z0}{M:List V}{N:TA}{Q b9:t5->v7->Prop}{P d9:List Str}{S:List f7}{a2 i5:Int}{a6:Heap}{a8:V}{b3:TT}{b5:M3}{b6 j0:t5}{b8:Array t5}{c7:List (Addr×Obj)}{d3:Type}{d8:U5}{e8:eV}{e9:f7}{g8:XK}{h8:List t5}{i8:E3}{i9:Bx}{j1:TG}{j6:Stmt}{j7:TI}{j9:List (Str×V)}{k6:Array Nat}{k7:Option Addr}{k8:R2}{l7:String}{l8:Option t5->v7->Prop}{l9:f7->Option (List f7)}{m3:TS}{m7:Sem Bool}{m8:Str->Option t5}{m9:List (List Key×V)}{n6:HO}{n8:Env}{n9:Result->v7->Prop}{o0:wd}{o1:Obj}{o2:List V->Hp->VK->Prop}{o3:List Stmt}{o5:List Key}{o6:List (Str×Addr)}{o7:CmpOp}{o8:List Int}{o9:Array (Option t5)}{p4:List (Key×V)}{p5:Option V}{p6:Option Obj}{p7:Option (Option V)}{q5:Int->Int->V}{q9:Int->Int->f7}{r4:Addr->List Key->Prop}{r9:List (List Key)}
def KP(h:aJ h8 o8):Vals (o8.map V.int) h8:=by
 induction h with
 |nil=>exact .nil
 |cons n t _ i=>exact .cons ⟨t,rfl⟩ i
def UJ(H:Hp):Prop:=∀b,H b=J\/∃o xs,H b=U (.dP o (.lst xs))
def Tu{mb:Str->Option t5}{sp:Sp}(KX:g.In y.heap)(hns:y.heap.Ns aA m8)(hb:y.heap.Ns builtinsNs mb)(hbb:∀o:Str,o ≠ "__name__"->mb o=eL o)(hlim:y.heap.NoLimit)(hg:y.gens = #[])(ha:y.heap.get? T=U {cls:=.type "list",data:=.seq h8.toArray})(hi:aJ h8 o8)(hl:o8.length<=F0)(hr:O9 m lX)(F:∀base:Heap,g.In base->base.Ns aA m8->bz b5 i8 g m8 base i9 m z d8 [o] sp)(hbind:∀(s:v7) (u:t5),lY s d8 ⟨[u],[]⟩ [(o,u)])(hsp:∀H:Hp,UJ H->N5 g H T (o8.map V.int)->sp [.ref T] H (λv _=>v=.bl Uf) λ_ _ _=>False)(hCX:∀H e s',i9 [] H y (λ_ _ _=>False) e s'->False):
  codeAny (model b5 i8) lX (.call (.ref z) ⟨[.ref T],[]⟩) (λr s'=>r=.ok (.ret (.bool Uf))/\OldK y.heap s'.heap/\s'.os=y.os/\jP s'.gens) y:=by
 have rv:=KP hi;have core:∀H:Hp,UJ H->N5 g H T (o8.map V.int)->J2 b5 i8 H y.heap->(∀b,H b≠J->b=T)->(H T≠J->g.lookup T=J) ->
   codeAny (model b5 i8) lX (.call (.ref z) ⟨[.ref T],[]⟩) (λr s'=>r=.ok (.ret (.bool Uf))/\OldK y.heap s'.heap/\s'.os=y.os/\jP s'.gens) y:=by
  intro H hO hS J7 hA hK;have base_of:∀{b:Addr} {K:Obj},y.heap.get? b=U K->H b=J->(tV y.heap H).get? b=U K:=λe n=>TJ e n
  have noA:∀{b:Addr} {K:Obj} {es:Array DictEntry} {ep:Nat},y.heap.get? b=U K->K.data=.dict es ep->H b=J:=λ{b K es ep} e d=>by
   cases q:H b with
   |none=>rfl
   |some u =>
    have e':=hA b (by rw[q];simp);subst e';rw[ha]at e;cases e;cases d
  have nsK:∀{b:Addr} {P:Str->Option t5},y.heap.Ns b P->(tV y.heap H).Ns b P:=λ{b P} ⟨K,es,ep,e,d,r⟩=>⟨K,es,ep,base_of e (noA e d),d,r⟩
  have hKb:=λb K e=>base_of (KX b K e) (by
   cases q:H b with
   |none=>rfl
   |some u =>
    have e':=hA b (by rw[q];simp)
    subst e';rw[hK (by rw[q];simp)]at e;exact nE e)
  have hM:Mod g m8 (tV y.heap H):=⟨hKb,nsK hns,⟨mb,nsK hb,hbb⟩,let ⟨mc,h1,h2⟩:=hlim;⟨mc,nsK h1,h2⟩⟩;have e0:xj b5 i8 g m8 (tV y.heap H) lX [] y H:=⟨rfl,hM,λb K e=>XM e,oQ (Nq _ _),trivial,λb hb=>absurd (show b∈([])from hb) B9,J7,.of_eq hg⟩;refine yR ((F _ hKb (nsK hns)).run lX [] y H ⟨[.ref T],[]⟩ [.ref T] [.ref T] _ _ hr e0 (hbind y (.ref T)) (.cons rfl .nil) (hsp H hO hS)) λr s' h=>?_
  cases r with
  |error e=>exact(hCX H e s' h).elim
  |ok fl =>
   cases fl with
   |next=>exact dU h
   |brk=>exact dU h
   |cont=>exact dU h
   |ret u =>
    obtain⟨v,H',os,bare,un,hok',r',q⟩:=h;subst q;obtain rfl:=r';refine⟨rfl,OldK.of_keep λb K e=>?_,os,bare⟩
    cases q:H b with
    |none=>exact un.keep b K e q (by intro w;exact absurd (show b∈([])from w) B9) B9
    |some u =>
     rcases hO b with w|⟨ob,xs,w⟩
     rw[q]at w;exact nS w;have z2:=un.mM b ob _ w;obtain⟨e1,_⟩:=J7 b _ w;obtain⟨e2,_⟩:=hok' b _ z2;rw[e]at e1;cases e1;exact e2
 cases hk:g.lookup T with
 |some K =>
  have e:=KX T K hk;rw[ha]at e;cases e;refine core (λ_=>J) (λ_=>.inl rfl) (.inr ⟨_,h8.toArray,_,hk,rfl,rfl,rfl,by rw[W0,hi.length];exact hl,by simpa using rv⟩) (λb u w=>by have z':=w;exact nE z') (λb w=>absurd rfl w) λw=>absurd rfl w
 |none =>
  refine core (λb=>if b=T then U (.dP {cls:=.type "list",data:=.seq h8.toArray} (.lst (o8.map V.int)))else J) (λb=>?_) (.inl (.inr ⟨{cls:=.type "list",data:=.seq h8.toArray},t2 rfl⟩)) (λb u w=>?_) (λb w=>?_) λ_=>hk;by_cases hb:b=T;exact .inr ⟨_,_,t2 hb⟩;exact .inl (s9 hb);by_cases hb:b=T;have z':=(t2 hb).symm.trans w;cases z';subst hb;exact⟨ha,by rw[E7];exact hl,h8,_,rv,ha⟩;have z':=(s9 hb).symm.trans w;exact nE z';by_cases hb:b=T;exact hb;exact absurd (s9 hb) w
def Wg {l:Fp} {n k:Nat} {R:(Str->Option t5)->Heap->Prop} {D:E3->Heap->Prop} {d:DefRec} {K:Params->y7} {CX:E3->Bx} {sp:E3->Sp} {x:Str} (E:l.most=U n) (z:n<=F0) (y:d.params.defaults=[]) (N:O9 k lX) (O:∀(w:E3) (h:Heap),D w h->(K w.params).In h) (F:∀(w:E3) (mg:Str->Option t5) (fa:Addr) (h:Heap),(K w.params).In h->h.Ns aA mg->mg d.name=U (.ref fa) ->
   ∃fd:U5,(∀(s:v7) (u:t5),lY s fd ⟨[u],[]⟩ [(x,u)]) /\
    ∀base:Heap,(K w.params).In base->base.Ns aA mg->bz l.prog w (K w.params) mg base (CX w) k fa fd [x] (sp w))
  (r:∀(w:E3) (H:Hp) (a:Addr) (ns:List Int),ns.length<=n->UJ H->N5 (K w.params) H a (ns.map V.int)->sp w [.ref a] H (λv _=>v=.bl Uf) λ_ _ _=>False)
  (A:∀(w:E3) (H:Hp) (s:v7) (e:t5) (s':v7),CX w [] H s (λ_ _ _=>False) e s'->False) :
  PySem.W.WalkO b5 P R D l.row.toRowW d [] (λf vs=>ED f vs):=by
 refine Att.GW E y λw B p mg mb fa o pm cd Q a vs ns G Y ho Z S t m i c q=>?_;have C:=O w _ Y;obtain⟨fd,X,I⟩:=F w mg fa _ C G.T.g t;exact Tu C G.T.g G.T.b G.T.builtins G.T.nolimit q m i (C3 c z) N I X (λH L M=>r w H a ns c L M) λH e s'=>A w H p e s'
def inClass(s:Stmt)(j:Nat):Stmt:=match s with
 | .ClassDef _ _ _ body _ _ _ _ _ _ _=>body.getD j (.Pass ⟨0,0,0,0⟩)
 |_=>.Pass ⟨0,0,0,0⟩
def je(s:Stmt):Arguments:=match s with
 | .FunctionDef _ a _ _ _ _ _ _ _ _=>a
 |_=>{posonlyargs:=[],args:=[],vararg:=J,kwonlyargs:=[],kw_defaults:=[],kwarg:=J,defaults:=[]}
def cH(s:Stmt):List Stmt:=match s with
 | .FunctionDef _ _ b _ _ _ _ _ _ _=>b
 |_=>[]
def N7(s:Stmt):eV:=match s with
 | .FunctionDef _ _ _ _ _ _ sc _ _ _=>sc
 |_=>{kind:=.function,names:=[],isGenerator:=U',isCoroutine:=U'}
abbrev sV:Bx:=λ_ _ _ _ _ _=>False
abbrev E0:XK:=λ_ _ _=>False
def fY:Passes sV c E0:=λ_ _ _ _ _ _ _ h=>h.elim
structure uR(K:y7)(x qual:Str)(st:Stmt)(f:Addr)(fd:U5):Prop where
 ex:∃(oc:t5) (od:Option Addr) (kV doc pm:t5) (an:Option Addr) (cdv ct:t5) (osl:Array (Option t5)),
  fd=hH x qual (je st) (cH st) (N7 st) .none kV doc pm an cdv ct/\K.lookup f=U ⟨oc,od,.func fd,osl⟩/\yV K cdv qual=Uf
 kp:hP K (.ref f)=Uf
section
variable{w:E3}{K:y7}{mg:Str->Option t5}
def uR.ok {e:List Str} {sp:Sp} (F:uR K o a7 j6 z d8) (S:kR d9 e (N7 j6)) (len:∀vs H Q E,sp vs H Q E->vs.length=e.length) (c:∀(b:t5) (A:Z0) (outer:List Env) (s:v7) (H:Hp) (vs:List V) (Q:VK) (E:XK),O9 m (A.deeper (fP a7 (N7 j6) (hz s) z b))->sp vs H Q E ->
   ∃t,pU (qk sV b5 w K mg a6 d9 a7 (N7 j6) z b A outer s H E).AZ (cH j6) t/\t {nx:=λ_ H'=>Q .non H',rt:=Q} (start d9 vs) H):bz b5 w K mg a6 sV (m+1) z d8 e sp:=by
 obtain⟨u,p,kV,n,v,P,b,r,j,rfl,l,i⟩:=F.ex;refine a2Z l i S len λA outer s H vs Q E x g=>?_;obtain⟨t,h,q⟩:=c b A outer s H vs Q E x g;exact⟨t,h.AZ,q⟩
def uR.binds(F:uR K o a7 j6 z d8)(h:∀(kV b i:t5) (e:Option Addr) (c ct:t5) (us:List t5),us.length=P.length->bindArgs (hH o a7 (je j6) (cH j6) (N7 j6) .none kV b i e c ct) ⟨us,[]⟩=pure (P.zip us)):Binds K d8 P []:=by obtain⟨l,m,kV,b,i,e,c,ct,j,rfl,n,k⟩:=F.ex;exact .all (h kV b i e c ct)
def a1v{h:Option Addr}{d i b ct:t5}(l:K.lookup z=U ⟨b6,k7,.func (hH o a7 (je j6) (cH j6) (N7 j6) .none j0 d i h b ct),o9⟩)(c:yV K b a7=Uf)(k:hP K (.ref z)=Uf):uR K o a7 j6 z (hH o a7 (je j6) (cH j6) (N7 j6) .none j0 d i h b ct):=⟨⟨b6,k7,j0,d,i,h,b,ct,o9,rfl,l,c⟩,k⟩
end
def pv(i:Nat){x:Str}(b:autoParam (c.N[i]? = U x) t8)(X:VP c.env.scope x:=by first|exact Or.inl rfl|exact Or.inr (Or.inl rfl)|exact Or.inr (Or.inr rfl))(hd:autoParam ((x==("__debug__" : Str))=U') H0)(a:autoParam ((x==("__classdict__" : Str))=U') H0):PE c (.Name x p) (Q7 i):=a0q b X hd a
def v8(H H':Hp):Prop:=∀b o,H b=U o->H' b=U o
def v8.refl(H:Hp):v8 H H:=λ_ _ h=>h
def v8.trans(a:v8 H q)(b:v8 q i0):v8 H i0:=λc o h=>b c o (a c o h)
def v8.free(e:v8 H q)(h:q z=Option.none):H z=Option.none:=by
 cases l:H z with
 |none=>rfl
 |some o =>
  rw[e z o l]at h;exact nS h
def v8.seq(e:v8 H q)(h:N5 g H z M):N5 g q z M:=by
 rcases h with (h|⟨o,h⟩)|h
 exact .inl (.inl (e _ _ h));exact .inl (.inr ⟨o,e _ _ h⟩);exact .inr h
section
variable{κ:Type}[DecidableEq κ]
noncomputable def jj(kvs:List (κ×V))(k:κ):Option V:=(kvs.find? λkv=>decide (kv.1=k)).map (·.2)
noncomputable def putK(kvs:List (κ×V))(k:κ)(v:V):List (κ×V):=
 if (kvs.any λkv=>decide (kv.1=k))=Uf then kvs.map (λkv=>if kv.1=k then(kv.1,v)else kv)else kvs++[(k,v)]
def wz{p:κ×V}{r:List (κ×V)}{k:κ}(e:p.1=k):jj (p::r) k=U p.2:=by simp[jj,e]
def wA{p:κ×V}{r:List (κ×V)}{k:κ}(e:¬p.1=k):jj (p::r) k=jj r k:=by simp[jj,e]
theorem gM.getD{o:Option V}{u:Option t5}{d:V}{d':t5}(r:gM o u)(a:RelV d d'):RelV (o.getD d) (u.getD d'):=by
 cases o with
 |none=>cases u with
  |none=>exact a
  |some _=>exact(show False from r).elim
 |some _=>cases u with
  |none=>exact(show False from r).elim
  |some _=>exact r
def KV.val{a:List (κ×V)}{vs:List (κ×t5)}(r:KV a vs)(k:κ):gM (jj a k) (qO vs k):=by
 induction r with
 |nil=>exact cT
 | @cons p q j d h t i =>
  obtain⟨f,g⟩:=h;by_cases e:p.1=k
  . have c:=f.symm.trans e;have b:qO (q::d) k=U q.2:=by simp[qO,c]
    rw[wz e,b];exact g
  . have c:¬q.1=k:=λz=>e (f.trans z)
    have b:qO (q::d) k=qO d k:=by simp[qO,c]
    rw[wA e,b];exact i
theorem KV.any{a:List (κ×V)}{vs:List (κ×t5)}(r:KV a vs)(k:κ):(a.any λkv=>decide (kv.1=k))=vs.any λkv=>decide (kv.1=k):=by
 induction r with
 |nil=>rfl
 |cons h t b=>simp_all
theorem KV.length{a:List (κ×V)}{vs:List (κ×t5)}(r:KV a vs):a.length=vs.length:=Paired.length r
end
def JY{k:Key}(r:RelV (kV k) b6):(aQ b5 i8).is k b6=Uf:=by
 cases k with
 |inl i=>obtain⟨t,e⟩:=(show ∃t,b6=yE i t from r);subst e;exact GP b5 i8 i t
 |inr x=>obtain⟨t,e⟩:=(show ∃t,b6=yD x t from r);subst e;exact GO b5 i8 x t
def Bj:∀{ks:List Key} {us:List t5},Vals (ks.map kV) us->ItemsAre (aQ b5 i8) ks us:=by
 intro l_;induction l_ with
 |nil =>
  intro _ r;rw[oP]at r;cases r;exact .nil
 |cons k ks ih_ =>
  intro _ r;cases r with
  |cons h t=>exact .cons (JY h) (ih_ t)
abbrev KT(H:Hp):List (List Key×V)->List (List Key×Addr×t5)->Prop:=Paired λp q=>p.1=q.1/\H q.2.1=U (.tup (p.1.map kV))/\RelV p.2 q.2.2
def KT.val{xs:List (List Key×Addr×t5)}(r:KT H m9 xs)(k:List Key):gM (jj m9 k) ((atKey xs k).map (·.2)):=by
 induction r with
 |nil=>exact cT
 | @cons p q j d h t i =>
  obtain⟨f,_,g⟩:=h;by_cases e:p.1=k
  . have c:=f.symm.trans e;have b:atKey (q::d) k=U q.2:=by simp[atKey,c]
    rw[wz e,b];exact g
  . have c:¬q.1=k:=λz=>e (f.trans z)
    have b:atKey (q::d) k=atKey d k:=by simp[atKey,c]
    rw[wA e,b];exact i
section
variable{w:E3}
def Vn(ok:J2 b5 w H a6)(e:Rd H z n6):X4 b5 w H a6 z n6:=e.ok ok
def BY(ok:J2 b5 w H a6)(e:Rd H z (.dK p4)):p4.length<=F0/\(z==qQ)=U'/\∃vs,KV p4 vs/\a6.DictOf (aQ b5 w) z vs:=
 show X4 b5 w H a6 z (.dK p4)from Vn ok e
def DC(ok:J2 b5 w H a6)(e:H z=U (.tup (o5.map kV))):(oJ (aQ b5 w)).is a6 o5 z:=by
 obtain⟨_,b,r,o,c,f,n,d⟩:=(show X4 b5 w H a6 z (.tup (o5.map kV))from ok z _ e);exact⟨o,b.toArray,n,c,f,d,by simpa using Bj r⟩
def BX(ok:J2 b5 w H a6)(e:Rd H z (.dT m9)):m9.length<=F0/\(z==qQ)=U' /\
  ∃xs,KT H m9 xs/\a6.DictOfH (oJ (aQ b5 w)) z xs:=by
 obtain⟨P,y,xs,r,o,g,f,d,j,k,i,n⟩:=(show X4 b5 w H a6 z (.dT m9)from Vn ok e);refine⟨P,y,xs,r,o,g,f,d,j,k,i,λx c=>?_,n⟩
 have all:∀{l:List (List Key×V)} {m:List (List Key×Addr×t5)},KT H l m->∀x∈m,(oJ (aQ b5 w)).is a6 x.1 x.2.1:=by
  intro l m q;induction q with
  |nil=>intro x c;exact nomatch c
  | @cons p q v u hq t s =>
   intro x c;rcases List.mem_cons.mp c with e|c
   subst e;exact DC ok (by rw[<-hq.1];exact hq.2.1);exact s x c
 exact all r x c
end
def xk(H:Hp)(a:Addr)(y:V)(r:Option V):Prop:=
 (∃kvs k,Rd H a (.dK kvs)/\y=kV k/\r=jj kvs k)\/∃kvs k b,Rd H a (.dT kvs)/\y=.ref b/\H b=U (.tup (k.map kV))/\r=jj kvs k
def a2a(H:Hp)(a:Addr)(y v:V)(H':Hp):Prop:=
 (∃kvs k,H a=U (.dK kvs)/\y=kV k/\kvs.length<F0/\H'=upd H a (.dK (putK kvs k v))) \/
 ∃kvs k b,H a=U (.dT kvs)/\y=.ref b/\H b=U (.tup (k.map kV))/\kvs.length<F0/\H'=upd H a (.dT (putK kvs k v))
def xk.t{a b:Addr}(e:H a=U (.dT m9))(d:H b=U (.tup (o5.map kV))):xk H a (.ref b) (jj m9 o5):=.inr ⟨m9,o5,b,.inl e,rfl,d,rfl⟩
def a2a.t{a b:Addr}{v:V}(e:H a=U (.dT m9))(f:H b=U (.tup (o5.map kV)))(d:m9.length<F0):
  a2a H a (.ref b) v (upd H a (.dT (putK m9 o5 v))):=.inr ⟨m9,o5,b,e,rfl,f,d,rfl⟩
def Inv.big(I:Inv c c7 B H y):qQ<(hz y):=by exact yP f5 ((I.mod.glob.keeps I.bk).lt)
def NS{v:V}(t:D.units+1<S7)(I:Inv c c7 B H y)(g:xk H z a8 (U v))(o:RelV a8 b6)(h:∀w' s',Inv c c7 B H s'->RelV v w'->Q w' s'):
  wpAny (model c.prog c.w) D (gX (.ref z) b6) Q b9 y:=by
 rcases g with ⟨j,k,e,n,l⟩|⟨j,k,b,e,n,r,l⟩
 subst n;obtain⟨s,x,σ,X,m⟩:=BY I.J7 e;obtain⟨w',f,d⟩:=gM.some_of (by rw[l];exact X.val k);exact wpAny_getItem_of (JY o) m.mapOf f (h w' _ (I.tok _) d);subst n;cases(show b6=ba b from o);obtain⟨s,x,C,X,m⟩:=BX I.J7 e;obtain⟨w',f,d⟩:=gM.some_of (by rw[l];exact X.val k);obtain⟨p,q,i⟩:=Option.map_eq_some_iff.mp f;refine wpAny_getItem_heap (tupleKind_room_in1 t) (DC I.J7 r) m q ?_;rw[i];exact h w' _ (I.tok _) d
def UK(i:Expr):Prop:=∀ov iv,subscripted i U' ov iv=operate [ov,iv] (gX ov iv)
def Wq{id:String}(k:um (.type l7) "__getitem__" = pure (U (.builtin id)))(hs:UK b7)(h:wpAny (model b5 i8) D (eval e n8) (λo s₁=>wpAny (model b5 i8) D (eval b7 n8) (λi s₂=>s₂.TypeIs o l7/\wpAny (model b5 i8) D (gX o i) Q b9 s₂) b9 s₁) b9 y):
  wpAny (model b5 i8) D (eval (.Subscript e b7 p) n8) Q b9 y:=by
 refine Subscript_ (cu h (λo s₁ g=>cu g (λi s₂ c=>?_) λ_ _ x=>x) λ_ _ x=>x)
 obtain⟨j,c⟩:=c;refine u7 ?_;refine u7 (wpAny_specialOf j k ?_);have w:wpAny (model b5 i8) D (subscripted b7 U' o i) (λr d=>wpAny (model b5 i8) D (letTemporaryGo e o r >>= λ_=>pure r) Q b9 d) b9 s₂:=by rw[hs o i];exact wpAny_operating (cu c (λr d f=>u7 (wpAny_letTemporaryGo (A3 f))) λ_ _ x=>x)
 first
  |exact A3 (u7 w)
  |exact u7 (A3 (u7 w))
  |exact u7 w
def GU(I:Inv c c7 B H y)(g:xk H z a8 p5):y.TypeIs (.ref z) "dict":=by
 rcases g with ⟨X,k,e,_,_⟩|⟨X,k,b,e,_,_,_⟩
 obtain⟨_,_,i,_,d⟩:=BY I.J7 e;exact d.typeIs;obtain⟨_,_,h,_,d⟩:=BX I.J7 e;exact d.typeIs
def Vg(td ty:TE):TE:=λσ H Q=>td σ H λx H1=>ty σ H1 λy H2=>∃a v,x=.ref a/\xk H2 a y (U v)/\Q v H2
def Xw(l:c.A.units+1<S7)(A:PE c e G)(f:PE c E c6)(hs:UK E):PE c (.Subscript e E p) (Vg G c6):=by
 intro b s o H Q I h;refine Wq PySem.F.slot_dict_getitem.lookup hs (G3 (A b s o H _ I h) λu n ⟨x,t,w,q,r⟩=>G3 (f b n o t _ w r) λB D ⟨y,j,d,k,a,v,z,g,q2⟩=>?_);subst z;obtain rfl:=q;exact⟨GU d g,NS l d g k λi C m X=>⟨v,j,m,X,q2⟩⟩
structure M1(X:Cx)(o:Expr)(m:Str)(apos:Pos)(e:Expr)(cpos:Pos):Prop where
 base:aU o m X.env (eval o X.env)=eval o X.env
 few:((H9 cpos (w4 [e] X.env)).all (λx=>!x.1)&&(cq cpos (eJ [] X.env)).all (λx=>x.1.isSome)
  && decide (([e]:List Expr).length+([]:List aZ).length+(if ([]:List aZ).isEmpty then 0 else 1)<30))=Uf
 line:(apos.endLine==cpos.line)=Uf
 trees:H9 cpos (w4 [e] X.env)=[(U',eval e X.env)]
structure M2(X:Cx)(o:Expr)(m:Str)(apos:Pos)(e f:Expr)(cpos:Pos):Prop where
 base:aU o m X.env (eval o X.env)=eval o X.env
 few:((H9 cpos (w4 [e,f] X.env)).all (λx=>!x.1)&&(cq cpos (eJ [] X.env)).all (λx=>x.1.isSome)
  && decide (([e,f]:List Expr).length+([]:List aZ).length+(if ([]:List aZ).isEmpty then 0 else 1)<30))=Uf
 line:(apos.endLine==cpos.line)=Uf
 trees:H9 cpos (w4 [e,f] X.env)=[(U',eval e X.env),(U',eval f X.env)]
def IsD(H:Hp)(a:Addr):Prop:=(∃kvs,Rd H a (.dK kvs))\/∃kvs,Rd H a (.dT kvs)
def a1m(I:Inv c c7 B H y)(d:IsD H z):
  y.TypeIs (.ref z) "dict"/\(∀b,ba z=.ref b->∃ob,y.heap.get? b=U ob/\ob.dict=J)/\(z==qQ)=U':=by
 rcases d with ⟨i,e⟩|⟨i,e⟩
 obtain⟨_,g,k,_,X⟩:=BY I.J7 e;refine⟨X.typeIs,λb q=>?_,g⟩;cases q;obtain⟨ob,_,_,f,h,_⟩:=X;exact⟨ob,f,h.2.1⟩;obtain⟨_,g,l,_,X⟩:=BX I.J7 e;refine⟨X.typeIs,λb q=>?_,g⟩;cases q;obtain⟨ob,_,_,f,h,_⟩:=X;exact⟨ob,f,h.2.1⟩
def a1J{d:V}(t:D.units+1<S7)(I:Inv c c7 B H y)(g:xk H z a8 p5)(p:RelV a8 b6)(n:RelV d j0)(h:∀w' s',Inv c c7 B H s'->RelV (p5.getD d) w'->Q w' s'):
  wpAny (model c.prog c.w) D (call (.builtin "dict.get") [.ref z,b6,j0]) Q b9 y:=by
 rcases g with ⟨j,k,e,m,l⟩|⟨j,k,b,e,m,q,l⟩
 subst m;obtain⟨σ,i,x,X,f⟩:=BY I.J7 e;refine call_meetsIn Gb f.typeIs PM (Qb _ _ _) (meets_dict_get_default (aQ c.prog c.w) z (JY p) i j0) ⟨_,f.mapOf,h _ _ (I.tok _) ?_⟩;rw[l];exact(X.val k).getD n;subst m;cases(show b6=ba b from p);obtain⟨σ,i,v,X,f⟩:=BX I.J7 e;refine call_meetsIn Gb f.typeIs PM (Qb _ _ _) (meetsH_dict_get_default (oJ (aQ c.prog c.w)) z b i j0) ⟨tupleKind_room_in1 t,k,v,DC I.J7 q,f,h _ _ (I.tok _) ?_⟩;rw[l];exact(X.val k).getD n
def Lf(td ty tx:TE):TE:=λσ H Q=>td σ H λx H1=>∃a,x=.ref a/\IsD H1 a/\ty σ H1 λy H2=>tx σ H2 λz H3=>∃o,xk H3 a y o/\Q (o.getD z) H3
def Su{tx:TE}(r:c.A.units+1<S7)(F:PE c E G)(o:PE c e c6)(C:PE c b7 tx)(m:M2 c E "get" p e b7 A):PE c (.Call (.Attribute E "get" p) [e,b7] [] A) (Lf G c6 tx):=by
 intro b s X H Q I h;refine wpAny_Call_method m.base m.few m.line PySem.F.plainAttrs_dict Gb PySem.F.type_dict_get (G3 (F b s X H _ I h) λu v ⟨x,O,j,K,a,P,d,N⟩=>?_)
 subst P;obtain rfl:=K;obtain⟨k,D,_⟩:=a1m j d;refine⟨k,D,?_⟩;rw[m.trees];refine Gh rfl (Pt (zm (G3 (o b v X O _ j N) λS L ⟨y,n,l,f,q2⟩ =>
  zm (G3 (C b L X n _ l q2) λV T ⟨z,w,t,B,W,g,q⟩=>FJ ?_))))
 exact a1J r t g f B λY R M i=>⟨_,w,M,i,q⟩
def Km(env:Env):∀(names:List (Str×ma)) (a:List (Str×Addr)),(∀y∈names,y.2=.free->∃c,env.cells.lookup y.1=U c)->(∀x c,a.lookup x=U c->env.cells.lookup x=U c) ->
  ∃cl,(forIn names a λy (cs:List (Str×Addr))=>if (y.2==.free)=Uf then(do let c <- cellOf env y.1;pure (mr ((y.1,c)::cs)))else pure (mr cs):Sem (List (Str×Addr)))=pure cl /\
   (∀x c,cl.lookup x=U c->env.cells.lookup x=U c)/\(∀y∈names,y.2=.free->(cl.lookup y.1).isSome=Uf)/\(∀x,(a.lookup x).isSome=Uf->(cl.lookup x).isSome=Uf):=by
 intro l_;induction l_ with
 |nil =>
  intro a _ ha;exact⟨a,by simp only[List.forIn_nil],ha,(λ_ h=>nomatch h),(λ_ h=>h)⟩
 |cons a_ r ih_ =>
  obtain⟨n,k⟩:=a_;intro a h ha;have s:=λy b=>h y (C4 _ b);by_cases o:k=.free
  . subst o;obtain⟨c,q⟩:=h (n,.free) C9 rfl;have i:∀x c',((n,c)::a).lookup x=U c'->env.cells.lookup x=U c':=λx c' e=>by
     rw[oV]at e;cases d:x==n with
     |true =>
      rw[d]at e;cases e;rw[eq_of_beq d];exact q
     |false =>
      rw[d]at e;exact ha x c' e
    obtain⟨cl,l,p,j,m⟩:=ih_ ((n,c)::a) s i;have t:=m;refine⟨cl,?_,p,λy b f=>?_,λx d=>t x ?_⟩
    . rw[Oz];have v:cellOf env n=pure c:=by delta cellOf;rw[q]
      simp only[v];exact l
    . rcases List.mem_cons.mp b with rfl|b
      exact t n B9;exact j y b f
    . rw[oV];cases x==n<;>simp[d]
  . obtain⟨cl,l,p,j,m⟩:=ih_ a s ha;refine⟨cl,?_,p,λy b f=>?_,m⟩
    . rw[Oz];have u:(k==eZ)=U':=by simpa using o
      simp only[u];exact l
    . rcases List.mem_cons.mp b with rfl|b
      exact absurd f o;exact j y b f
def Kl(h:∀y∈e8.names,y.2=.free->∃c,n8.cells.lookup y.1=U c):
  ∃cl,closureFor e8 n8=pure cl/\(∀x c,cl.lookup x=U c->n8.cells.lookup x=U c)/\(∀y∈e8.names,y.2=.free->(cl.lookup y.1).isSome=Uf):=by
 obtain⟨cl,d,f,b,_⟩:=Km n8 e8.names [] h (λx c e=>by simp at e);refine⟨cl,?_,f,b⟩;show((forIn e8.names [] λy a=>if (y.2==.free)=Uf then(do let c <- cellOf n8 y.1;pure (mr ((y.1,c)::a)))else pure (mr a):Sem (List (Str×Addr))) >>= pure)=_;rw[d];rfl
theorem oa{env:Env}:∀{names:List (Str×ma)} {x:Str},
  ((names.map λ(n,k)=>if (k==eZ&&env.scope.kind==.function&&env.kindOf n==U .cell)then(n,cx)else(n,k)).lookup x=U .cell \/
   (names.map λ(n,k)=>if (k==eZ&&env.scope.kind==.function&&env.kindOf n==U .cell)then(n,cx)else(n,k)).lookup x=U .free) ->
  (x,eZ)∈names\/(x,cx)∈names
 | [],_,h=>by simp at h
 |(n,k)::r,x,h=>by
  by_cases f:(x==n)=Uf
  . have e:=eq_of_beq f;subst e;by_cases b:k=.free;subst b;exact .inl C9
    . right;have i:(k==eZ)=U':=by simpa using b
      simp only[C6,i,Ff,mD,if_false,oV,beq_self_eq_true]at h
      simp_all
  . have c:(x==n)=U':=by simpa using f
    refine((@oa env r x) ?_).imp (C4 _) (C4 _);rw[C6]at h;have d:∀(g:ma) l,fQ x ((n,g)::l)=fQ x l:=λg l=>by rw[oV,c]
    by_cases a:(k==eZ&&env.scope.kind==.function&&env.kindOf n==U .cell)=Uf;have e:(if (k==eZ&&env.scope.kind==.function&&env.kindOf n==U .cell)=Uf then(n,cx)else(n,k))=(n,cx):=t2 a;simp only[e,d]at h;exact h;have e:(if (k==eZ&&env.scope.kind==.function&&env.kindOf n==U .cell)=Uf then(n,cx)else(n,k))=(n,k):=s9 a;simp only[e,d]at h;exact h
noncomputable def Y2(X:Cx)(bs nb:List Str)(scope:eV)(cl:List (Str×Addr))(C:Addr)(fp:List Addr)(s:v7)(H:Hp)(pins:List (Addr×Obj)):Cx where
 prog:=X.prog
 w:=X.w
 K:=X.K
 mg:=X.mg
 base:=X.base
 A:=X.A
 N:=bs++nb
 W6:=s
 E1:=H
 env:=uj scope cl C X.env
 outer:=X.stack
 stack:=X.stack
 ex:=fp
 fn:=λy=>decide (scope.names.lookup y=U .cell)
 calm:=X.calm
 pn:=X.pn++pins
 xe:=λ_ _=>False
structure kq(X:Cx)(bs nb:List Str)(scope:eV):Prop where
 kind:scope.kind=.function
 names:∀y∈scope.names,y.2=.local->scope.names.lookup y.1=U .local
 aw:∀y∈scope.names,y.2=.free->X.env.scope.names.lookup y.1=U .cell\/X.env.scope.names.lookup y.1=U .free
 apart:∀x∈nb,∀y∈scope.names,y.1=x->y.2≠.local/\y.2≠.cell
 len:nb.length=X.N.length
 nms:∀(j:Nat) (x:Str),nb[j]? = U x->X.N[j]? = U x\/∀y∈scope.names,y.1≠x
noncomputable def gT(N nb:List Str)(fsc sc:eV):Bool:=
 (decide (nb.length=N.length)&&(nb.zip N).all λp=>decide (p.1=p.2)||sc.names.all λy=>!decide (y.1=p.1))&&(decide (sc.kind=.function)&&(sc.names.all λy=>!decide (y.2=.local)||decide (sc.names.lookup y.1=U .local)) &&
  (sc.names.all λy=>!decide (y.2=.free)||(decide (fsc.names.lookup y.1=U .cell)||decide (fsc.names.lookup y.1=U .free)))&&nb.all λx=>sc.names.all λy=>!decide (y.1=x)||!decide (y.2=.local\/y.2=.cell))
def yx(h:gT c.N d9 c.env.scope e8=Uf):kq c P d9 e8:=by
 unfold gT at h;simp only[rf,List.all_eq_true,Oy,OU,uH,decide_eq_false_iff_not]at h;obtain⟨⟨g,m⟩,⟨⟨o,n⟩,l⟩,i⟩:=h;refine⟨o,λy a e=>?_,λy a e=>?_,λx d y a f=>?_,g,λj x b=>?_⟩
 . rcases n y a with q|q
   exact absurd e q;exact q
 . rcases l y a with q|q
   exact absurd e q;exact q
 . rcases i x d y a with q|q
   exact absurd f q;exact⟨λz=>q (.inl z),λz=>q (.inr z)⟩
 . have:=(List.getElem?_eq_some_iff.mp b).1;have X:c.N[j]? = U (c.N[j]'u3):=K7 _;have k:(d9.zip c.N)[j]? = U (x,c.N[j]'u3):=List.getElem?_zip_eq_some.mpr ⟨b,X⟩;rcases m _ (pq k)with q|q
   left;rw[X];exact D3 U q.symm;right;exact q
set_option tactic.hygienic true in
def a3f(lo:Nat)(P:Str->Addr->Prop):∀(names:List (Str×ma)) (h:Heap) (d:List (Str×Addr)) (D:Str->Prop),lo<=h.objs.size ->
  (∀x c,d.lookup x=U c->c<h.objs.size/\((P x c/\¬D x)\/(D x/\lo<=c/\h.IsCell c J)))->(∀x y c,d.lookup x=U c->d.lookup y=U c->x=y)->(∀x,D x->(d.lookup x).isSome=Uf) ->
  (∀x c,(hB h.objs.size names d).lookup x=U c->(P x c/\¬(D x\/(x,cx)∈names))\/((D x\/(x,cx)∈names)/\lo<=c/\(qP h names).IsCell c J)) /\
  (∀x y c,(hB h.objs.size names d).lookup x=U c->(hB h.objs.size names d).lookup y=U c->x=y)/\(∀x,(D x\/(x,cx)∈names)\/(d.lookup x).isSome=Uf->((hB h.objs.size names d).lookup x).isSome=Uf):=by
 intro l_;induction l_ with
 |nil =>
  intro h d D hlo h1 h2 h3;refine⟨λx c e=>?_,h2,λx f=>?_⟩
  . rcases(h1 x c e).2 with ⟨u,v⟩|⟨u,v,B⟩
    exact .inl ⟨u,λz=>z.elim v B9⟩;exact .inr ⟨.inl u,v,B⟩
  . rcases f with (f|f)|f
    exact h3 x f;simp at f;exact f
 |cons a_ r ih_ =>
  obtain⟨n,k⟩:=a_;intro h d D hlo h1 h2 h3;unfold qP hB;by_cases w:k=.cell
  . subst w;have l:∀x,((n,h.objs.size)::d).lookup x=if x=n then U h.objs.size else d.lookup x:=λx=>by
     rw[oV];by_cases c:x=n;subst c;simp
     . have:(x==n)=U':=by simpa using c
       rw[this,s9 c]
    have sz:(h.push {cls:=.type "cell",data:=.cell J}).objs.size=h.objs.size+1:=iu ..;obtain⟨s,m,p⟩:=ih_ (h.push {cls:=.type "cell",data:=.cell J}) ((n,h.objs.size)::d) (λx=>D x\/x=n) (by omega) (λx c e=>by
      rw[l]at e;split at e;rename_i f;cases e;exact⟨by simp,.inr ⟨.inr f,hlo,_,W2 _ rfl,rfl⟩⟩
      . rename_i f;obtain⟨z,q⟩:=h1 x c e;refine⟨by rw[sz];exact oZ z,?_⟩
        rcases q with ⟨t,q2⟩|⟨t,q2,E⟩
        exact .inl ⟨t,λy=>y.elim q2 f⟩
        . exact .inr ⟨.inl t,q2,E.keeps λb o e=>L6 _ e⟩) (λx y c i g=>by
      rw[l]at i g;split at i;split at g;rename_i a b;rw[a,b];cases i;exact absurd (h1 y _ g).1 (aB _)
      . split at g;cases g;exact absurd (h1 x _ i).1 (aB _)
        . exact h2 x y c i g) (λx f=>by
      rw[l];split;rfl
      . rename_i C;exact h3 x (f.resolve_right C))
    rw[sz]at s m p;have j:∀x,((D x\/x=n)\/(x,cx)∈r)↔(D x\/(x,cx)∈(n,cx)::r):=λx=>by
     rw[T4];constructor;rintro((z|z)|z);exact .inl z;exact .inr (.inl (by rw[z]));exact .inr (.inr z);rintro(z|z|z);exact .inl (.inl z);exact .inl (.inr (D3 Prod.fst z));exact .inr z
    refine⟨λx c e=>?_,m,λx f=>p x ?_⟩;rw[<-j];exact s x c e;rw[<-j]at f;refine f.imp id λz=>?_;rw[l];split;rfl;exact z
  . have A:(k==cx)=U':=by simpa using w
    simp only[A];obtain⟨s,m,p⟩:=ih_ h d D hlo h1 h2 h3;have j:∀x,(x,cx)∈r↔(x,cx)∈(n,k)::r:=λx=>by rw[T4];exact⟨.inr,λz=>z.resolve_left λy=>w (D3 Prod.snd y).symm⟩
    refine⟨λx c e=>?_,m,λx f=>p x ?_⟩;rw[<-j];exact s x c e;rw[<-j]at f;exact f
structure UL(X:Cx)(scope:eV)(cl:List (Str×Addr))(n:Nat):Prop where
 c1:∀x c,cl.lookup x=U c->(X.env.cells.lookup x=U c/\¬(x,cx)∈scope.names)\/((x,cx)∈scope.names/\n<=c)
 c2:∀x,(x,eZ)∈scope.names\/(x,cx)∈scope.names->(cl.lookup x).isSome=Uf
 c3:∀x y c,cl.lookup x=U c->cl.lookup y=U c->x=y
def a1M(I:Inv c c7 B H y)(σ:kq c P d9 e8)(L:UL c e8 o6 (hz y))(g:(hz y)<=z)(f:∀b∈O,mS c c7 H b)(d:∀b∈O,b<(hz y)):(Y2 c P d9 e8 o6 z O y H c7).Ok where
 mod:=I.ok.mod
 kind:=σ.kind
 glob:=I.ok.glob
 blt:=I.ok.blt
 above:=g
 inj:=L.c3
 has:=λx j=>by exact Option.isSome_iff_exists.mp (L.c2 x (oa j))
 IH:=λx X h e=>by
  rcases L.c1 x X e with C|C
  exact absurd (mE (oX h)) C.2;exact C.2
 hd:=I.ok.hd
 frames:=I.ok.frames
 Ln:=.inl rfl
 VE:=λb a=>⟨R8 (M8 (d b a) g),λx X e=>(L.c1 x X e).elim (λC=>(f b a).2.2.2.2.1 x X C.1) λC=>fS (M8 (d b a) C.2)⟩
 bs:=I.bs
 sJ:=C3 I.ok.sJ I.sz
 wM:=λb o e a=>by
  rcases(f b a).2.2.2.1 with C|C
  exact I.ok.wM b o e C;exact absurd (M8 (G8 e) (C3 I.ok.sJ C)) (aB _)
 Aw:=λb a i=>by
  rcases List.mem_cons.mp (I.tq b i)with C|C
  exact(f b a).2.1 C;exact(f b a).2.2.1 C
 kJ:=I.stack
 Bo:=I.Hi
def gm(bs:List Str)(σ:St):St:=C2 bs.length J++σ
def Yv{t':Nat}(I:Inv c c7 B H y)(m:kq c P d9 e8)(L:UL c e8 o6 (hz y))(E:∀x X,o6.lookup x=U X->(hz y)<=X->a6.IsCell X J)(Q:(hz y)<=z)(hf:∀b∈O,mS c c7 H b)(C:∀b∈O,b<(hz y))(k:∀b u,y.heap.get? b=U u->a6.get? b=U u)(hn:a6.Ns z m8):Inv (Y2 c P d9 e8 o6 z O y H c7) [] (gm P B) H {y with heap:=a6,toks:=t'}:=by
 refine⟨a1M I m L Q hf C,rfl,I.bare,Un.kept k,⟨m8,hn,λi x v S bs f=>?_⟩,λx X e=>?_,I.J7.fresh Q,λx X e=>(L.c1 x X e).elim (λσ=>I.jC x X σ.1) λσ=>I.J7.fresh σ.2,λp Z=>?_,I.J7.kept k,?_⟩
 . have q:(P++d9)[i]? = U x:=S;unfold gm at bs;by_cases A:i<P.length;rw[iy (by simpa using A),Gk,t2 A]at bs;cases bs
   . rw[ny (by simpa using A),ro]at bs;rw[ny (by simpa using A)]at q
     have h:=pq q;have D:(x,eZ)∈e8.names:=by
      rcases f with f|f
      exfalso;obtain⟨⟨n,F⟩,G,j⟩:=mem_map.mp (mE f);by_cases a:(F==eZ&&c.env.scope.kind==.function&&c.env.kindOf n==U .cell)=Uf;simp only[a]at j;cases j;simp only[a]at j;cases j;exact(m.apart x h (x,.local) G rfl).1 rfl;exact(oa f).resolve_right λσ=>(m.apart x h _ σ rfl).2 rfl
     have W:VP c.env.scope x:=.inr (m.aw _ D rfl);obtain⟨m0,_,Y⟩:=I.loc;obtain⟨u,r,l⟩:=Y _ x v ((m.nms _ x q).resolve_right λσ=>σ _ D rfl) bs W
     refine⟨u,r,?_⟩;have N:(Y2 c P d9 e8 o6 z O y H c7).env.kindOf x=U .cell\/(Y2 c P d9 e8 o6 z O y H c7).env.kindOf x=U .free:=by
      rcases f with f|f
      exfalso;obtain⟨⟨n,F⟩,G,j⟩:=mem_map.mp (mE f);by_cases a:(F==eZ&&c.env.scope.kind==.function&&c.env.kindOf n==U .cell)=Uf;simp only[a]at j;cases j;simp only[a]at j;cases j;exact(m.apart x h (x,.local) G rfl).1 rfl;exact f
     rcases l with ⟨hk,_⟩|⟨_,X,T,t⟩
     . exfalso;have g:c.env.scope.names.lookup x=U .local:=hk;rcases m.aw _ D rfl with σ | σ
       rw[show c.env.scope.names.lookup x=U .cell from σ]at g;cases g;rw[show c.env.scope.names.lookup x=U .free from σ]at g;cases g
     . obtain⟨R,w⟩:=Option.isSome_iff_exists.mp (L.c2 _ (.inl D));have:R=X:=by
        rcases L.c1 _ _ w with σ | σ
        exact X8 (σ.1.symm.trans T);exact absurd rfl (m.apart x h _ σ.1 rfl).2
       subst this;obtain⟨o,M,s⟩:=t;exact .inr ⟨N,R,w,o,k _ _ M,s⟩
 . rcases L.c1 x X e with σ | σ
   obtain⟨v,o,M,s⟩:=I.cell x X σ.1;exact⟨v,o,k _ _ M,s⟩;exact⟨_,E x X e σ.2⟩
 . have K:p∈c.pn++c7:=by simpa [Y2]using Z
   obtain⟨e,n,ne,V,d⟩:=I.pin p K;refine⟨k _ _ e,n,R8 (M8 (G8 e) Q),λσ=>?_,d⟩
   rcases List.mem_cons.mp (I.tq _ σ)with σ | σ
   exact ne σ;exact V σ
 delta gm;show _=(P++d9).length;rw[aa,aa,ro,I.len,m.len]
def Inv.IU{o:HO}(I:Inv c c7 B H y)(i:H z=J)(g:z≠c.env.locals)(t:z∈c.ex\/c.W6.heap.objs.size<=z)(j:∀x X,c.env.cells.lookup x=U X->X≠z)(r:∀p∈c.pn++c7,p.1≠z)(new:X4 c.prog c.w (upd H z o) y.heap z o):Inv c c7 B (upd H z o) y:=by
 have a:∀b u,H b=U u->upd H z o b=U u:=λb u e=>by rw[J6 (ay e i)];exact e
 have:=I.step (d':=y.drawn) (t':=y.toks) (ch:=[z]) (λb f=>?_) (λb d _ _ _ e _=>e) (λb d _ _ _ e _=>⟨d.slots,e⟩) (λb d l e n=>?_) (λb d _ e=>⟨d,e⟩)
  (λb h e=>a b _ e) (λb d u e=>a b _ e) (λb v e=>⟨#[],by rw[a b _ e];simp⟩) (λm k=>k) (λb u e=>?_) I.bare
 exact this
 . have e:b=z:=by simpa using f
   subst e;exact⟨t,g,j,r⟩
 rw[J6 (by simpa using l)];exact n;by_cases f:b=z;subst f;rw[O4]at e;cases e;exact new;rw[J6 f]at e;exact(I.J7 b u e).tw (λ_ _ _ q=>q) (λX q=>a X _ q) λX h q=>a X _ q
def AG(X:Cx)(ifs:List Expr)(t:TT):Prop:=
 ∀(pins:List (Addr×Obj)) (s:v7) (σ:St) (H:Hp) (Q:Bool->Hp->Prop) (E:t5->v7->Prop),(∀e s',X.xe e s'->E e s')->Inv X pins σ H s->t σ H Q ->
  wpAny (model X.prog X.w) X.A (forIn ifs Uf λc r=>if r=Uf then do let ok <- isTrue c X.env (eval c X.env);pure (mr ok)else pure (mr r)) (TP X pins σ Q) E s
def xt:TT:=λ_ H Q=>Q Uf H
def wH:AG c [] xt:=λ_ _ _ H _ _ _ I h=>wpAny_tests_nil ⟨H,I,h⟩
def Sk(h:PT c e b3):AG c [e] b3:=λa s b H Q E d I q=>wpAny_tests_one (cu (h a s b H Q I q) (λ_ _ z=>z) d)
section
variable{prog:M3}{w:E3}
def GV (I:Nat->v7->Prop) (turn:∀n y,I n y->wpAny (model prog w) D (oH b6) (λr s₁=>match r with
   |none=>n9 (.ok .next) s₁
   |some v=>wpAny (model prog w) D (Fy E b6 v) (λ_ W6=>wpAny (model prog w) D (assign E n8 v) (λ_ s₂ =>
     wpAny (model prog w) D (forIn Z Uf λc r=>if r=Uf then do let ok <- isTrue c n8 (eval c n8);pure (mr ok)else pure (mr r)) (λok s₃ =>
      if ok=Uf then wpAny (model prog w) D (eval e n8) (λx i =>
       wpAny (model prog w) D (call (.builtin "list.append") [j0,x]) (λ_ f=>∃m,m<n/\I m f) (jO (model prog w) D n8 λR s'=>n9 (.error R) s') i) (jO (model prog w) D n8 λR s'=>n9 (.error R) s') s₃
      else ∃m,m<n/\I m s₃) (jO (model prog w) D n8 λR s'=>n9 (.error R) s') s₂) (jO (model prog w) D n8 λR s'=>n9 (.error R) s') W6) (jO (model prog w) D n8 λR s'=>n9 (.error R) s') s₁) (jO (model prog w) D n8 λR s'=>n9 (.error R) s') y)
  (n:Nat) (h:I n y) :
  codeAny (model prog w) D (.compLoop (.ListComp e [⟨E,b7,Z,0⟩] e8 c8) 0 b6 j0 n8) n9 y:=by
 refine codeAny_loop rfl I (λn y A=>?_) n h;refine wpAny_noted ?_;refine u7 (EX (u7 (cu (turn n y A) (λr s₁ d=>?_) λ_ _ b=>b)))
 cases r with
 |none=>exact A3 d
 |some v =>
  refine u7 (cu d (λ_ W6 j=>?_) λ_ _ b=>b);refine u7 (cu j (λ_ s₂ q=>u7 (cu q (λok s₃ g=>?_) λ_ _ b=>b)) λ_ _ b=>b)
  cases ok with
  |false=>exact A3 ⟨rfl,g⟩
  |true =>
   exact u7 (u7 (cu g (λx i l=>u7 (cu l (λ_ f u=>A3 (A3 ⟨rfl,u⟩)) λ_ _ b=>b)) λ_ _ b=>b))
end
def kb(n:Nat)(g:TG):Prop:=∀x σ H Q,g x σ H Q->g x σ H λσ2 H2=>Q σ2 H2/\σ2.length=σ.length/\∀j,n<=j->σ2[j]? = σ[j]?
def Cc(n:Nat)(g:wd):Prop:=∀x σ H Q,g x σ H Q->g x σ H λσ2 H2=>Q σ2 H2/\σ2.length=σ.length/\∀j,n<=j->σ2[j]? = σ[j]?
def Nt(h:autoParam (d5<m) H0):kb m (Y7 d5):=λx b H Q q=>⟨q,by simp,λj a=>by rw[ix (R8 (M8 v5 v5))]⟩
def Bm:Cc m DR:=λx a H Q q=>⟨q.1,q.2,rfl,λ_ _=>rfl⟩
def jA(o:Cc m o0)(h:autoParam (d5<m) H0):Cc m (lj (Y7 d5) o0):=λx f H Q q=>by
 obtain⟨v,r,e,q⟩:=q;refine⟨v,r,e,?_⟩;have n:∀d:St,(d.length=(f.set d5 (U v)).length/\∀j,m<=j->d[j]? = (f.set d5 (U v))[j]?)->d.length=f.length/\∀j,m<=j->d[j]? = f[j]?:=λd ⟨a,b⟩=>by
  refine⟨by simpa using a,λj k=>?_⟩;have:=b j k
  rwa [ix (R8 (M8 v5 v5))]at this
 have l:(λd g=>Q d g/\d.length=(f.set d5 (U v)).length/\∀j,m<=j->d[j]? = (f.set d5 (U v))[j]?)=λd g=>Q d g/\d.length=f.length/\∀j,m<=j->d[j]? = f[j]?:=by
  funext d g
  apply propext;constructor;rintro⟨a,b⟩;exact⟨a,n d b⟩;rintro⟨a,b,c⟩;refine⟨a,by simpa using b,λj k=>?_⟩;rw[ix (R8 (M8 v5 v5))];exact c j k
 rw[<-l];exact(o r (f.set d5 (U v)) H Q q)
def DP(h:Cc d5 o0):kb d5 (wR g m o0):=λx d H Q q=>by obtain⟨a,b,e,c,f,q⟩:=q;exact⟨a,b,e,c,f,h b d H Q q⟩
def a3i(Jff:It)(bs:List Str)(g:TG)(tt:TT)(te:TE)(σ:St)(Q:VK)(H1:Hp):Prop:=∃(n:Nat) (W:Nat->List V->Hp->Prop),n<=F0/\W 0 [] H1/\∀i ys H,W i ys H ->
 ((Jff.stop i H/\∀p,H p=J->Q (.ref p) (upd H p (.lst ys)))\/(Jff.go i H/\i<n/\∀x H',Jff.US i H x H'->g x (gm bs σ) H' λσ2 H2=>tt σ2 H2 λb H3=>if b=Uf then te σ2 H3 (λy H4=>W (i+1) (ys++[y]) H4)else W (i+1) ys H3))
def hZ(bs:List Str)(wi:TI)(g:TG)(tt:TT)(te:TE):TE:=λσ H Q=>wi σ H λJff H1=>a3i Jff bs g tt te σ Q H1
def Vals.snoc(r:Vals M h8)(h:RelV a8 b6):Vals (M++[a8]) (h8++[b6]):=r.append (.cons h .nil)
def VY{M:Model}{A:Env->v7->Prop}(g:A (newEnv e8 (hz y) z (hB ((hz y)+1) e8.names o6) o J .none (U n8) T) {y with heap:=qP (y.heap.push {cls:=.type "dict",data:=.dict #[]}) e8.names}):
  wpAny M D (newFunctionEnv e8 z o6 [] o J .none (U n8) T) A Q y:=by
 simp only[newFunctionEnv,Option.isSome_some,V5];refine u7 (wpAny_alloc ?_);refine u7 (wpAny_layCells _ (λe c d=>by rfl) _ _ _ _ ?_);rw[show({y with heap:=y.heap.push {cls:=.type "dict",data:=.dict #[]}}:v7).heap.objs.size=(hz y)+1 from iu ..];refine u7 ?_;exact A3 (A3 g)
def GY{use:Option (t5->Sem Unit)}(hc:c.calm=Uf)(B:kq c P d9 e8)(hi:PI c E b7 j7)(go:kb P.length j1)(hg:∀cl C fp s H pins,PG (Y2 c P d9 e8 cl C fp s H pins) E j1)(ht:∀cl C fp s H pins,AG (Y2 c P d9 e8 cl C fp s H pins) Z b3)(he:∀cl C fp s H pins,PE (Y2 c P d9 e8 cl C fp s H pins) e G)(hs:∀x,eM b7 c.env x=pure x)(pins:List (Addr×Obj))(s:v7)(σ:St)(H:Hp)(K:VK)(I:Inv c pins σ H s)(h:hZ P j7 j1 b3 G σ H K)(hfin:∀(D C:Addr) (s':v7) (H':Hp) (f:Flow),Inv c pins σ H' s'->K (.ref D) H'->mS c pins H' C->(∃m,s'.heap.Ns C m)->ui (model c.prog c.w) c.A c.xe use Q (.ref D) C (.ok f) s'):
  wpAny (model c.prog c.w) c.A (comprehension (.ListComp e [⟨E,b7,Z,0⟩] e8 p) e8 c.env (firstIterPos [⟨E,b7,Z,0⟩] p) (newList []) (firstAsync [⟨E,b7,Z,0⟩]) (firstIter [⟨E,b7,Z,0⟩] c.env) use) Q c.xe s:=by
 obtain⟨cl0,hcl,c1,c2⟩:=Kl (λy hy hf=>I.ok.has y.1 (B.aw y hy hf));refine wpAny_comprehension_free rfl hs hcl B.kind B.names (G3 (hi pins s σ H _ I h) λv s1 h1=>G3 h1 λitv a h2=>?_)
 obtain⟨it,fp,tn,Jff,H2,g,M,T,st2,f2,n,W,hn,w0,turn⟩:=h2;subst g;have hlt:∀b∈fp,b<a.heap.objs.size:=λb l=>by obtain⟨o,g,_⟩:=T.obj _ _ st2 b l;exact G8 g
 refine oY (VY ?_);generalize hH2:a.heap.push {cls:=.type "list",dict:=J,data:=.seq ([]).toArray}=R;have hCs:R.objs.size=a.heap.objs.size+1:=by rw[<-hH2,iu]
 have hDC:a.heap.objs.size≠R.objs.size:=by rw[hCs];exact R8 (rh _)
 have t:a.heap.objs.size<=R.objs.size:=by rw[hCs];exact yJ _
 have sz3:(R.push {cls:=.type "dict",data:=.dict #[]}).objs.size=R.objs.size+1:=iu ..;obtain⟨f1,f3,f4⟩:=a3f a.heap.objs.size (λx X=>c.env.cells.lookup x=U X) e8.names (R.push {cls:=.type "dict",data:=.dict #[]}) cl0 (λ_=>False) u3
  (λx X g=>⟨by obtain⟨v,q⟩:=M.cell x X (c1 x X g);rw[sz3];exact oZ (M8 q.lt t),.inl ⟨c1 x X g,λz=>z⟩⟩) (λx y X e1 e2=>M.ok.inj x y X (c1 x X e1) (c1 y X e2)) λx z=>z.elim
 rw[sz3]at f1 f3 f4;generalize hcl':hB (R.objs.size+1) e8.names cl0=cl at f1 f3 f4 ⊢;have F:(qP (R.push {cls:=.type "dict",data:=.dict #[]}) e8.names).Ns R.objs.size (λ_=>J):=(Heap.Ns.new R (.type "dict")).keeps (pushCells_keeps _ _);have old0:∀b o,R.get? b=U o->(qP (R.push {cls:=.type "dict",data:=.dict #[]}) e8.names).get? b=U o:=λb o g=>pushCells_keeps _ _ b o (L6 _ g);generalize qP (R.push {cls:=.type "dict",data:=.dict #[]}) e8.names=h₁ at f1 F old0 ⊢;have old:=λb o g=>old0 b o (hH2▸L6 _ g);have hacc:=old0 _ _ (hH2▸W2 _ rfl);have hDn:=λb l=>R8 (hlt b l);have L:UL c e8 cl a.heap.objs.size:=⟨λx X g=>(f1 x X g).imp (λz=>⟨z.1,λy=>z.2 (.inr y)⟩) λz=>⟨z.1.resolve_left λy=>y,z.2.1⟩,λx z=>f4 x (z.elim (λz=>.inr (c2 _ z rfl)) λz=>.inl (.inr z)),f3⟩
 have nD:∀x X,cl.lookup x=U X->X≠a.heap.objs.size:=λx X g z=>by
  rcases f1 x X g with ⟨y,_⟩|⟨_,_,o,y,yd⟩
  obtain⟨v,q⟩:=M.cell x X y;exact absurd q.lt (by rw[z];exact aB _);rw[z,hacc]at y;cases y;cases yd
 have J0:=Yv (t':=a.toks) M B L (λx X g z=>(f1 x X g).elim (λy=>by obtain⟨v,q⟩:=M.cell x X y.1;exact absurd q.lt (Nat.not_lt.mpr z)) λy=>y.2.2) t f2 hlt old F
 generalize A:Y2 c P d9 e8 cl R.objs.size fp a H2 pins=O at J0;have fpB:∀{H':Hp} {pl:List (Addr×Obj)},(∀b∈fp,H' b=J)->(∀w∈pl,w.1∉fp)->∀b∈fp,mS O pl H' b:=λ{H' pl} hz N b l=>by
  subst A;refine⟨hz b l,R8 (M8 (hlt b l) t),J0.ok.Aw b l,.inl l,J0.ok.VE b l |>.2,λw hq=>?_⟩
  rcases List.mem_append.mp hq with z|z
  exact(f2 b l).2.2.2.2.2 w z;intro g;exact N w z (g▸l)
 have Dfs:a.heap.objs.size∉O.fs:=λl=>by
  subst A;rcases List.mem_cons.mp (M.tq _ l)with z|z
  exact absurd M.lt (by rw[<-z];exact aB _);exact M.SU F3 z
 have Dcell:∀x X,c.env.cells.lookup x=U X->X≠a.heap.objs.size:=λx X g z=>by obtain⟨v,q⟩:=M.cell x X g;exact absurd q.lt (by rw[z];exact aB _)
 have Dpin:=λw N=>R8 (G8 (M.pin w N).1);have Dloc:a.heap.objs.size≠O.env.locals:=λz=>hDC (z.trans (D3 (·.env.locals) A).symm)
 have pinD:∀{σ':St} {H':Hp} {s':v7} {o:Obj},Inv O [] σ' H' s'->s'.heap.get? a.heap.objs.size=U o->H' a.heap.objs.size=J->(∀v,o.data≠.cell v)->Inv O [(a.heap.objs.size,o)] σ' H' s':=λ{σ' H' s' o} I' g hz hd =>
  I'.kF λw N=>by
   have ep:w=(a.heap.objs.size,o):=by simpa using N
   subst ep;exact⟨g,hz,Dloc,Dfs,hd⟩
 have loop:∀s₃:v7,s₃={a with heap:=h₁,toks:=a.toks} ->
   codeAny (model c.prog c.w) c.A (.compLoop (.ListComp e [⟨E,b7,Z,0⟩] e8 p) 0 (.ref it) (.ref a.heap.objs.size) (uj e8 cl R.objs.size c.env))
    (ui (model c.prog c.w) c.A c.xe use Q (.ref a.heap.objs.size) R.objs.size) s₃:=by
  rintro s₃ rfl;refine GV (λk s'=>∃(i:Nat) (ys:List V) (S:List t5) (z:Nat) (H':Hp),k=n-i+1/\i<=n/\S.length<=i/\Vals ys S/\Inv O [(a.heap.objs.size,{cls:=.type "list",data:=.seq S.toArray z})] (gm P σ) H' s'/\tn i s'.heap/\(∀b∈fp,H' b=J)/\W i ys H') ?_ (n-0+1)
   ⟨0,[],[],0,H2,rfl,eX _,X6 _,.nil,pinD J0 hacc (M.J7.fresh F3) (λv z=>by cases z),T.keep _ _ _ st2 λb _ o g=>old b o g,λb l=>(f2 b l).1,w0⟩
  rintro k s3 ⟨i,ys,S,z,H3,rfl,hin,hul,rv,I3,st3,fr3,w3⟩;have npl:∀w∈([(a.heap.objs.size,{cls:=.type "list",data:=.seq S.toArray z})]:List (Addr×Obj)),w.1∉fp:=λw N hm=>by
   have ep:w=(a.heap.objs.size,{cls:=.type "list",data:=.seq S.toArray z}):=by simpa using N
   subst ep;exact hDn _ hm rfl
  have eP:=(D3 (·.prog) A).symm;have eW:=(D3 (·.w) A).symm;have eK:=(D3 (·.K) A).symm;have eA:=(D3 (·.A) A).symm;have eC:=(D3 (·.calm) A).symm.trans hc;rcases turn i ys H3 w3 with ⟨stop,fin⟩|⟨gon,hlt',step⟩
  . have hd:=T.done O eP eW eK eC i _ s3 (gm P σ) H3 (jO (model c.prog c.w) c.A (uj e8 cl R.objs.size c.env) λg s'=>ui (model c.prog c.w) c.A c.xe use Q (.ref a.heap.objs.size) R.objs.size (.error g) s') I3 (fpB fr3 npl) st3 stop;rw[eA]at hd;refine G3 hd λr s4 ⟨hr,I4⟩=>?_
    subst hr;obtain⟨m,hm,_⟩:=I4.loc;have pD:=I4.pin (a.heap.objs.size,{cls:=.type "list",data:=.seq S.toArray z}) (L9 _ (mem_singleton.mpr rfl));have hCl:O.env.locals=R.objs.size:=(D3 (·.env.locals) A).symm;have I5:Inv c pins σ H3 s4:=by
     have hun:Un (pP c.stack) fp H2 H3 a.heap s4.heap:=by have z:=I4.base;rw[<-A]at z;exact z
     exact M.a3h (I4.os.trans (D3 (·.W6.os) A).symm) hun ((D3 (λY:Cx=>J2 Y.prog Y.w H3 s4.heap) A).mpr I4.J7) I4.bare λb l=>⟨(f2 b l).2.2.2.1,(f2 b l).2.1,(f2 b l).2.2.2.2.1,(f2 b l).2.2.2.2.2⟩
    have hys:ys.length<=F0:=by rw[rv.length];lia
    refine hfin a.heap.objs.size R.objs.size s4 _ _ (I5.IU (o:=.lst ys) pD.2.1 (fS M.lt) (.inr M.sz) Dcell Dpin ⟨hys,S,z,rv,pD.1⟩) (fin _ pD.2.1) ⟨?_,fS (M8 M.lt t),M.SU t,.inr (C3 M.sz t),λx X g q=>?_,λw N q=>?_⟩ ⟨m,(hCl▸hm)⟩;rw[J6 (lZ hDC)];exact(hCl▸I4.free);obtain⟨v,q2⟩:=M.cell x X g;exact absurd (M8 q2.lt (by rw[q];exact t)) (aB _);exact absurd (M8 (G8 (M.pin w N).1) (by rw[q];exact t)) (aB _)
  . have hd:=T.item O eP eW eK eC i _ s3 (gm P σ) H3 (jO (model c.prog c.w) c.A (uj e8 cl R.objs.size c.env) λg s'=>ui (model c.prog c.w) c.A c.xe use Q (.ref a.heap.objs.size) R.objs.size (.error g) s') I3 (fpB fr3 npl) st3 gon;rw[eA]at hd;refine G3 hd λr s4 ⟨u,hr,h4⟩=>?_;subst hr;refine G3 h4 λ_ s5 ⟨x,H5,I5,r5,y5,st5,fr5⟩=>?_;have hxe:=λg s' q=>(congrFun (congrFun (D3 (·.xe) A) g) s').mpr q;have eE:=(D3 (·.env) A).symm;have w6:=(A▸hg _ _ _ _ _ _) _ s5 (gm P σ) H5 x u _ (I5.pinned (fpB fr5 npl) (T.obj _ _ st5)) r5 (go x (gm P σ) H5 _ (step x H5 y5));rw[eP,eW,eA,eE]at w6;refine cu w6 (λ_ s6 ⟨σ6,H6,I6,q6,l6,e6⟩=>?_) λ_ _ q=>(hxe _ _ q).elim;have w7:=(A▸ht _ _ _ _ _ _) _ s6 σ6 H6 _ (jO (model c.prog c.w) c.A (uj e8 cl R.objs.size c.env) λg s'=>ui (model c.prog c.w) c.A c.xe use Q (.ref a.heap.objs.size) R.objs.size (.error g) s') (λ_ _ q=>(hxe _ _ q).elim) I6 q6;rw[eP,eW,eA,eE]at w7;refine G3 w7 λok s7 ⟨H7,I7,q7⟩=>?_
    have weak:∀{pl:List (Addr×Obj)} {H':Hp} {s':v7},Inv O pl σ6 H' s'->Inv O pl (gm P σ) H' s':=λ{pl H' s'} I'=>I'.weak l6.symm λj v hj=>by
     by_cases hjn:j<P.length;unfold gm at hj;rw[iy (by simpa using hjn),Gk,t2 hjn]at hj;cases hj;rw[e6 j (mz hjn)];exact hj
    have unp:∀{σ':St} {H':Hp} {s':v7},Inv O ([(a.heap.objs.size,({cls:=.type "list",data:=.seq S.toArray z}))]++tF fp s5.heap) σ' H' s' ->
      (∀b∈fp,∀o,s5.heap.get? b=U o->s'.heap.get? b=U o)/\(∀b∈fp,H' b=J)/\s'.heap.get? a.heap.objs.size=U {cls:=.type "list",data:=.seq S.toArray z}/\H' a.heap.objs.size=J:=λ{σ' H' s'} I'=>by
     refine⟨λb l o g=>(I'.pin (b,o) (L9 _ (L9 _ (nk l g)))).1,λb l=>?_,?_,?_⟩;obtain⟨o,g,d⟩:=T.obj _ _ st5 b l;exact(I'.pin (b,o) (L9 _ (L9 _ (nk l g)))).2.1;exact(I'.pin (a.heap.objs.size,{cls:=.type "list",data:=.seq S.toArray z}) (L9 _ (U7 _ (mem_singleton.mpr rfl)))).1;exact(I'.pin (a.heap.objs.size,{cls:=.type "list",data:=.seq S.toArray z}) (L9 _ (U7 _ (mem_singleton.mpr rfl)))).2.1
    cases ok with
    |false =>
     obtain⟨k1,k2,k3,k4⟩:=unp I7;refine⟨n-(i+1)+1,OM (Pr _ _ hlt'),i+1,ys,S,z,H7,rfl,hlt',uI v5,rv,pinD (weak (I7.kF λw N=>nomatch N)) k3 k4 (λv q=>by cases q),T.keep _ _ _ st5 k1,k2,?_⟩;simpa using q7
    |true =>
     have q7':G σ6 H7 λy H4=>W (i+1) (ys++[y]) H4:=by simpa using q7
     have w8:=(A▸he _ _ _ _ _ _) _ s7 σ6 H7 _ I7 q7';rw[eP,eW,eA,eE]at w8;refine cu w8 (λuy s8 ⟨y,H8,I8,r8,q8⟩=>?_) λ_ _ q=>(hxe _ _ q).elim;obtain⟨k1,k2,k3,k4⟩:=unp I8;refine append_at k3 λh9 sb9 g9=>?_;have I8':Inv O [] (gm P σ) H8 s8:=weak (I8.kF λw N=>nomatch N)
     have ePn:O.pn=c.pn++pins:=(D3 (·.pn) A).symm;have eCl:O.env.cells=cl:=(D3 (·.env.cells) A).symm;have I9:Inv O [] (gm P σ) H8 {s8 with heap:=h9}:=I8'.turned (λb o l g=>sb9.extBut b o l g) k4 Dloc (.inr (by rw[((D3 (·.W6) A).symm)];exact X6 _))
      (λx X g=>nD x X (by rw[<-eCl];exact g)) (λw N=>Dpin w (by rw[ePn]at N;simpa using N))
     refine⟨n-(i+1)+1,OM (Pr _ _ hlt'),i+1,ys++[y],S++[uy],z+1,H8,rfl,hlt',by rw[aa,Gd];simp[*],rv.snoc r8,pinD I9 ?_ k4 (λv q=>by cases q),T.keep _ _ _ st5 λb l o g=>?_,k2,q8⟩;rw[g9,List.push_toArray];exact sb9.extBut b o (hDn b l) (k1 b l o g)
 exact codeAny_compStart_list (loop _ rfl) (T.self _ 0 _ _ _ (T.keep _ _ _ st2 λb _ o g=>old b o g) (loop _ rfl))
def HE(r:c.calm=Uf)(B:kq c P d9 e8)(v:PI c E b7 j7)(A:kb P.length j1)(n:∀cl C fp s H pins,PG (Y2 c P d9 e8 cl C fp s H pins) E j1)(F:∀cl C fp s H pins,AG (Y2 c P d9 e8 cl C fp s H pins) Z b3)(y:∀cl C fp s H pins,PE (Y2 c P d9 e8 cl C fp s H pins) e G)(hs:autoParam (∀x,eM b7 c.env x=pure x) X0):PE c (.ListComp e [⟨E,b7,Z,0⟩] e8 p) (hZ P j7 j1 b3 G):=by
 intro pins s l H Q I h;refine GY r B v A n F y hs pins s l H Q I h λD C i j f u q X ⟨m,z⟩=>⟨m,z,λw t=>?_⟩;exact⟨.ref D,j,u.turned (λb o a d=>t.extBut b o a d) X.1 X.2.1 X.2.2.2.1 X.2.2.2.2.1 X.2.2.2.2.2,rfl,q⟩
def zJ(hN:c.N.Nodup)(L:c.N[m]? = U o)(hx:Loc c.env.scope o)(hc:c.calm=Uf)(B:kq c P d9 e8)(hi:PI c E b7 j7)(go:kb P.length j1)(S:∀cl C fp s H pins,PG (Y2 c P d9 e8 cl C fp s H pins) E j1)(ht:∀cl C fp s H pins,AG (Y2 c P d9 e8 cl C fp s H pins) Z b3)(W:∀cl C fp s H pins,PE (Y2 c P d9 e8 cl C fp s H pins) e G)(g:autoParam (cw (.ListComp e [⟨E,b7,Z,0⟩] e8 p) (U (.Name o c8)) A.line c.env=pure Uf) t8)(hf:autoParam (c.fn o=Uf\/c.env.scope.names.lookup o=U .local) dR)(hs:autoParam (∀o,eM b7 c.env o=pure o) X0):PS c (.Assign [.Name o c8] (.ListComp e [⟨E,b7,Z,0⟩] e8 p) A) (iC (hZ P j7 j1 b3 G) (Y7 m)):=by
 intro pins s u H D I h;rw[exec_Assign_Name_used _ _ _ _ g];refine u7 (EX ?_);refine u7 (u7 (G3 (GY hc B hi go S ht W hs pins s u H _ I h λK C s' Q f O q d ⟨i,a⟩=>?_) λ_ s' t=>A3 (A3 t)))
 obtain⟨n,es,ep,Y,X,hr⟩:=id a;have R:Inv c ((C,n)::pins) u Q s':=O.kF λk l=>by
  rcases List.mem_cons.mp l with rfl|l
  exact⟨Y,d.1,d.2.1,d.2.2.1,λv z=>by rw[X]at z;cases z⟩;exact O.pin k (L9 _ l)
 refine G3 (HC hN L hx hf ((C,n)::pins) s' u Q (.ref K) (.ref K) D.nx R rfl q) λ_ V ⟨y,r,F,q3⟩=>?_;have M:=F.pin (C,n) (L9 _ C9);refine⟨i,⟨n,es,ep,M.1,X,hr⟩,λh'' sb=>⟨y,r,?_,q3⟩⟩;exact(F.kF λk l=>F.pin k (L9 _ (C4 _ l))).turned (λb x T j=>sb.extBut b x T j) M.2.1 d.2.1 d.2.2.2.1 d.2.2.2.2.1 d.2.2.2.2.2
section
variable{prog:M3}{w:E3}
def mZ(kd:Bool)(h:Heap)(i l:Addr)(k:Nat):Prop:=match kd with
 |true=>h.IsTupleIter i l k
 |false=>h.IsListIter i l k
def sP(kd:Bool)(h:Heap)(i l:Addr)(k:Nat)(xs:Array t5):Prop:=match kd with
 |true=>h.IsTupleIter i l k/\h.IsTuple l xs
 |false=>h.IsListIter i l k/\h.IsList l xs
theorem mZ.at{h':Heap}{i:Addr}(x:mZ I a6 i z m)(e:∀o,a6.get? i=U o->h'.get? i=U o):mZ I h' i z m:=by
 cases I;exact Heap.IsListIter.at (show a6.IsListIter i z m from x) e;exact Heap.IsTupleIter.at (show a6.IsTupleIter i z m from x) e
def mZ.obj(x:mZ I a6 z T m):∃o,a6.get? z=U o/\∀v,o.data≠.cell v:=by
 cases I;obtain⟨o,e,_,d⟩:=(show a6.IsListIter z T m from x);exact⟨o,e,λv a=>by rw[d]at a;cases a⟩;obtain⟨o,e,_,d⟩:=(show a6.IsTupleIter z T m from x);exact⟨o,e,λv a=>by rw[d]at a;cases a⟩
def sP.kept{h':Heap}(x:sP I a6 z T m b8)(e:∀b o,b=z\/b=T->a6.get? b=U o->h'.get? b=U o):sP I h' z T m b8:=by
 cases I;obtain⟨x,⟨o,c,r⟩⟩:=(show a6.IsListIter z T m/\a6.IsList T b8 from x);exact⟨x.at λo q=>e z o (.inl rfl) q,⟨o,e T o (.inr rfl) c,r⟩⟩;obtain⟨x,⟨o,c,r⟩⟩:=(show a6.IsTupleIter z T m/\a6.IsTuple T b8 from x);exact⟨x.at λo q=>e z o (.inl rfl) q,⟨o,e T o (.inr rfl) c,r⟩⟩
def JH(a:y.heap.IsTupleIter z T m)(e:y.heap.IsTuple T b8)(h:b8[m]? = U b6)(f:∀h',h'.IsTupleIter z T (m+1)->oR z y.heap h'->Q b6 {y with heap:=h'}):wpAny (model prog w) D (zy (.ref z)) Q b9 y:=by
 obtain⟨j,c,g,b⟩:=id a;obtain⟨k,d,_,n,dt⟩:=e;refine u7 (nu a.typeIs zA
  (lq zA a.typeIs Qn ?_ (Qo _)))
 show wpAny _ _ (field (.ref z) 0 >>= _) _ _ y;refine u7 (Z8 c b rfl ?_);refine u7 (Z8 c b rfl ?_);refine u7 (fU d dt ?_);simp only[gw,h];refine u7 (wpAny_setField c b F7 (A3 ⟨b6,rfl,A3 (f _ ?_ (Pe ..))⟩));refine⟨_,PD _ c (Obj.isFreed_of_fields (OY b _)),(Obj.cls_mapFields ..).trans g,?_⟩;rw[OY b];rfl
def ML(j:D.handled=J)(a:y.heap.IsTupleIter z T m)(h:y.heap.IsTuple T b8)(l:b8[m]? = J)(k:∀h' e,Heap.ExtBut z y.heap h'->(∃o,h'.get? e=U o/\o.cls=.type "StopIteration")->b9 (.ref e) {y with heap:=h'}):wpAny (model prog w) D (zy (.ref z)) Q b9 y:=by
 obtain⟨A,d,p,c⟩:=id a;obtain⟨q,g,_,n,dt⟩:=h;refine u7 (nu a.typeIs zA
  (lq zA a.typeIs Qn ?_ (Qo _)))
 show wpAny _ _ (field (.ref z) 0 >>= _) _ _ y;refine u7 (Z8 d c rfl ?_);refine u7 (Z8 d c rfl ?_);refine u7 (fU g dt ?_);simp only[gw,l];refine u7 (oK (u7 (wpAny_setField d c F7 ?_)));refine u7 ?_;refine u7 (oY ?_ (by size_fits));refine u7 (wpAny_of_eq (by rfl) ?_);refine oY ?_ (by size_fits);refine u7 (wpAny_handled ?_);rw[j];refine wpAny_throw (k _ _ (λb o f e=>?_) ⟨_,W2 _ rfl,rfl⟩);exact L6 _ (L6 _ ((Pe ..).extBut b o f e))
def nj{x:t5}(h:sP I y.heap z T m b8)(f:T≠z)(e:b8[m]? = U x)(d:∀h',mZ I h' z T (m+1)->oR z y.heap h'->Q x {y with heap:=h'}):wpAny (model prog w) D (zy (.ref z)) Q b9 y:=by
 cases I;exact Gg h.1 h.2 e λh' b a=>d h' b a;exact JH h.1 h.2 e λh' b a=>d h' b a
def pI(b:D.handled=J)(h:sP I y.heap z T m b8)(d:b8[m]? = J)(c:∀h' e,Heap.ExtBut z y.heap h'->(∃o,h'.get? e=U o/\o.cls=.type "StopIteration")->b9 (.ref e) {y with heap:=h'}):wpAny (model prog w) D (zy (.ref z)) Q b9 y:=by
 cases I;exact PB b h.1 h.2 d c;exact ML b h.1 h.2 d c
def KD {k2:Bool} {ys:Array t5} {a b:t5} (A:gZ z T c9 i3 j2 j3 j4) (hz:IsZip y.heap z T c9 .none) (r:V4 y.heap T (.ref i3) (.ref j2)) (v:V4 y.heap c9 a b) (h1:sP I y.heap i3 j3 m b8) (V:sP k2 y.heap j2 j4 m ys) (hx:b8[m]? = U b6) (X:ys[m]? = U j0) (hQ:∀h',IsZip h' z T c9 (af y.heap.objs.size)->V4 h' c9 b6 j0->mZ I h' i3 j3 (m + 1)->mZ k2 h' j2 j4 (m + 1)->V4 h' y.heap.objs.size b6 j0 ->
   (∀c o,c≠z->c≠c9->c≠i3->c≠j2->y.heap.get? c=U o->h'.get? c=U o)->l8 (U (.ref y.heap.objs.size)) {y with heap:=h'}) :
  wpAny (model prog w) D (oH (.ref z)) l8 Q y:=by
 have O:y.TypeIs (.ref z) "zip":=⟨_,hz,rfl⟩;refine u7 (qV (nu O mq (lq mq O zd ?_ (zj _))));show wpAny _ _ (field (.ref z) 2 >>= _) _ _ _;refine u7 (Z8 hz rfl rfl ?_);refine u7 (Z8 hz rfl rfl (u7 (fU r rfl ?_)));refine u7 ?_;refine u7 (Z8 hz rfl rfl (A3 ?_));refine u7 (oK (u7 (Z8 hz rfl rfl (u7 (pe hz F7 λg1 z1 i=>?_)))));refine u7 ?_;refine u7 (u7 (yS ?_));refine u7 (nj (h1.kept λc o l e=>i.extBut c o (by rcases l with rfl|rfl;exact A.i1z;exact A.l1z) e) A.l1i1 hx λg2 p1 s=>A3 ?_);have G:=s.extBut _ _ A.TOi1 (i.extBut _ _ A.TOz v);refine u7 (fU G rfl (u7 (FZ G λg3 t3 g=>?_)))
 refine u7 (wpAny_letGo (A3 ?_));refine u7 (u7 (yS ?_));have q2:=V.kept λc o l e=>by
  have Z:c≠z:=by rcases l with rfl|rfl;exact A.i2z;exact A.l2z
  have n2:c≠i3:=by rcases l with rfl|rfl;exact A.i12.symm;exact A.l2i1
  have W:c≠c9:=by rcases l with rfl|rfl;exact A.TOi2.symm;exact A.l2TO
  exact g.extBut c o W (s.extBut c o n2 (i.extBut c o Z e))
 refine u7 (nj q2 A.l2i2 X λg4 Y h=>A3 ?_);have N:=h.extBut _ _ A.TOi2 t3;refine u7 (fU N rfl (u7 (FZ N λf q j=>?_)))
 replace q:V4 f c9 b6 j0:=q;refine u7 (wpAny_letGo (A3 (A3 (u7 (fU q rfl (u7 (Fd ?_)))))));have sz:f.objs.size=y.heap.objs.size:=by rw[j.1,h.1,g.1,s.1,i.1]
 have M:=j.extBut _ _ A.TOz.symm (h.extBut _ _ A.i2z.symm (g.extBut _ _ A.TOz.symm (s.extBut _ _ A.i1z.symm z1)));have k5:∀c o,c≠z->c≠c9->c≠i3->c≠j2->y.heap.get? c=U o->f.get? c=U o:=λc o d n u t e =>
  j.extBut _ _ n (h.extBut _ _ t (g.extBut _ _ n (s.extBut _ _ u (i.extBut _ _ d e))))
 refine u7 ?_;have E:IsZip (f.push {cls:=.type "tuple",data:=.seq #[b6,j0]}) z T c9 .ellipsis:=L6 _ M;refine u7 (pe E F7 λg7 z7 P=>?_);refine pe z7 F7 λK R S=>?_;have p:∀c o,c≠z->f.get? c=U o->K.get? c=U o:=λc o d e=>S.extBut _ _ d (P.extBut _ _ d (L6 _ e));have L:=fS (G8 M);have H:=S.extBut _ _ L (P.extBut _ _ L (W2 _ rfl));rw[sz]at R H;refine A3 ⟨_,rfl,A3 ?_⟩;rw[sz];exact hQ K R (p _ _ A.TOz q) ((p1.at λo e=>j.extBut _ _ A.TOi1.symm (h.extBut _ _ A.i12 (g.extBut _ _ A.TOi1.symm e))).at λo e=>p _ o A.i1z e) ((Y.at λo e=>j.extBut _ _ A.TOi2.symm e).at λo e=>p _ o A.i2z e) H λc o d n u t e=>p c o d (k5 c o d n u t e)
def Qw{k2:Bool}{S:Addr}{ys:Array t5}(L:D.handled=J)(A:gZ z c9 i3 j2 j3 j4 S)(hz:IsZip y.heap z c9 i3 .none)(u:V4 y.heap c9 (.ref j2) (.ref j3))(B:V4 y.heap i3 b6 j0)(h1:sP I y.heap j2 j4 m b8)(V:sP k2 y.heap j3 S m ys)(n:b8[m]? = J\/ys[m]? = J)(hQ:∀h',(∀c o,c≠z->c≠i3->c≠j2->c≠j3->y.heap.get? c=U o->h'.get? c=U o)->l8 J {y with heap:=h'}):
  wpAny (model prog w) D (oH (.ref z)) l8 Q y:=by
 have N:y.TypeIs (.ref z) "zip":=⟨_,hz,rfl⟩;refine u7 (qV (nu N mq (lq mq N zd ?_ (zj _))));have p:∀g e,(∀c o,c≠z->c≠i3->c≠j2->c≠j3->y.heap.get? c=U o->g.get? c=U o)->(∃o,g.get? e=U o/\o.cls=.type "StopIteration") ->
   wpAny (model prog w) D (do if <- isInstance (.ref e) (.type "StopIteration")then pure J else throw (.ref e)) l8 Q {y with heap:=g}:=λg e hk ⟨o,ho,f⟩ =>
  u7 (FF ⟨o,ho,f⟩ EZ (A3 (hQ _ hk)))
 show wpAny _ _ (field (.ref z) 2 >>= _) _ _ _;refine u7 (Z8 hz rfl rfl ?_);refine u7 (Z8 hz rfl rfl (u7 (fU u rfl ?_)));refine u7 ?_;refine u7 (Z8 hz rfl rfl (A3 ?_));refine u7 (oK (u7 (Z8 hz rfl rfl (u7 (pe hz F7 λg1 H r=>?_)))));refine u7 ?_;refine u7 (u7 (yS ?_));have M:=h1.kept λc o f e=>r.extBut c o (by rcases f with rfl|rfl;exact A.i1z;exact A.l1z) e
 cases hx:b8[m]? with
 |none =>
  refine u7 (pI L M hx λZ e i v=>?_)
  obtain⟨t,d,l⟩:=v;have O:=i _ _ A.i1z.symm H;have ne:e≠z:=λq=>by subst q;rw[O]at d;lia
  refine pe O F7 λs _ j=>p s e (λc o T _ E _ q=>j.extBut _ _ T (i _ _ E (r.extBut _ _ T q))) ⟨t,j.extBut _ _ ne d,l⟩
 |some x =>
  have hy:ys[m]? = J:=by
   rcases n with h|h
   rw[hx]at h;exact nS h;exact h
  refine u7 (nj M A.l1i1 hx λZ p1 i=>A3 ?_);have C:=i.extBut _ _ A.TOi1 (r.extBut _ _ A.TOz B);refine u7 (fU C rfl (u7 (FZ C λs t3 j=>?_)))
  refine u7 (wpAny_letGo (A3 ?_));refine u7 (u7 (yS ?_));have q2:=V.kept λc o f e=>by
   have n1:c≠z:=by rcases f with rfl|rfl;exact A.i2z;exact A.l2z
   have n2:c≠j2:=by rcases f with rfl|rfl;exact A.i12.symm;exact A.l2i1
   have Y:c≠i3:=by rcases f with rfl|rfl;exact A.TOi2.symm;exact A.l2TO
   exact j.extBut c o Y (i.extBut c o n2 (r.extBut c o n1 e))
  refine u7 (pI L q2 hy λg4 e K v=>?_)
  obtain⟨t,d,l⟩:=v;have G:=K _ _ A.i2z.symm (j.extBut _ _ A.TOz.symm (i.extBut _ _ A.i1z.symm H));have ne:e≠z:=λq=>by subst q;rw[G]at d;cases d;simp at l
  refine pe G F7 λW _ R=>p W e (λc o T X E c4 q=>R.extBut _ _ T (K _ _ c4 (j.extBut _ _ X (i.extBut _ _ E (r.extBut _ _ T q))))) ⟨t,R.extBut _ _ ne d,l⟩
end
def Ol(K:y7)(H:Hp)(a:Addr)(xs:List V):Prop:=N5 K H a xs\/W4 K H a xs
def Ol.ne(I:Inv c c7 B H y)(h:Ol c.K H z M)(f:mS c c7 H T):z≠T:=by
 have d:∀{u:HO},Rd H z u->z≠T:=λ{u} r=>by
  rcases r with r|⟨o,r⟩
  exact ay r f.1;exact ay r f.1
 have X:∀{o:Obj},c.K.lookup z=U o->z≠T:=λ{o} e i=>by
  have g:=I.ok.mod.Ia z o e;rcases f.2.2.2.1 with q|q
  exact I.ok.wM z o g (i▸q);exact absurd (M8 (G8 g) (C3 I.ok.sJ (by simp_all))) (aB _)
 rcases h with (r|⟨o,_,_,e,_⟩)|(r|⟨o,_,_,e,_⟩)
 exact d r;exact X e;exact d r;exact X e
def HK{ys:Array t5}(f:a6.IsList z b8)(g:a6.IsTuple z ys):False:=by
 obtain⟨o,e,c,_⟩:=f;obtain⟨i,b,d,_⟩:=g;lia
def Inv.Rg{ys:List V}(I:Inv c c7 B H y)(h:Ol c.K H z M)(h':Ol c.K H z ys):M=ys:=by
 rcases h with h|h<;>rcases h' with h'|h'
 exact I.wN h h';obtain⟨_,_,p,_⟩:=I.list h;obtain⟨_,_,q,_⟩:=I.tuple h';exact(HK p.isList q).elim;obtain⟨_,_,p,_⟩:=I.list h';obtain⟨_,_,q,_⟩:=I.tuple h;exact(HK p.isList q).elim;exact I.AN h h'
def Inv.vd{ch:List Addr}(I:Inv c c7 B H y)(k:∀b o,b∉ch->y.heap.get? b=U o->a6.get? b=U o)(f:∀b∈ch,mS c c7 H b):Inv c c7 B H {y with heap:=a6,toks:=m}:=by
 have d:∀b u,H b=U u->b∉ch:=λb u e z=>by rw[(f b z).1]at e;exact nE e
 refine I.step (λb j=>?_) (λb o _ _ a e _=>k b o a e) (λb o _ _ a e _=>⟨o.slots,k b o a e⟩) (λ_ _ _ _ n=>n)
  (λb o a e=>⟨o,k b o a e⟩) (λ_ _ e=>e) (λ_ _ _ e=>e) (λb A e=>⟨#[],by rw[e];simp⟩) (λs i=>?_) (λb u e=>?_) I.bare
 obtain⟨_,x,_,p,l,h⟩:=f b j;exact⟨p,x,l,h⟩;obtain⟨o,g,w,t,r⟩:=i;exact⟨o,g,w,k _ o (λz=>(f _ z).2.1 rfl) t,r⟩
 . refine(I.J7 b u e).tw (λX v a q=>k X v ?_ q) (λ_ q=>q) λ_ _ q=>q
   rcases a with z|z
   rw[z];exact d b u e;exact d X _ z
def gC(kd:Bool)(K:y7)(H:Hp)(a:Addr)(xs:List V):Prop:=match kd with
 |true=>W4 K H a xs
 |false=>N5 K H a xs
def gC.x(h:gC I g H z M):Ol g H z M:=by
 cases I;exact .inl h;exact .inr h
def Inv.Hj(X:Inv c c7 B H y)(h:gC I c.K H T M)(it:mZ I y.heap z T m):∃b:List t5,Vals M b/\sP I y.heap z T m b.toArray:=by
 cases I;obtain⟨b,d,p,e⟩:=X.list h;exact⟨b,d,it,p.isList⟩;obtain⟨b,d,p,e⟩:=X.tuple h;exact⟨b,d,it,p⟩
def Itz(k1 k2:Bool)(K:y7)(a b:Addr):It:=
 ⟨λi H=>∃xs ys x y,gC k1 K H a xs/\gC k2 K H b ys/\xs[i]? = U x/\ys[i]? = U y,
  λi H v H'=>∃p,v=.ref p/\H p=J/\∃x y,H'=upd H p (.tup [x,y])/\∀xs ys,gC k1 K H a xs->gC k2 K H b ys->xs[i]? = U x/\ys[i]? = U y,
  λi H=>∃xs ys,gC k1 K H a xs/\gC k2 K H b ys/\(xs.length<=i\/ys.length<=i)⟩
structure VO(k1 k2:Bool)(z TI TO i1 i2 a b:Addr)(i:Nat)(h:Heap):Prop where
 hz:IsZip h z TI TO .none
 Bl:V4 h TI (.ref i1) (.ref i2)
 Ik:∃x y,V4 h TO x y
 h1:mZ k1 h i1 a i
 h2:mZ k2 h i2 b i
structure a1S(z TI TO i1 i2:Addr):Prop where
 TIz:TI≠z
 TOz:TO≠z
 i1z:i1≠z
 i2z:i2≠z
 TITO:TI≠TO
 TIi1:TI≠i1
 TIi2:TI≠i2
 TOi1:TO≠i1
 TOi2:TO≠i2
 i12:i1≠i2
def gC.inj{ys:List V}(X:Inv c c7 B H y)(h:gC I c.K H z M)(h':gC I c.K H z ys):M=ys:=X.Rg h.x h'.x
def QJ{k2:Bool}(D:a1S z T c9 i3 j2):
  Turn b5 i8 g (.Tuple Z m p) (Itz I k2 g j3 j4) [z,T,c9,i3,j2] z (λi h=>VO I k2 z T c9 i3 j2 j3 j4 i h) where
 mem:=F7
 obj:=λi h d c f=>by
  have P:c=z\/c=T\/c=c9\/c=i3\/c=j2:=by simpa using f
  rcases P with rfl|rfl|rfl|rfl|rfl
  exact⟨_,d.hz,λv q=>by cases q⟩;exact⟨_,d.Bl,λv q=>by cases q⟩;obtain⟨x,y,e⟩:=d.Ik;exact⟨_,e,λv q=>by cases q⟩;exact d.h1.obj;exact d.h2.obj
 keep:=λi h L d C=>by obtain⟨x,y,e⟩:=d.Ik;exact⟨C z F7 _ d.hz,C T F7 _ d.Bl,⟨x,y,C c9 F7 _ e⟩,d.h1.at λo q=>C i3 F7 o q,d.h2.at λo q=>C j2 F7 o q⟩
 item:=by
  intro X S V hK f i j s Q H E a l d R;subst S V hK;obtain⟨xs,ys,x,y,r,K,ex,ey⟩:=R;obtain⟨us,rx,ox⟩:=a.Hj r d.h1;obtain⟨vs,w,Y⟩:=a.Hj K d.h2;obtain⟨u,hu,ru⟩:=rx.get ex;obtain⟨v,hv,rvv⟩:=w.get ey;obtain⟨x0,y0,B⟩:=d.Ik;have A:=l z F7;have t:=l c9 F7;have G:=l i3 F7;have M:=l j2 F7;have ZA:gZ z T c9 i3 j2 j3 j4:=⟨D.TIz,D.TOz,D.i1z,D.i2z,D.TITO,D.TIi1,D.TIi2,D.TOi1,D.TOi2,D.i12,r.x.ne a A,r.x.ne a t,r.x.ne a G,r.x.ne a M,K.x.ne a A,K.x.ne a t,K.x.ne a G,K.x.ne a M⟩;refine KD ZA d.hz d.Bl B ox Y (by simpa using hu) (by simpa using hv) λL g1 g2 g3 g4 g5 O=>?_
  have hT:=a.J7.fresh F3;have I1:Inv X j Q H {s with heap:=L}:=a.vd (ch:=[z,c9,i3,j2]) (λc o f e=>O c o (λq=>f (by simp[q])) (λq=>f (by simp[q])) (λq=>f (by simp[q])) (λq=>f (by simp[q])) e)
   (λc f=>l c (by
    have P:c=z\/c=c9\/c=i3\/c=j2:=by simpa using f
    rcases P with rfl|rfl|rfl|rfl<;>simp))
  have I2:Inv X j Q (upd H s.heap.objs.size (.tup [x,y])) {s with heap:=L}:=I1.IU hT (fS a.lt) (.inr a.sz)
   (λn c e q=>by obtain⟨vv,q2⟩:=a.cell n c e;exact absurd q2.lt (by rw[q];exact aB _))
   (λk hp q=>absurd (G8 (a.pin k hp).1) (by rw[q];exact aB _))
   ⟨by show 2<=F0;rw[mi];decide,[u,v],.cons ru (.cons rvv .nil),⟨_,g5,rfl,_,rfl⟩⟩
  refine⟨_,rfl,wpAny_letOwnedTupleGo_zip g1 λh2 z2 N=>?_⟩
  have uz:∀c,c∈[z,T,c9,i3,j2]->(upd H s.heap.objs.size (.tup [x,y])) c=J:=λc f=>by
   have hlt:c<s.heap.objs.size:=by
    have P:c=z\/c=T\/c=c9\/c=i3\/c=j2:=by simpa using f
    rcases P with rfl|rfl|rfl|rfl|rfl
    exact(G8 d.hz);exact G8 d.Bl;exact G8 B;obtain⟨o,e,_⟩:=d.h1.obj;exact G8 e;obtain⟨o,e,_⟩:=d.h2.obj;exact G8 e
   rw[J6 (R8 hlt)];exact(l c f).1
  have I3:Inv X j Q (upd H s.heap.objs.size (.tup [x,y])) {s with heap:=h2}:=Inv.turned (s:={s with heap:=L}) I2 (λc o f e=>N.extBut c o f e) (uz z F7) A.2.1 A.2.2.2.1 A.2.2.2.2.1 A.2.2.2.2.2;refine⟨.ref s.heap.objs.size,_,I3,rfl,⟨_,rfl,hT,x,y,rfl,λxs' ys' b hy'=>?_⟩,⟨z2,N.extBut _ _ D.TIz (O _ _ D.TIz D.TITO D.TIi1 D.TIi2 d.Bl),⟨_,_,N.extBut _ _ D.TOz g2⟩,?_,?_⟩,uz⟩;rw[b.inj a r,hy'.inj a K];exact⟨ex,ey⟩;exact g3.at λo q=>N.extBut _ _ D.i1z q;exact g4.at λo q=>N.extBut _ _ D.i2z q
 done:=by
  intro X S V hK f i j s Q H E a l d R;subst S V hK;obtain⟨xs,ys,r,K,F⟩:=R;obtain⟨us,rx,ox⟩:=a.Hj r d.h1;obtain⟨vs,w,Y⟩:=a.Hj K d.h2;obtain⟨x0,y0,B⟩:=d.Ik;have A:=l z F7;have t:=l c9 F7;have G:=l i3 F7;have M:=l j2 F7;have ZA:gZ z T c9 i3 j2 j3 j4:=⟨D.TIz,D.TOz,D.i1z,D.i2z,D.TITO,D.TIi1,D.TIi2,D.TOi1,D.TOi2,D.i12,r.x.ne a A,r.x.ne a t,r.x.ne a G,r.x.ne a M,K.x.ne a A,K.x.ne a t,K.x.ne a G,K.x.ne a M⟩;have:=rx.length;have:=w.length;refine Qw (a.ok.hd f) ZA d.hz d.Bl B ox Y ?_ λL O=>⟨rfl,?_⟩
  . rcases F with q|q
    exact .inl (by simp;simp_all);exact .inr (by simp;simp_all)
  . exact a.vd (ch:=[z,c9,i3,j2]) (λc o f e=>O c o (λq=>f (by simp[q])) (λq=>f (by simp[q])) (λq=>f (by simp[q])) (λq=>f (by simp[q])) e)
      (λc f=>l c (by
       have P:c=z\/c=c9\/c=i3\/c=j2:=by simpa using f
       rcases P with rfl|rfl|rfl|rfl<;>simp))
 self:=λ_ _ _ _ _ d h=>FE d.hz h
set_option tactic.hygienic true
set_option tactic.hygienic false
def ExcAt(e C dx:Addr)(h:Heap):Prop:=∃vs,h.get? e=U {cls:=.ref C,dict:=U dx,data:=.fields vs}
def Cd(e C:Addr)(dx:Option Addr)(h:Heap):Prop:=∃t,h.get? e=U {cls:=.ref C,dict:=dx,data:=.fields #[.ref t,.none,.none,.none,.bool U',.none]}
def Cd.keep{h':Heap}(x:Cd z T k7 a6)(k:∀o,a6.get? z=U o->h'.get? z=U o):Cd z T k7 h':=let ⟨t,q⟩:=x;⟨t,k _ q⟩
def Kh(C:Addr)(fld:Str)(d:f7):f7:=.dict [(.tuple [.int (C:Nat),.str fld],d)]
def ExcAt.keep{h':Heap}(x:ExcAt z T c9 a6)(k:∀o,a6.get? z=U o->h'.get? z=U o):ExcAt z T c9 h':=let ⟨b,q⟩:=x;⟨b,k _ q⟩
structure uU(K:y7)(C:Addr):Prop where
 ga:bq K (.ref C) "__getattribute__" = U (U (.builtin "BaseException.__getattribute__"))
 gt:bq K (.ref C) "__getattr__" = U J
 hd:uJ K C=Uf
 be:EW K C (.type "BaseException")=U Uf
 cl:bq K (.ref C) "__class__" = U (U (.builtin "object.__class__"))
 cg:FK K (.builtin "object.__class__") "__get__" = U (U (.builtin "getset_descriptor.__get__"))
 ct:OB K (.builtin "object.__class__")=U Uf
 ob:EW K C (.type "object")=U Uf
 n1:oS K (.ref C) (.type "tuple")=U U'
 n2:oS K (.ref C) (.type "list")=U U'
 n3:oS K (.ref C) (.type "bool")=U U'
 n4:oS K (.ref C) (.type "int")=U U'
 n5:oS K (.ref C) (.type "str")=U U'
def jD(n:String):Prop:=n = "tuple"\/n = "list"\/n = "bool"\/n = "int"\/n = "str"
theorem uU.jD(T:uU g z)(h:L2.jD l7):oS g (.ref z) (.type l7)=U U':=by
 rcases h with rfl|rfl|rfl|rfl|rfl
 exact T.n1;exact T.n2;exact T.n3;exact T.n4;exact T.n5
section
variable{prog:M3}{w:E3}{K:y7}
def NH{a:Tok}(A:uU K T)(X:K.In y.heap)(I:yW y.heap z o1 T p6)(b:Fn K T p6 "__class__" = U (.bind (.builtin "getset_descriptor.__get__") (.builtin "object.__class__")))(h:n9 (.ok (.ret (.ref T))) y):
  codeAny (model prog w) D (.call (.builtin "BaseException.__getattribute__") ⟨[.ref z,.str "__class__" a],[]⟩) n9 y:=by
 obtain⟨c,g,d,t,e⟩:=y;refine codeAny_call_builtin F.excAttr_ValueError.ga.plain F.entry_bexc_ga ?_;refine u7 ?_;refine u7 ((I.type (M:=model prog w)).at ((PySem.W.looks_mroIn (M:=model prog w) X A.be).at ?_));repeat (first|wp_step)
 refine wpAny_loadPart_at I.at_ ?_;rw[I.cls];refine A3 (u7 ((PySem.W.looks_find (M:=model prog w) X I b).at ?_));repeat (any_goals (first|assumption|wp_step))
 refine PySem.W.class_get X I A.ob ?_;repeat (any_goals (first|assumption|wp_step))
def Yn{c:Tok}{a:Bool}(A:uU K T)(X:K.In y.heap)(E:yW y.heap z o1 T p6)(e:Fn K T p6 "__class__" = U (.bind (.builtin "getset_descriptor.__get__") (.builtin "object.__class__")))(h:Q (.ref T) y):
  wpAny (model prog w) D (getAttrBy (.ref z) (.str "__class__" c) I a) Q b9 y:=by
 obtain⟨i,g,d,t,f⟩:=y;have:=F.excAttr_ValueError.ga.bind (.ref z);have:(a&&onTheHeap (Value.builtin "BaseException.__getattribute__"))=U':=by cases a<;>rfl
 refine gr (u7 ((E.type (M:=model prog w)).at (u7 ((Ga (M:=model prog w) X A.ga).at ?_))));repeat (any_goals (first|assumption|(with_reducible refine(Ga (M:=model prog w) X A.gt).at ?_)|wp_step))
 refine NH A X E e ?_;exact A3 h
def NG{o:Obj}(A:uU K T)(X:K.In y.heap)(I:yW y.heap z o1 T (U o))(h:l8 (U (.ref T)) {y with toks:=y.toks+1}):wpAny (model prog w) D (getAttr? (.ref z) "__class__") l8 Q y:=by
 have a:Fn K T (U o) "__class__" = U (.bind (.builtin "getset_descriptor.__get__") (.builtin "object.__class__")):=PySem.W.findObj_data (by obtain⟨c,b,_⟩:=ze A.hd;rw[b];rfl) A.cl A.cg A.ct;refine u7 (wpAny_mkText (u7 (qV (Yn A X I a ?_))));exact A3 h
set_option tactic.hygienic true in
def Tx(C:uU K T):PySem.W.KitX K (.ref z) (.ref T) (λh=>ExcAt z T c9 h/\∃o,h.get? c9=U o) where
 ty:=λ_ _ _ I=>by obtain⟨⟨r,d⟩,_⟩:=I;exact(PySem.W.Looks.ld d).andThen .now
 it:=λ_ _ X _=>by
  obtain⟨i,a,_⟩:=ze C.hd;unfold PySem.W.clsIn at a;split at a;rename_i p l c b f;exact λy A x t k q=>u7 (wpAny_loadPart (k _ _ (X _ _ f)) (A3 q));exact nE a
 ne:=λh v u s n w X g=>by
  obtain⟨i,a,_⟩:=ze C.hd;refine Bool.eq_false_iff.mpr λq=>?_;have e:=Value.ref.inj (beq_iff_eq.mp q);subst e;unfold PySem.W.clsIn at a;split at a;rename_i p l c b f;cases((X _ _ f).symm.trans g);exact nE a
 ca:=λX I k=>by obtain⟨⟨r,d⟩,o,m⟩:=I;exact NG C X ⟨d,rfl,rfl,m⟩ k
end
noncomputable def qE(kd:Bool)(l:Addr):Obj:=match kd with
 |true=>{cls:=.type "tuple_iterator",data:=.fields #[.ref l,.int 0 0]}
 |false=>{cls:=.type "list_iterator",data:=.fields #[.ref l,.int 0 0]}
def kQ(kd:Bool)(h:Heap)(l:Addr)(xs:Array t5):Prop:=match kd with
 |true=>h.IsTuple l xs
 |false=>h.IsList l xs
theorem kQ.push(x:kQ I a6 z b8)(o:Obj):kQ I (a6.push o) z b8:=by
 cases I;exact Heap.IsList.push (show a6.IsList z b8 from x) o;exact Heap.IsTuple.push (show a6.IsTuple z b8 from x) o
def mZ.new(e:a6.get? z=U (qE I T)):mZ I a6 z T 0:=by
 cases I;exact⟨_,e,rfl,rfl⟩;exact⟨_,e,rfl,rfl⟩
def vx(x:kQ I y.heap z b8)(b:Q (.ref (hz y)) {y with heap:=y.heap.push (qE I z)}):wpAny (model b5 i8) D (pyIter (.ref z)) Q b9 y:=by
 cases I;exact FI (show y.heap.IsList z b8 from x) b;exact wpAny_pyIter_tuple (show y.heap.IsTuple z b8 from x) b
abbrev UR(k1:Bool)(h:Heap)(a:Addr):Heap:=h.push (qE k1 a)
abbrev UQ(k1 k2:Bool)(h:Heap)(a b:Addr):Heap:=(UR k1 h a).push (qE k2 b)
noncomputable abbrev UP(k1 k2:Bool)(h:Heap)(a b:Addr):Heap:=(UQ k1 k2 h a b).push {cls:=.type "tuple",data:=.seq #[.ref h.objs.size,.ref (UR k1 h a).objs.size]}
noncomputable abbrev UO(k1 k2:Bool)(h:Heap)(a b:Addr):Heap:=(UP k1 k2 h a b).push {cls:=.type "tuple",data:=.seq #[.none,.none]}
noncomputable abbrev GX(k1 k2:Bool)(h:Heap)(a b:Addr):Heap:=(UO k1 k2 h a b).push {cls:=.type "zip",data:=.fields #[.none,.bool U',.bool U',.ref (UQ k1 k2 h a b).objs.size,.ref (UP k1 k2 h a b).objs.size]}
def JN(c k2:Bool)(a b:Addr)(xs ys:Array t5):
  Meets (Builtin.«zip.__new__» ⟨[.type "zip",.ref a,.ref b],[]⟩) (λ_ R s=>kQ c s.heap a xs/\kQ k2 s.heap b ys /\
   R (.ok (.ret (.ref (UO c k2 s.heap a b).objs.size))) {s with heap:=GX c k2 s.heap a b}):=
 .of_wp λe w A R s h=>by
  obtain⟨m,g,d,k,j⟩:=s;obtain⟨f,i,h⟩:=h;have:=sub_zip;have l:kQ k2 (Shared.heap ⟨m.push (qE c a),g,d,k,j⟩) b ys:=kQ.push i _
  wp_walk using vx f,vx l
  exact⟨_,rfl,h⟩
section
variable{prog:M3}{w:E3}
def NX {k2:Bool} {ys:Array t5} (p:kQ I y.heap z b8) (q:kQ k2 y.heap T ys) (h:∀h',VO I k2 ((hz y) + 4) ((hz y) + 2) ((hz y) + 3) (hz y) ((hz y) + 1) z T 0 h' ->
   (∀c o,y.heap.get? c=U o->h'.get? c=U o)->Q (.ref ((hz y)+4)) {y with heap:=h'}) :
  wpAny (model prog w) D (call (.type "zip") [.ref z,.ref T]) Q b9 y:=by
 refine callType_new F.called_zip f5 (F.typeCall_zip_2 _ _) (F.newCall_zip_2 _ _) (λobj=>F.args_object_init_3 obj _ _) F.entry_zip_new (JN I k2 z T b8 ys) ⟨p,q,?_⟩
 have g:(UR I y.heap z).objs.size=(hz y)+1:=iu ..;have f:(UQ I k2 y.heap z T).objs.size=(hz y)+2:=by rw[iu,g]
 have i:(UP I k2 y.heap z T).objs.size=(hz y)+3:=by rw[iu,f]
 have j:(UO I k2 y.heap z T).objs.size=(hz y)+4:=by rw[iu,i]
 have e:(GX I k2 y.heap z T).get? (UO I k2 y.heap z T).objs.size=U _:=W2 _ rfl;have l:(GX I k2 y.heap z T).get? (UP I k2 y.heap z T).objs.size=U _:=L6 _ (W2 _ rfl);have k:(GX I k2 y.heap z T).get? (UQ I k2 y.heap z T).objs.size=U _:=L6 _ (L6 _ (W2 _ rfl));have n:(qE k2 T).isFreed=U':=by cases k2<;>rfl
 have t:(qE I z).isFreed=U':=by cases I<;>rfl
 have m:(GX I k2 y.heap z T).get? (UR I y.heap z).objs.size=U _:=L6 _ (L6 _ (L6 _ (W2 _ n)));have r:(GX I k2 y.heap z T).get? (hz y)=U _:=L6 _ (L6 _ (L6 _ (L6 _ (W2 _ t))));rw[f,i,j]at e;rw[g,f]at k;rw[i]at l;rw[g]at m;rw[j];exact⟨⟨_,e,rfl⟩,h _ ⟨e,k,⟨_,_,l⟩,.new r,.new m⟩ λc o x =>
  L6 _ (L6 _ (L6 _ (L6 _ (L6 _ x))))⟩
end
def Qx(n:Nat):a1S (n+4) (n+2) (n+3) n (n+1):=by constructor<;>(show @Ne Nat _ _)<;>simp[*]
def Inv.bR(X:Inv c c7 B H y)(h:gC I c.K H z M):∃b:List t5,kQ I y.heap z b.toArray:=by
 cases I;obtain⟨b,_,p,_⟩:=X.list h;exact⟨b,p.isList⟩;obtain⟨b,_,p,_⟩:=X.tuple h;exact⟨b,p⟩
section
variable{Q:VK}
end
theorem Cj:∀{bs:List Bool} {us:List t5},Vals (bs.map V.bl) us->us=bs.map uo
 | [],_,.nil=>rfl
 |b::r,_,.cons h t=>by rw[Cj t];cases h;rfl
theorem qv:∀(bs:List Bool) (d:Bool),(C8 bs.length).all (λi=>bs.getD i d)=bs.all id
 | [],_=>rfl
 |b::r,d=>by rw[X9,PL,List.all_cons,List.all_map,List.all_cons];have:=qv r d;simp only[List.getD_cons_zero,Function.comp_def,List.getD_cons_succ,id];rw[this]
def Uy:ae c (.builtin "all") (λxs H Q=>∃(p:Addr) (bs:List Bool),xs=[.ref p]/\N5 c.K H p (bs.map V.bl)/\c.A.handled=J/\Q (.bl (bs.all id)) H):=by
 intro X s w H xs M Q I r h;obtain⟨p,bs,rfl,hq,C,q⟩:=h;obtain⟨u,rfl,t⟩:=vals1 r;cases t;obtain⟨a,D,j,L⟩:=I.list hq;have k:=Cj D;refine call_all_walk (FI j.isList ?_);have lt:p<s.heap.objs.size:=by obtain⟨o,e,_⟩:=j.isList;exact G8 e
 refine⟨s.heap.objs.size,_,_,_,_,_,λi=>bs.getD i U',rfl,Walks.list (A:=c.A.in1) C s.heap.objs.size p (R8 lt) a.toArray,⟨⟨_,W2 _ rfl,rfl,rfl⟩,j.isList.push _⟩,?_,λF G B=>?_⟩
 . intro i v s' l E x d;have e:(bs.map uo)[i]? = U v:=by rw[<-k];simpa using x
   rw[O1]at e;cases eb:bs[i]? with
   |none=>rw[eb]at e;exact nE e
   |some b =>
    rw[eb]at e;cases e;have:bs.getD i U'=b:=by rw[iz,eb];rfl
    have g:l b s':=by rw[<-this];exact d
    exact mC g
 . have m:a.toArray.size=bs.length:=by rw[k];simp
   rw[m,qv];refine⟨.bl (bs.all id),H,?_,rfl,q⟩;have y:Inv c X w H {s with heap:=s.heap.push {cls:=.type "list_iterator",data:=.fields #[.ref p,.int 0 0]}}:=I.kept λb o e=>L6 _ e;have f:=I.wU F3 (I.J7.fresh (X6 s.heap.objs.size));exact Inv.turned y (λb o z e=>B b o (by simpa using z) e) f.1 f.2.1 f.2.2.2.1 f.2.2.2.2.1 f.2.2.2.2.2
structure Bt(m:Nat)(i:Int):Prop where
 lt:i.natAbs<2 ^ m
def Bt.mono{n:Nat}(h:Bt m a2)(a:m<=n):Bt n a2:=⟨M8 h.lt (Pq f5 a)⟩
def Bt.of_le(h:Bt m i5)(a:a2.natAbs<=i5.natAbs):Bt m a2:=⟨pd a h.lt⟩
def Bt.neg(h:Bt m a2):Bt m (-a2):=h.of_le B4
def Bt.mul{n:Nat}(h:Bt m a2)(h':Bt n i5):Bt (m+n) (a2*i5):=⟨by
 rw[dH,Nat.pow_add];exact Nat.mul_lt_mul'' h.lt h'.lt⟩
def Bt.add(h:Bt m a2)(h':Bt m i5):Bt (m+1) (a2+i5):=⟨by
 have:=h.lt;have:=h'.lt;omega⟩
def Bt.sub(h:Bt m a2)(h':Bt m i5):Bt (m+1) (a2-i5):=by exact h.add h'.neg
theorem Bt.fdiv{j:Int}(h:Bt m a2):Bt m (a2.fdiv j):=h.of_le (Pp a2 j)
def Bt.small(b : -(2 ^ 62)<a2)(a:a2<2 ^ 62):Bt 62 a2:=⟨by omega⟩
def Bt.a2P(h:Bt m a2)(h':Bt d5 i5)(a:m+d5<=134217728):IntMulOk a2 i5:=IntMulOk.of_le (intBits_le_iff.mpr h.lt) (intBits_le_iff.mpr h'.lt) a
section
variable{X:Cx}
def XB:V3 X (aK .Mult) (rI (λi j=>Bt 60000 i/\Bt 60000 j) λi j=>.int (i*j)):=Vr λi j _ _ _ _ _ a q=>mul_int q (a.1.a2P a.2 f5)
def SG:V3 X (aK .FloorDiv) (rI (λ_ j=>j≠0/\Bt 8000 j) λi j=>.int (i.fdiv j)):=Vr λi j _ _ _ _ _ a q=>floordiv_int a.1 q (.inl (PyProof.noPylong_of_log2 (by
 have b:j.natAbs≠0:=by have:=a.1;simp[*]
 have:=(Nat.log2_lt b).mpr a.2.lt;exact pJ)))
def fnD(nm:Str):f7:=.dict [(.str nm,.none)]
def a4C:Str:=⟨#[0]⟩
def BS:f7->Bool
 | .dict [(.str _,.none)]=>Uf
 | .dict [(.tuple [.str _,.list _],.tuple _)]=>Uf
 | .dict [(.list _,_)]=>Uf
 |_=>U'
def Ah(nm:Str)(ns:List Str)(l:List f7):f7:=.dict [(.tuple [.str nm,.list (ns.map .str)],.tuple l)]
def Ki(ks:List Str)(l:List f7):f7:=.dict [(.list (ks.map .str),.tuple l)]
noncomputable def cj:Key->f7
 | .inl i=>.int i
 | .inr x=>.str x
def N3(k:List Key):f7:=.dict [(.list (k.map cj),.none)]
def wZ(ks:List (List Key))(l:List f7):f7:=.dict [(.list (ks.map λk=>.tuple (k.map cj)),.list l)]
mutual
inductive Dt(K:y7)(H:Hp):V->f7->Prop
 |non:Dt K H .non .none
 |bl (b):Dt K H (.bl b) (.bool b)
 |int (i):Dt K H (.int i) (.int i)
 |str (x):Dt K H (.str x) (.str x)
 |tup {a xs ds}:W4 K H a xs->C7 K H xs ds->Dt K H (.ref a) (.tuple ds)
 |lst {a xs ds}:N5 K H a xs->C7 K H xs ds->Dt K H (.ref a) (.list ds)
 |exc {ea C dx fld v d}:uU K C->bq K (.ref C) fld=U J->H ea=U (.ext (ExcAt ea C dx))->H dx=U (.xd [(fld,v)])->Dt K H v d->Dt K H (.ref ea) (Kh C fld d)
 |fn {f nm}:(fR K aA nm=U (U (.ref f))\/nm=a4C)->Dt K H (.ref f) (fnD nm)
 |ins {a C dx fv nm ns vs l}:fR K aA nm=U (U (.ref C))->H a=U (.ins C dx fv)->fv=ns.zip vs->C7 K H vs l->Dt K H (.ref a) (Ah nm ns l)
 |key {a k}:H a=U (.tup (k.map kV))->Dt K H (.ref a) (N3 k)
 |dtt {a kvs ks vs l}:H a=U (.dT kvs)->ks.length=vs.length->kvs=ks.zip vs->C7 K H vs l->Dt K H (.ref a) (wZ ks l)
 |dct {a kvs ks vs l}:H a=U (.dK kvs)->kvs=(ks.map gY).zip vs->C7 K H vs l->Dt K H (.ref a) (Ki ks l)
inductive C7(K:y7)(H:Hp):List V->List f7->Prop
 |nil:C7 K H [] []
 |cons {x xs d ds}:Dt K H x d->C7 K H xs ds->C7 K H (x::xs) (d::ds)
end
def v8.fj(e:v8 H q)(h:W4 g H z M):W4 g q z M:=by
 rcases h with (h|⟨o,h⟩)|h
 exact .inl (.inl (e _ _ h));exact .inl (.inr ⟨o,e _ _ h⟩);exact .inr h
def v8.new(h:H z=J):v8 H (upd H z n6):=λb u e=>by rw[J6 (ay e h)];exact e
mutual
theorem Dt.same{K:y7}{H H':Hp}(e:v8 H H'){x:V}{d:f7}(h:Dt K H x d):Dt K H' x d:=by
 cases h with
 |non=>exact .non
 |bl b=>exact .bl b
 |int i=>exact .int i
 |str x=>exact .str x
 |tup h t=>exact .tup (e.fj h) (C7.same e t)
 |lst h t=>exact .lst (e.seq h) (C7.same e t)
 |exc c n a f t=>exact .exc c n (e _ _ a) (e _ _ f) (Dt.same e t)
 |fn h=>exact .fn h
 |ins a f g t=>exact .ins a (e _ _ f) g (C7.same e t)
 |dct a f t=>exact .dct (e _ _ a) f (C7.same e t)
 |key h=>exact .key (e _ _ h)
 |dtt a f g t=>exact .dtt (e _ _ a) f g (C7.same e t)
theorem C7.same{K:y7}{H H':Hp}(e:v8 H H'){xs:List V}{ds:List f7}(h:C7 K H xs ds):C7 K H' xs ds:=by
 cases h with
 |nil=>exact .nil
 |cons h t=>exact .cons (Dt.same e h) (C7.same e t)
end
theorem C7.length{K:y7}{H:Hp}{xs:List V}{ds:List f7}(h:C7 K H xs ds):xs.length=ds.length:=by
 induction ds generalizing xs with
 |nil=>cases h;rfl
 |cons _ _ i=>cases h with
  |cons _ t=>exact D3 (· + 1) (i t)
def C7.get{i:Nat}(h:C7 g H M S)(e:S[i]? = U e9):∃x,M[i]? = U x/\Dt g H x e9:=by
 induction S generalizing M i with
 |nil=>exact nE e
 |cons _ _ j=>cases h with
  |cons a t=>cases i with
   |zero=>cases e;exact⟨_,rfl,a⟩
   |succ i=>exact(j (i:=i) t e :)
mutual
theorem Inv.reads{pins:List (Addr×Obj)}{m:St}{H:Hp}{s:v7}(I:Inv X pins m H s){x:V}{u:t5}{d:f7}(h:Dt X.K H x d)(r:RelV x u)(a:d.canLay0=Uf):∃as,Reads s.heap u d as:=by
 cases h with
 |non=>cases r;exact⟨_,.none⟩
 |bl b=>cases r;exact⟨_,.bool b⟩
 |int i=>obtain⟨t,rfl⟩:=r;exact⟨_,.int i t⟩
 |str y=>obtain⟨t,rfl⟩:=r;exact⟨_,.str y t⟩
 |tup h t =>
  cases r;obtain⟨g,k,⟨o,e,c,n,f⟩,_⟩:=I.tuple h;obtain⟨as,j⟩:=Inv.readsAll I t k (by assumption);exact⟨_,.tuple e c f (by omega)⟩
 |lst h t =>
  cases r;obtain⟨g,k,l,_⟩:=I.list h;obtain⟨o,e,c,n,f⟩:=l.isList;obtain⟨as,j⟩:=Inv.readsAll I t k (by assumption);exact⟨_,.list e c f (by omega)⟩
 |exc _ _ _ _ _=>rw[Kh,fT]at a;exact nT a
 |fn _=>rw[fnD,fT]at a;exact nT a
 |ins _ _ _ _=>rw[Ah,fT]at a;exact nT a
 |dct _ _ _=>rw[Ki,fT]at a;exact nT a
 |key _=>rw[N3,fT]at a;exact nT a
 |dtt _ _ _ _=>rw[wZ,fT]at a;exact nT a
theorem Inv.readsAll{pins:List (Addr×Obj)}{d:St}{H:Hp}{s:v7}(I:Inv X pins d H s){xs:List V}{us:List t5}{ds:List f7}(h:C7 X.K H xs ds)(r:Vals xs us)(a:gu ds=Uf):∃as,ReadsAll s.heap us ds as:=by
 cases h with
 |nil=>cases r;exact⟨_,.nil⟩
 |cons h t =>
  cases r with
  |cons r e =>
   rw[gu,rf]at a;obtain⟨as,b⟩:=Inv.reads I h r a.1;obtain⟨bs,c⟩:=Inv.readsAll I t e a.2;exact⟨_,.cons b c⟩
end
def a0H(g:X.A.units+64<S7):V3 X (X5 .Eq) (λx y H Q=>∃d e,Dt X.K H x d/\Dt X.K H y e/\aT d=Uf/\aT e=Uf/\Q (.bl (V8 d e)) H):=by intro b s o H x y v u Q I j i h;obtain⟨d,e,l,m,c,a,q⟩:=h;obtain⟨n,f⟩:=I.reads l j (zr c);obtain⟨bs,k⟩:=I.reads m i (zr a);exact eq_dataH f k c a g ⟨.bl _,H,I,rfl,q⟩
def a0E(g:X.A.units+64<S7):V3 X (X5 .NotEq) (λx y H Q=>∃d e,Dt X.K H x d/\Dt X.K H y e/\aT d=Uf/\aT e=Uf/\Q (.bl (!PyData.eqv d e)) H):=by intro b s o H x y v u Q I j i h;obtain⟨d,e,l,m,c,a,q⟩:=h;obtain⟨n,f⟩:=I.reads l j (zr c);obtain⟨bs,k⟩:=I.reads m i (zr a);exact ne_dataH f k c a g ⟨.bl _,H,I,rfl,q⟩
end
def QF:f7->String
 | .none=>"NoneType"
 | .bool _=>"bool"
 | .int _=>"int"
 | .str _=>"str"
 | .tuple _=>"tuple"
 | .list _=>"list"
 |_=>"dict"
def DM(d:f7)(n:String):Bool:=QF d==n||(QF d=="bool"&&n=="int")
def kG:∀{t n:String},(t = "NoneType"\/t = "bool"\/t = "int"\/t = "str"\/t = "tuple"\/t = "list")->jD n->oS g (.type t) (.type n)=U (t==n||(t=="bool"&&n=="int")):=by intro t n b a;rcases b with rfl|rfl|rfl|rfl|rfl|rfl<;>rcases a with rfl|rfl|rfl|rfl|rfl<;>first|rfl|decide +kernel
section
set_option tactic.hygienic true in
def Ux:ae c (.builtin "isinstance") (λxs H Q=>∃x n d,xs=[x,.ty n]/\Dt c.K H x d/\BS d=U'/\jD n/\Q (.bl (DM d n)) H):=by
 intro k s G H xs S Q I r h;obtain⟨x,n,d,rfl,L,f,g,q⟩:=h;obtain⟨u,X,rfl,j,B⟩:=vals2 r;cases B;have a:∀l,EP c k G Q (.bool (DM d n)) {s with toks:=l}:=λl=>⟨.bl _,H,I.tok l,rfl,q⟩
 cases L with
 |non=>cases j;exact oT PySem.W.kitx_none I.gP cT (kG F7 g) (λz=>nomatch z) a
 |bl b=>cases j;exact oT PySem.W.kitx_bool I.gP cT (kG (.inr (.inl rfl)) g) (λz=>nomatch z) a
 |int i=>obtain⟨t,rfl⟩:=j;exact oT PySem.W.kitx_int I.gP cT (kG f5 g) (λz=>nomatch z) a
 |str y=>obtain⟨t,rfl⟩:=j;exact oT PySem.W.kitx_str I.gP cT (kG f5 g) (λz=>nomatch z) a
 |tup h t =>
  cases j;obtain⟨p,D,⟨o,e,X,n,N⟩,_⟩:=I.tuple h;exact oT PySem.W.kitx_tuple I.gP ⟨o,e,X⟩ (kG f5 g) (λz=>nomatch z) a
 |lst h t =>
  cases j;obtain⟨p,D,F,_⟩:=I.list h;obtain⟨o,e,X,n,N⟩:=F.isList;exact oT PySem.W.kitx_list I.gP ⟨o,e,X⟩ (kG f5 g) (λz=>nomatch z) a
 |exc X R w A t =>
  rename_i Z C V m v d;cases j;obtain⟨P,⟨E,T,Y,O,_⟩,_⟩:=I.J7 _ _ A;have M:DM (Kh C m d) n=U':=by rcases g with rfl|rfl|rfl|rfl|rfl<;>rfl
  rw[M]at a;exact oT (Tx X) I.gP ⟨(I.J7 _ _ w).1,E,O⟩ (X.jD g) (λz=>nomatch z) a
 |fn _=>exact nF f
 |ins _ _ _ _=>exact nF f
 |dct _ _ _=>exact nF f
 |key _=>exact nF f
 |dtt _ _ _ _=>exact nF f
end
section
variable{prog:M3}{w:E3}
def BG{lo i:Option Int}(a:gU y.heap z b8)(hs:y.heap.IsSliceOf T b6 j0 .none)(pl:gW b6 lo)(k:gW j0 i)(j:HT.P0 b8.size 0 lo=0/\HT.P0 b8.size b8.size i=b8.size)(h:Q (.ref z) y):wpAny (model prog w) D (gX (.ref z) (.ref T)) Q b9 y:=by
 obtain⟨l,d,c,m⟩:=id hs;have b:y.TypeIs (.ref T) "slice":=⟨l,d,c⟩;delta gX;try with_reducible refine gr ?_
 first|refine u7 (A3 ?_)|skip
 refine u7 (wpAny_sequenceKey a.typeIs f5 ?_);refine u7 (nu a.typeIs zB (lq zB a.typeIs entry_tuple_getitem ?_ (args_tuple_getitem _ _)));show wpAny _ _ (Qk (.ref z) >>= _) _ _ y;refine u7 (tupleItemsOf_ a (u7 (uw b ?_)));refine u7 (HT.nZ hs pl k ?_);rw[j.1,j.2];show wpAny _ _ (if ((0)==0&&1==1&&(b8.size-0)==b8.size)=Uf then _ else _) _ _ y
 rw[t2 B9];refine u7 (u7 (uw a.typeIs (A3 ?_)));first
  |exact u7 (oK (u7 (A3 ⟨_,rfl,A3 h⟩)))
  |exact u7 (oK (A3 ⟨_,rfl,A3 h⟩))
  |exact u7 (oK (u7 (A3 (A3 ⟨_,rfl,A3 h⟩))))
def Yu{ws:List t5}(x:gU y.heap z h8.toArray)(u:gU y.heap T ws.toArray)(m:h8=[])(h:Q (.ref T) y):wpAny (model prog w) D (aK .Add (.ref z) (.ref T)) Q b9 y:=by
 obtain⟨⟨v,q,k,r⟩,i,l,n,o⟩:=id x;obtain⟨⟨j,e,g,c⟩,a,f,p,d⟩:=id u;subst l o f d;exact yQ ⟨_,i,rfl⟩ ⟨_,a,rfl⟩ FH EV Gi Gj (Gn _ _)
  (tuple_addW0 z T h8.toArray ws.toArray n p q e r c (by simp[m])) ⟨i,a,h⟩
end
inductive PF where
 |dat (d:f7)
 |own (l:List f7)
 |dct (es:List (Str×f7))
variable{i4:List (Str×PF)}{l5:PF}
inductive OD where
 |dct (es:List (Str×f7))
 |ins (nm:Str) (fs:List (Str×PF))
 |seq (b:Bool) (fs:List (Str×PF))
inductive PV where
 |dat (d:f7)
 |own (l:List f7)
 |ob (w:Option Addr) (c:OD)
variable{i6:PV}{k9:f7->f7->Option PV}{m6:List PV}{p8:f7->Option PV}
abbrev sd(d:f7):Option PV:=U (.dat d)
noncomputable def PF.d:PF->f7
 | .dat d=>d
 | .own l=>.list l
 | .dct es=>Ki (es.map (·.1)) (es.map (·.2))
noncomputable def OD.d:OD->f7
 | .dct es=>Ki (es.map (·.1)) (es.map (·.2))
 | .ins nm fs=>Ah nm (fs.map (·.1)) (fs.map λf=>f.2.d)
 | .seq Uf fs=>.list (fs.map λf=>f.2.d)
 | .seq U' fs=>.tuple (fs.map λf=>f.2.d)
def PV.d:PV->f7
 | .dat d=>d
 | .own l=>.list l
 | .ob _ c=>c.d
@[simp] theorem PV.vG(d:f7):(PV.dat d).d=d:=rfl
@[simp] theorem PV.Kj(l:List f7):(PV.own l).d=.list l:=rfl
abbrev Ds:=List (Option PV)
variable{L:Ds}
abbrev DV:=Ds->Option PV
variable{r d6:DV}
abbrev DB:=Ds->Option Bool
variable{a9:DB}
abbrev DL:=Ds->Option (List f7)
variable{Y:DL}
abbrev DD:=Ds->Option Ds
variable{m5:f7->DD}{p9:List f7->DD}
abbrev FV:=List f7->Option PV
variable{i7:FV}
abbrev As:=List (Option Addr)
variable{u j5:As}
def B7(H:Hp)(as:As)(O:List Addr):Hp:=λb=>if b∈O\/U b∈as then J else H b
set_option tactic.hygienic true in
def F4:B7 H u O z=U n6↔(z∉O/\U z∉u/\H z=U n6):=by
 delta B7;split;rename_i h;constructor;intro b;exact nE b;rintro⟨a,c,_⟩;exact(h.elim a c).elim;rename_i h;constructor;intro b;exact⟨λq=>h (.inl q),λq=>h (.inr q),b⟩;rintro⟨_,_,b⟩;exact b
def fM(e:∀b o,b∉O->U b∉u->H b=U o->b∉j8/\U b∉j5/\q b=U o):v8 (B7 H u O) (B7 q j5 j8):=λb o h=>by obtain⟨d,f,g⟩:=F4.mp h;exact F4.mpr (e b o d f g)
def T8(e:v8 H q):v8 (B7 H u O) (B7 q u O):=fM λb o a c d=>⟨a,c,e b o d⟩
def aR(e:v8 H q)(h:∀b,U b∈j5->U b∈u):v8 (B7 H u O) (B7 q j5 O):=fM λb o c d f=>⟨c,λz=>d (h b z),e b o f⟩
def B5:v8 (B7 H u O) H:=λb o h=>(F4.mp h).2.2
def qH{bs:As}:B7 H (bs++u) O=B7 H bs (O++u.filterMap id):=by
 funext b
 delta B7;have:(b∈O\/U b∈bs++u)↔(b∈O++u.filterMap id\/U b∈bs):=by
  simp only[jU,zl];constructor;rintro(h|h|h);exact .inl (.inl h);exact .inr h;exact .inl (.inr ⟨_,h,rfl⟩);rintro((h|⟨x,h,e⟩)|h);exact .inl h;subst e;exact .inr (.inr h);exact .inr (.inl h)
 by_cases c:b∈O\/U b∈bs++u;rw[t2 c,t2 (this.mp c)];rw[s9 c,s9 (λz=>c (this.mpr z))]
def Cell(u:HO):Prop:=(∃xs,u=.lst xs)\/(∃kvs,u=.dK kvs)\/∃C dx fv,u=.ins C dx fv
abbrev Cl:={u:HO // Cell u}
def Cl.l(xs:List V):Cl:=⟨.lst xs,.inl ⟨xs,rfl⟩⟩
def Cl.d(kvs:List (Key×V)):Cl:=⟨.dK kvs,.inr (.inl ⟨kvs,rfl⟩)⟩
def Cl.i(C dx:Addr)(fv:List (Str×V)):Cl:=⟨.ins C dx fv,.inr (.inr ⟨C,dx,fv,rfl⟩)⟩
def Gp(K:y7)(Hv:Hp):List (Key×V)->List (Str×f7)->Prop:=Paired λ(p:Key×V) (q:Str×f7)=>p.1=.inr q.1/\Dt K Hv p.2 q.2
theorem Gp.same{K:y7}{H H':Hp}{a:List (Key×V)}{es:List (Str×f7)}(e:v8 H H')(h:Gp K H a es):Gp K H' a es:=by
 induction h with
 |nil=>exact .nil
 |cons h t b=>exact .cons ⟨h.1,h.2.same e⟩ b
inductive R1(K:y7)(Hv H:Hp):List (Str×V)->List (Str×PF)->List Addr->Prop
 |nil:R1 K Hv H [] [] []
 |dat {n x d fv fs R}:Dt K Hv x d->R1 K Hv H fv fs R->R1 K Hv H ((n,x)::fv) ((n,.dat d)::fs) R
 |own {n a xs l fv fs R}:H a=U (.lst xs)->C7 K Hv xs l->a∉R->R1 K Hv H fv fs R->R1 K Hv H ((n,.ref a)::fv) ((n,.own l)::fs) (a::R)
 |dct {n a kvs es fv fs R}:H a=U (.dK kvs)->Gp K Hv kvs es->a∉R->R1 K Hv H fv fs R->R1 K Hv H ((n,.ref a)::fv) ((n,.dct es)::fs) (a::R)
def mR(K:y7)(Hv H:Hp)(v:Addr)(R:List Addr):OD->Prop
 | .dct es=>∃kvs,R=[v]/\H v=U (.dK kvs)/\Gp K Hv kvs es
 | .ins nm fs=>∃C dx fv R',R=v::R'/\fR K aA nm=U (U (.ref C))/\H v=U (.ins C dx fv)/\R1 K Hv H fv fs R'
 | .seq Uf fs=>∃fv R',R=v::R'/\v∉R'/\H v=U (.lst (fv.map (·.2)))/\R1 K Hv H fv fs R'
 | .seq U' fs=>∃fv,Hv v=U (.tup (fv.map (·.2)))/\R1 K Hv H fv fs R
section
variable{K:y7}
theorem R1.same{Hv:Hp}{Hv':Hp}{H:Hp}{H':Hp}{R:List Addr}{fv:List (Str×V)}{fs:List (Str×PF)}(e:v8 Hv Hv')(h:R1 K Hv H fv fs R):(∀b∈R,∀o,H b=U o->H' b=U o)->R1 K Hv' H' fv fs R:=by
 induction h with
 |nil=>exact λ_=>.nil
 |dat j t c=>exact λa=>.dat (j.same e) (c a)
 |own f g i t c=>exact λa=>.own (a _ C9 _ f) (g.same e) i (c λb d=>a b (C4 _ d))
 |dct f g i t c=>exact λa=>.dct (a _ C9 _ f) (g.same e) i (c λb d=>a b (C4 _ d))
def R1.at(h:R1 K q H j9 i4 O):∀b∈O,∃u:HO,((∃xs,u=.lst xs)\/∃e,u=.dK e)/\H b=U u:=by
 induction h with
 |nil=>exact λb a=>absurd a B9
 |dat i t c=>exact c
 |own d f g t c =>
  intro b a;rcases List.mem_cons.mp a with rfl|a
  exact⟨_,.inl ⟨_,rfl⟩,d⟩;exact c b a
 |dct d f g t c =>
  intro b a;rcases List.mem_cons.mp a with rfl|a
  exact⟨_,.inr ⟨_,rfl⟩,d⟩;exact c b a
theorem mR.same{Hv:Hp}{Hv':Hp}{H:Hp}{H':Hp}{v:Addr}{R:List Addr}{c:OD}(e:v8 Hv Hv')(f:∀b∈R,∀o,H b=U o->H' b=U o)(h:mR K Hv H v R c):mR K Hv' H' v R c:=by
 cases c with
 |dct n=>obtain⟨k,rfl,a,d⟩:=h;exact⟨k,rfl,f _ C9 _ a,d.same e⟩
 |ins p fs =>
  obtain⟨C,m,g,l,rfl,j,a,d⟩:=h;exact⟨C,m,g,l,rfl,j,f _ C9 _ a,d.same e λb i=>f b (C4 _ i)⟩
 |seq b fs =>
  cases b with
  |true =>
   obtain⟨g,l,rfl,j,a,d⟩:=h;exact⟨g,l,rfl,j,f _ C9 _ a,d.same e λb i=>f b (C4 _ i)⟩
  |false=>obtain⟨g,a,d⟩:=h;exact⟨g,e _ _ a,d.same e f⟩
theorem mR.at{Hv:Hp}{H:Hp}{v:Addr}{R:List Addr}{c:OD}(h:mR K Hv H v R c):∀b∈R,∃u:Cl,H b=U u.1:=by
 cases c with
 |dct q =>
  obtain⟨n,rfl,j,f⟩:=h;intro b a;rw[mem_singleton.mp a];exact⟨Cl.d n,j⟩
 |ins r fs =>
  obtain⟨C,o,k,m,rfl,p,j,f⟩:=h;intro b a;rcases List.mem_cons.mp a with rfl|a
  exact⟨Cl.i C o k,j⟩;obtain⟨u,h|h,e⟩:=f.at b a;exact⟨⟨u,.inl h⟩,e⟩;exact⟨⟨u,.inr (.inl h)⟩,e⟩
 |seq t fs =>
  have g:∀{k m},R1 K Hv H k fs m->∀b∈m,∃u:Cl,H b=U u.1:=λf b a=>by
   obtain⟨u,h|h,e⟩:=f.at b a;exact⟨⟨u,.inl h⟩,e⟩;exact⟨⟨u,.inr (.inl h)⟩,e⟩
  cases t with
  |true =>
   obtain⟨k,m,rfl,p,j,f⟩:=h;intro b a;rcases List.mem_cons.mp a with rfl|a
   exact⟨Cl.l _,j⟩;exact g f b a
  |false=>obtain⟨k,j,f⟩:=h;exact g f
def HY{es:List (Str×f7)}(h:Gp K H p4 es):p4=((es.map (·.1)).map gY).zip (p4.map (·.2))/\C7 K H (p4.map (·.2)) (es.map (·.2)):=by
 induction h with
 |nil=>exact⟨rfl,.nil⟩
 | @cons p q c d h t b =>
  refine⟨?_,.cons h.2 b.2⟩;rw[C6,C6,C6,lr,<-b.1,<-h.1]
def R1.dts(h:R1 K q H j9 i4 O)(e:v8 q i0)(a:∀b∈O,∀o,H b=U o->i0 b=U o):j9=(i4.map (·.1)).zip (j9.map (·.2))/\C7 K i0 (j9.map (·.2)) (i4.map λf=>f.2.d):=by
 induction h with
 |nil=>exact⟨rfl,.nil⟩
 |dat p t c =>
  obtain⟨g,i⟩:=c a;refine⟨?_,.cons (p.same e) i⟩;rw[C6,C6,lr,<-g]
 |own l j n t c =>
  obtain⟨g,i⟩:=c λb k=>a b (C4 _ k);refine⟨?_,.cons (.lst (N5.of (a _ C9 _ l)) (j.same e)) i⟩;rw[C6,C6,lr,<-g]
 |dct l j n t c =>
  obtain⟨g,i⟩:=c λb k=>a b (C4 _ k);obtain⟨m,k2⟩:=HY j;refine⟨?_,.cons (.dct (a _ C9 _ l) m (k2.same e)) i⟩;rw[C6,C6,lr,<-g]
def mR.dt{c:OD}(h:mR K q H z O c)(e:v8 q i0)(g:∀b∈O,∀o,H b=U o->i0 b=U o):Dt K i0 (.ref z) c.d:=by
 cases c with
 |dct v =>
  obtain⟨m,rfl,a,f⟩:=h;obtain⟨i,k2⟩:=HY f;exact .dct (g _ C9 _ a) i (k2.same e)
 |ins r fs =>
  obtain⟨C,p,k,n,rfl,l,a,f⟩:=h;obtain⟨i,k2⟩:=f.dts e λb j=>g b (C4 _ j);exact .ins l (g _ C9 _ a) i k2
 |seq b fs =>
  cases b with
  |true =>
   obtain⟨k,n,rfl,l,a,f⟩:=h;obtain⟨i,k2⟩:=f.dts e λb j=>g b (C4 _ j);exact .lst (N5.of (g _ C9 _ a)) k2
  |false =>
   obtain⟨k,a,f⟩:=h;obtain⟨i,k2⟩:=f.dts e g;exact .tup (W4.of (e _ _ a)) k2
end
def cP(K:y7)(O:List Addr)(as:As)(H:Hp)(si:Option (Option V))(rg:List Addr):PV->Prop
 | .dat d=>∃v,si=U (U v)/\Dt K (B7 H as O) v d
 | .own l=>∃a xs,si=U (U (.ref a))/\a∈rg/\H a=U (.lst xs)/\C7 K (B7 H as O) xs l
 | .ob w c=>∃v R,si=U (U (.ref v))/\(w=J\/w=U v)/\(∀b∈R,b∈rg)/\mR K (B7 H as O) H v R c
structure DS(K:y7)(O:List Addr)(E1:Hp)(as:As)(σ:St)(H:Hp)(ds:Ds):Prop where
 ls:σ.length=ds.length
 same:v8 E1 H
 new:∀a,U a∈as->E1 a=J/\∃u:Cl,H a=U u.1
 fx:∀a∈O,∃o,E1 a=U o
 iU:∃rg:Nat->List Addr,(∀i b,b∈rg i->U b∈as)/\(∀i j b,b∈rg i->b∈rg j->i=j)/\∀(i:Nat) (pv:PV),ds[i]? = U (U pv)->cP K O as H σ[i]? (rg i) pv
def Ky(K:y7)(O:List Addr)(as:As)(H:Hp)(si:Option (Option V)):PV->Prop
 | .dat d=>∃v,si=U (U v)/\Dt K (B7 H as O) v d
 | .own l=>∃a xs,si=U (U (.ref a))/\U a∈as/\H a=U (.lst xs)/\C7 K (B7 H as O) xs l
 | .ob w c=>∃v R,si=U (U (.ref v))/\(w=J\/w=U v)/\(∀b∈R,U b∈as)/\mR K (B7 H as O) H v R c
def DS.slot(S:DS g O q u B H L)(i:Nat)(pv:PV)(h:L[i]? = U (U pv)):Ky g O u H B[i]? pv:=by
 obtain⟨r,j,k,n⟩:=S.iU;have z:=n i pv h;cases pv with
 |dat d=>exact z
 |own l=>obtain⟨a,m,e,K,f⟩:=z;exact⟨a,m,e,j i a K,f⟩
 |ob w c=>obtain⟨v,R,e,K,f,p⟩:=z;exact⟨v,R,e,K,λb o=>j i b (f b o),p⟩
def cP.AS{K:List Addr}(h:cP g O u H p7 j8 i6)(e:v8 (B7 H u O) (B7 q j5 O))(n:∀b∈j8,∀o,H b=U o->q b=U o)(p:∀b∈j8,b∈K):cP g O j5 q p7 K i6:=by
 cases i6 with
 |dat d=>obtain⟨v,f,z⟩:=h;exact⟨v,f,z.same e⟩
 |own l=>obtain⟨a,r,f,j,i,z⟩:=h;exact⟨a,r,f,p a j,n a j _ i,z.same e⟩
 |ob w c=>obtain⟨v,R,f,j,i,z⟩:=h;exact⟨v,R,f,j,λb m=>p b (i b m),z.same e λb m=>n b (i b m)⟩
def aw(fr:Bool)(as:As):As:=if fr=Uf then as else[]
def qr(h:U z∈aw I u):U z∈u:=by
 unfold aw at h
 simp_all
def RX(K:y7)(O:List Addr)(va:As)(H H':Hp)(v:V):PV->Prop
 | .dat d=>Dt K (B7 H' va O) v d
 | .own l=>∃a xs,v=.ref a/\H a=J/\H' a=U (.lst xs)/\C7 K (B7 H' (U a::va) O) xs l
 | .ob w c=>∃o R,v=.ref o/\(w=J\/w=U o)/\(∀b∈R,H b=J)/\mR K (B7 H' (R.map U++va) O) H' o R c
structure ry(H:Hp)(va:As)(O:List Addr):Prop where
 o:∀a∈O,∃u,H a=U u
 a:∀a,U a∈va->∃u,H a=U u
section
variable{K:y7}
def ry.same(D:ry H u O)(e:v8 H q):ry q u O:=⟨λa h=>let ⟨b,z⟩:=D.o a h;⟨b,e _ _ z⟩,λa h=>let ⟨b,z⟩:=D.a a h;⟨b,e _ _ z⟩⟩
def DS.dm{fr:Bool}(S:DS K O q u B H L):ry H (aw fr u) O:=⟨λa h=>let ⟨σ,z⟩:=S.fx a h;⟨σ,S.same _ _ z⟩,λa h=>let ⟨_,z⟩:=(S.new a (qr h)).2;⟨_,z⟩⟩
def DS.nO(S:DS K O q u B H L)(h:U z∈u):z∉O:=λσ=>by obtain⟨o,e⟩:=S.fx z σ;rw[(S.new z h).1]at e;exact nE e
def DS.grow(S:DS K O q u B H L)(e:v8 H i0):DS K O q u B i0 L:=
 ⟨S.ls,S.same.trans e,λa h=>⟨(S.new a h).1,let ⟨o,z⟩:=(S.new a h).2;⟨o,e _ _ z⟩⟩,S.fx,let ⟨d,g,c,f⟩:=S.iU;⟨d,g,c,λi pv h=>(f i pv h).AS (T8 e) (λb _ o z=>e _ _ z) λ_ z=>z⟩⟩
def RX.grow(h:RX K O u H q a8 i6)(e:v8 q i0):RX K O u H i0 a8 i6:=by
 cases i6 with
 |dat d=>exact Dt.same (T8 e) h
 |own l=>obtain⟨a,j,g,f,i,h⟩:=h;exact⟨a,j,g,f,e _ _ i,h.same (T8 e)⟩
 |ob w c=>obtain⟨o,R,g,f,i,h⟩:=h;exact⟨o,R,g,f,i,h.same (T8 e) λb _ v z=>e _ _ z⟩
def RX.back(h:RX K O u H q a8 i6)(e:v8 i0 H):RX K O u i0 q a8 i6:=by
 cases i6 with
 |dat d=>exact h
 |own l=>obtain⟨a,j,g,f,i,h⟩:=h;exact⟨a,j,g,e.free f,i,h⟩
 |ob w c=>obtain⟨o,R,g,f,i,h⟩:=h;exact⟨o,R,g,f,λb k=>e.free (i b k),h⟩
def mR.aw{c:OD}(h:mR K (B7 H (j8.map U++u) O) H z j8 c)(n:∀b∈j8,b∉O/\U b∉u):Dt K (B7 H u O) (.ref z) c.d:=
 h.dt (aR (v8.refl _) λb o=>L9 _ o) λb a R o=>F4.mpr ⟨(n b a).1,(n b a).2,o⟩
def RX.dt(h:RX K O u H q a8 i6)(D:ry H u O):Dt K (B7 q u O) a8 i6.d:=by
 have f:∀a,H a=J->a∉O/\U a∉u:=λa e=>by
  refine⟨λz=>?_,λz=>?_⟩;obtain⟨v,z⟩:=D.o a z;lia;obtain⟨v,z⟩:=D.a a z;lia
 cases i6 with
 |dat d=>exact h
 |ob w c=>obtain⟨o,R,rfl,_,g,h⟩:=h;exact h.aw λb i=>f b (g b i)
 |own l =>
  obtain⟨a,j,rfl,e,g,h⟩:=h;exact .lst (N5.of (F4.mpr ⟨(f a e).1,(f a e).2,g⟩)) (h.same (aR (v8.refl _) λb z=>C4 _ z))
def RX.less(h:RX K O u H q a8 i6)(s:∀b,U b∈j5->U b∈u):RX K O j5 H q a8 i6:=by
 cases i6 with
 |dat d=>exact Dt.same (aR (v8.refl _) s) h
 |ob w c =>
  obtain⟨o,R,rfl,e,f,h⟩:=h;refine⟨o,R,rfl,e,f,h.same (aR (v8.refl _) λb z=>?_) (λ_ _ _ z=>z)⟩
  rcases List.mem_append.mp z with z|z
  exact U7 _ z;exact L9 _ (s b z)
 |own l =>
  obtain⟨a,i,rfl,e,f,h⟩:=h;refine⟨a,i,rfl,e,f,h.same (aR (v8.refl _) λb z=>?_)⟩
  rcases List.mem_cons.mp z with z|z
  rw[z];exact C9;exact C4 _ (s b z)
def nL:v8 (B7 H u O) (B7 H (aw I u) O):=aR (v8.refl _) λ_ h=>qr h
def Flat:f7->Bool
 | .none=>Uf
 | .bool _=>Uf
 | .int _=>Uf
 | .str _=>Uf
 |_=>U'
def C7.append{ys:List V}{es:List f7}(h:C7 K H M S)(k:C7 K H ys es):C7 K H (M++ys) (S++es):=by
 induction S generalizing M with
 |nil=>cases h;exact k
 |cons _ _ i=>cases h with
  |cons a t=>exact .cons a (i t)
def C7.get'(h:C7 K H M S)(e:M[m]? = U a8):∃d,S[m]? = U d/\Dt K H a8 d:=by
 induction S generalizing M m with
 |nil=>cases h;exact nE e
 |cons _ _ j=>cases h with
  |cons a t=>cases m with
   |zero=>cases e;exact⟨_,rfl,a⟩
   |succ m=>exact j t e
theorem C7.take{H:Hp}:∀{xs:List V} {ds:List f7} (n:Nat),C7 K H xs ds->C7 K H (xs.take n) (ds.take n)
 |_,_,0,_=>by simp;exact .nil
 |_,_,_+1,.nil=>by simp;exact .nil
 |_,_,n+1,.cons h t=>by simp only[List.take_succ_cons];exact .cons h (C7.take n t)
theorem C7.drop{H:Hp}:∀{xs:List V} {ds:List f7} (n:Nat),C7 K H xs ds->C7 K H (xs.drop n) (ds.drop n)
 |_,_,0,h=>by simpa using h
 |_,_,_+1,.nil=>by simp;exact .nil
 |_,_,n+1,.cons h t=>by simp only[List.drop_succ_cons];exact C7.drop n t
theorem C7.reverse{H:Hp}{xs:List V}{ds:List f7}(h:C7 K H xs ds):C7 K H xs.reverse ds.reverse:=by
 induction ds generalizing xs with
 |nil=>cases h;exact .nil
 |cons _ _ i=>cases h with
  |cons a t =>
   rw[zk,zk];exact(i t).append (.cons a .nil)
theorem C7.set{H:Hp}{xs:List V}{ds:List f7}(i:Nat){x:V}{d:f7}(h:C7 K H xs ds)(k:Dt K H x d):C7 K H (xs.set i x) (ds.set i d):=by
 induction ds generalizing xs i with
 |nil=>cases h;exact .nil
 |cons _ _ j=>cases h with
  |cons a t=>cases i with
   |zero=>exact .cons k t
   |succ i=>exact .cons a (j i t)
end
def TX(K:y7)(fr:Bool)(te:TE)(F:DV):Prop:=
 ∀(O:List Addr) (E1:Hp) (as:As) (σ:St) (H:Hp) (ds:Ds) (pv:PV) (Q:VK),DS K O E1 as σ H ds->F ds=U pv->(∀v H',v8 H H'->RX K O (aw fr as) H H' v pv->Q v H')->te σ H Q
structure PX(X:Cx)(fr:Bool)(e:Expr)(te:TE)(F:DV):Prop where
 p:PE X e te
 t:TX X.K fr te F
def sM(K:y7)(tt:TT)(F:DB):Prop:=
 ∀(O:List Addr) (E1:Hp) (as:As) (σ:St) (H:Hp) (ds:Ds) (b:Bool) (Q:Bool->Hp->Prop),DS K O E1 as σ H ds->F ds=U b->(∀H',v8 H H'->Q b H')->tt σ H Q
structure lV(X:Cx)(e:Expr)(tt:TT)(F:DB):Prop where
 p:PT X e tt
 t:sM X.K tt F
structure wj(X:Cx)(e:Expr)(tt:TT)(F:DB):Prop where
 p:PW X e tt
 t:sM X.K tt F
def TAX(K:y7)(fr:Bool)(t:TA)(F:DL):Prop:=
 ∀(O:List Addr) (E1:Hp) (as:As) (σ:St) (H:Hp) (ds:Ds) (l:List f7) (Q:List V->Hp->Prop),DS K O E1 as σ H ds->F ds=U l->(∀vs H',v8 H H'->C7 K (B7 H' (aw fr as) O) vs l->Q vs H')->t σ H Q
structure et(X:Cx)(fr:Bool)(es:List Expr)(t:TA)(F:DL):Prop where
 p:PA X es t
 t:TAX X.K fr t F
def dB(K:y7)(r:R2)(f:f7->f7->Option PV):Prop:=
 ∀(O:List Addr) (va:As) (H:Hp) (x y:V) (d e:f7) (pv:PV) (Q:VK),ry H va O->Dt K (B7 H va O) x d->Dt K (B7 H va O) y e->f d e=U pv->(∀v H',v8 H H'->RX K O va H H' v pv->Q v H')->r x y H Q
def R1X(K:y7)(r:V->Hp->VK->Prop)(f:f7->Option PV):Prop:=
 ∀(O:List Addr) (va:As) (H:Hp) (x:V) (d:f7) (pv:PV) (Q:VK),ry H va O->Dt K (B7 H va O) x d->f d=U pv->(∀v H',v8 H H'->RX K O va H H' v pv->Q v H')->r x H Q
def oG(K:y7)(r:List V->Hp->VK->Prop)(f:FV):Prop:=
 ∀(O:List Addr) (va:As) (H:Hp) (xs:List V) (ds:List f7) (pv:PV) (Q:VK),ry H va O->C7 K (B7 H va O) xs ds->f ds=U pv->(∀v H',v8 H H'->RX K O va H H' v pv->Q v H')->r xs H Q
noncomputable def t6(i:Nat):DV:=λds=>match ds[i]? with
 |some (U (.dat d))=>U (.dat d)
 |_=>J
noncomputable def S9(i:Nat):DV:=λds=>match ds[i]? with
 |some (U pv)=>U (.dat pv.d)
 |_=>J
noncomputable def fC(d:f7):DV:=λ_=>U (.dat d)
section
set_option tactic.hygienic true in
def ZT(i:Nat)(h:PE c e (Q7 i)):PX c I e (Q7 i) (t6 i):=⟨h,by
 intro O b k j H g pv Q S a q;unfold t6 at a;split at a;rename_i d f;cases a;obtain⟨v,X,h⟩:=S.slot i _ f;exact⟨v,X,q v H (v8.refl H) (h.same nL)⟩
 . exact nE a⟩
set_option tactic.hygienic true in
def WL(i:Nat)(h:PE c e (Q7 i)):PX c U' e (Q7 i) (S9 i):=⟨h,by
 intro O m x y H t pv Q S g q;unfold S9 at g;split at g
 . rename_i d n;cases g;have k:=S.slot i _ n;cases d with
   |dat d =>
    obtain⟨v,f,h⟩:=k;exact⟨v,f,q v H (v8.refl H) (h.same nL)⟩
   |own l =>
    obtain⟨a,s,f,j,r,h⟩:=k;exact⟨_,f,q _ H (v8.refl H) (Dt.lst (N5.of (F4.mpr ⟨S.nO j,by simp[aw],r⟩)) (h.same nL))⟩
   |ob w X =>
    obtain⟨o,R,f,_,j,h⟩:=k;exact⟨_,f,q _ H (v8.refl H) (h.dt nL λb p u z=>F4.mpr ⟨S.nO (j b p),by simp[aw],z⟩)⟩
 . exact nE g⟩
def CO(h:PE c e (tC a8))(hd:∀H,Dt c.K H a8 e9):PX c I e (tC a8) (fC e9):=⟨h,by intro O a g f H X pv Q S b q;cases b;exact q a8 H (v8.refl H) (hd _)⟩
def a0b{j}:PX c I (.Constant (.int a2) j p) (tC (.int a2)) (fC (.int a2)):=CO a0w λ_=>.int a2
def a2B{i:Bool}{j}:PX c I (.Constant (.bool i) j p) (tC (.bl i)) (fC (.bool i)):=CO a2G λ_=>.bl i
def ZV{j}:PX c I (.Constant (.str o) j p) (tC (.str o)) (fC (.str o)):=CO a0r λ_=>.str o
def ZZ{j}:PX c I (.Constant .none j p) (tC .non) (fC .none):=CO a0u λ_=>.non
def a3e(F:DV):DV:=λds=>(F ds).bind λpv=>if Flat pv.d=Uf then U (.dat pv.d)else J
noncomputable def u4(f:f7->f7->Option PV)(Fa Fb:DV):DV:=λds=>(Fa ds).bind λx=>(Fb ds).bind λy=>f x.d y.d
def BL(p:dB c.K k8 k9)(s:PX c I e G r)(z:PX c I E c6 d6):TX c.K I (sD k8 G c6) (u4 k9 r d6):=by
 intro O X j k H i pv Q S a q;obtain⟨x,h1,a⟩:=t4 a;obtain⟨y,h2,a⟩:=t4 a;refine s.t O X j k H i x _ S h1 λv B g m=>?_;refine z.t O X j k B i y _ (S.grow g) h2 λu n h l=>?_;refine p O (aw I j) n v u x.d y.d pv Q ((S.grow g).grow h).dm ((m.grow h).dt S.dm) (l.dt (S.grow g).dm) a λw C A o=>?_;exact q w C ((g.trans h).trans A) (o.back (g.trans h))
def rG{Fb:DV}{op:Operator}{r:R2}(g:V3 c (aK op) r)(a:dB c.K r k9)(d:PX c I e G d6)(X:PX c I E c6 Fb):PX c I (.BinOp e op E p) (sD r G c6) (u4 k9 d6 Fb):=
 ⟨a2F g d.p X.p,BL a d X⟩
def CN{Fb:DV}{r:R2}(a:V3 c (X5 o7) r)(h:dB c.K r k9)(g:qW o7 E=U')(d:PX c I e G d6)(X:PX c I E c6 Fb):PX c I (.Compare e [o7] [E] p) (sD r G c6) (u4 k9 d6 Fb):=
 ⟨Xx a d.p X.p g,BL h d X⟩
def a2z{Fb:DV}{r:R2}(g:wm c r)(a:dB c.K r k9)(d:PX c I e G d6)(X:PX c I E c6 Fb)(hs:qN E):PX c I (.Subscript e E p) (sD r G c6) (u4 k9 d6 Fb):=
 ⟨Js g d.p X.p hs,BL a d X⟩
noncomputable def gS(f:f7->Option PV)(Fa:DV):DV:=λds=>(Fa ds).bind λx=>f x.d
def a2x{op:UnaryOp}{f:V->Hp->VK->Prop}(n:VQ c (unaryOp op) f)(l:R1X c.K f p8)(g:PX c I e G r):PX c I (.UnaryOp op e p) (tUn f G) (gS p8 r):=⟨a2D n g.p,by
 intro O b i s H h pv Q S X q;obtain⟨x,h1,X⟩:=t4 X;refine g.t O b i s H h x _ S h1 λv o a j=>?_;refine l O (aw I i) o v x.d pv Q (S.grow a).dm (j.dt S.dm) X λw u m k=>?_
 exact q w u (a.trans m) (k.back a)⟩
def Oh:f7->Option Bool
 | .bool b=>U b
 |_=>J
noncomputable def A1(F:DV):DB:=λds=>(F ds).bind λx=>Oh x.d
def ve(h:TX c.K I G r):sM c.K (tB G) (A1 r):=by
 intro O e j k H f b Q S a q;obtain⟨x,h1,a⟩:=t4 a;refine h O e j k H f x _ S h1 λv i g l=>?_
 have d:=l.dt S.dm;generalize x.d=z at d a;cases z with
 |bool X=>cases a;cases d;exact⟨_,rfl,q i g⟩
 |_=>exact nE a
def WY{fr:Bool}(h:PX c fr e G r)(b:autoParam (∀a,isTrue e c.env a=(do let v <- a;dS e.pos;holding [v] (truthy v))) X0):lV c e (tB G) (A1 r):=⟨a0g h.p b,ve h.t⟩
def iV{fr:Bool}{Fb:DV}{r:R2}(a:V3 c (X5 o7) r)(h:dB c.K r k9)(g:qW o7 E=U')(d:PX c fr e G d6)(X:PX c fr E c6 Fb):lV c (.Compare e [o7] [E] p) (BN (sD r G c6)) (A1 (u4 k9 d6 Fb)):=
 ⟨Xc a d.p X.p g,ve (BL h d X)⟩
noncomputable def ue(F:DB):DB:=λds=>(F ds).bind λb=>U (!b)
noncomputable def fO(F G:DB):DB:=λds=>(F ds).bind λb=>if b=Uf then G ds else U U'
noncomputable def sL(F G:DB):DB:=λds=>(F ds).bind λb=>if b=Uf then U Uf else G ds
def Wj(h:sM c.K b3 a9):sM c.K (QS b3) (ue a9):=by intro O a f e H d b Q S X q;obtain⟨x,h1,X⟩:=t4 X;cases X;exact h O a f e H d x _ S h1 q
def Wl{tu:TT}{Fu:DB}(h:sM c.K b3 a9)(k:sM c.K tu Fu):sM c.K (QU b3 tu) (fO a9 Fu):=by
 intro O a i g H e b Q S X q;obtain⟨x,h1,X⟩:=t4 X;refine h O a i g H e x _ S h1 λf d=>?_
 cases x with
 |true=>exact k O a i g f e b Q (S.grow d) X λl j=>q l (d.trans j)
 |false=>cases X;exact q f d
def Zf{tu:TT}{Fu:DB}(h:sM c.K b3 a9)(k:sM c.K tu Fu):sM c.K (Zm b3 tu) (sL a9 Fu):=by
 intro O a i g H e b Q S X q;obtain⟨x,h1,X⟩:=t4 X;refine h O a i g H e x _ S h1 λf d=>?_
 cases x with
 |false=>exact k O a i g f e b Q (S.grow d) X λl j=>q l (d.trans j)
 |true=>cases X;exact q f d
def WZ(h:lV c e b3 a9):lV c (.UnaryOp .Not e p) (QS b3) (ue a9):=⟨a0h h.p,Wj h.t⟩
def RG(h:lV c e b3 a9):wj c (.BoolOp .And [e] p) b3 a9:=⟨pw_and1 h.p,h.t⟩
def WW(h:lV c e b3 a9):wj c (.BoolOp .Or [e] p) b3 a9:=⟨pw_or1 h.p,h.t⟩
def WX{tu:TT}{Fu:DB}(h:lV c e b3 a9)(k:wj c (.BoolOp .And (E::Z) p) tu Fu):wj c (.BoolOp .And (e::E::Z) p) (QU b3 tu) (fO a9 Fu):=⟨pw_and h.p k.p,Wl h.t k.t⟩
def a0f{tu:TT}{Fu:DB}(h:lV c e b3 a9)(k:wj c (.BoolOp .Or (E::Z) p) tu Fu):wj c (.BoolOp .Or (e::E::Z) p) (Zm b3 tu) (sL a9 Fu):=⟨pw_or h.p k.p,Zf h.t k.t⟩
theorem wj.pt(h:wj c e b3 a9):lV c e b3 a9:=⟨PW.pt h.p,h.t⟩
noncomputable def kL(Fa Fb:DV):DV:=λds=>(A1 Fa ds).bind λb=>if b=Uf then Fb ds else U (.dat (.bool U'))
noncomputable def Iq(Fa Fb:DV):DV:=λds=>(A1 Fa ds).bind λb=>if b=Uf then U (.dat (.bool Uf))else Fb ds
noncomputable def Ec(Fa:DV):DV:=λds=>(A1 Fa ds).bind λb=>U (.dat (.bool !b))
def ZW{op}(h:PX c I e G r):PX c I (.BoolOp op [e] p) G r:=⟨a0s h.p,h.t⟩
def a0e(h:PX c I e G r)(k:PX c I (.BoolOp .And (E::Z) p) c6 d6):PX c I (.BoolOp .And (e::E::Z) p) (Vh G c6) (kL r d6):=⟨a0y h.p k.p,by
 intro O X j i H f pv Q S d q;obtain⟨x,h1,d⟩:=t4 d;refine ve h.t O X j i H f x _ S h1 λg a=>?_
 cases x with
 |true=>exact k.t O X j i g f pv Q (S.grow a) d λv m l b=>q v m (a.trans l) (b.back a)
 |false=>cases d;exact q _ g a (Dt.bl _)⟩
def a2y(h:PX c I e G r)(k:PX c I (.BoolOp .Or (E::Z) p) c6 d6):PX c I (.BoolOp .Or (e::E::Z) p) (Zl G c6) (Iq r d6):=⟨a2E h.p k.p,by
 intro O X j i H f pv Q S d q;obtain⟨x,h1,d⟩:=t4 d;refine ve h.t O X j i H f x _ S h1 λg a=>?_
 cases x with
 |false=>exact k.t O X j i g f pv Q (S.grow a) d λv m l b=>q v m (a.trans l) (b.back a)
 |true=>cases d;exact q _ g a (Dt.bl _)⟩
def ZY(h:PX c I e G r):PX c I (.UnaryOp .Not e p) (Vd G) (Ec r):=⟨a0t h.p,by intro O b i g H d pv Q S X q;obtain⟨x,h1,X⟩:=t4 X;cases X;exact ve h.t O b i g H d x _ S h1 λa f=>q _ a f (Dt.bl _)⟩
noncomputable def fN(Ft:DB)(Fa Fb:DV):DV:=λds=>(Ft ds).bind λb=>if b=Uf then Fa ds else Fb ds
def a2A(n:lV c b7 b3 a9)(h:PX c I e G r)(k:PX c I E c6 d6):PX c I (.IfExp b7 e E p) (tIf b3 G c6) (fN a9 r d6):=⟨Sr n.p h.p k.p,by
 intro O d m l H g pv Q S f q;obtain⟨x,h1,f⟩:=t4 f;refine n.t O d m l H g x _ S h1 λo X=>?_
 cases x with
 |true=>exact h.t O d m l o g pv Q (S.grow X) f λv j i a=>q v j (X.trans i) (a.back X)
 |false=>exact k.t O d m l o g pv Q (S.grow X) f λv j i a=>q v j (X.trans i) (a.back X)⟩
def eU(f g:f7->f7->Option PV)(Fa Fb Fc:DV):DV:=λds=>(Fa ds).bind λx=>(Fb ds).bind λy=>(f x.d y.d).bind λr=>(Oh r.d).bind λk =>
 if k=Uf then(Fc ds).bind λz=>g y.d z.d else U (.dat (.bool U'))
def QI{tc:TE}{Fc:DV}{B:R2}{g:f7->f7->Option PV}(M:dB c.K k8 k9)(s:dB c.K B g)(N:PX c I e G r)(hb:PX c I E c6 d6)(P:PX c I b7 tc Fc):TX c.K I (Cr k8 B G c6 tc) (eU k9 g r d6 Fc):=by
 intro O h o A H j pv Q S a q;unfold eU at a;cases h1:r j with
 |none=>simp_all
 |some x =>
  cases h2:d6 j with
  |none=>rw[h1,h2]at a;exact nE a
  |some y =>
   rw[h1,h2]at a;simp only[z9]at a;refine N.t O h o A H j x _ S h1 λv H1 l Y=>?_;refine hb.t O h o A H1 j y _ (S.grow l) h2 λu Z m f=>?_;have n:=(S.grow l).grow m;have F:=f.dt (S.grow l).dm;obtain⟨w,h3,a⟩:=t4 a;refine M O (aw I o) Z v u x.d y.d w _ n.dm ((Y.grow m).dt S.dm) F h3 λz C i X=>?_
   have D:=X.dt n.dm;obtain⟨k,h4,a⟩:=t4 a;have hk:z=.bl k:=by
    generalize w.d=ww at D h4;cases ww with
    |bool b7=>cases h4;cases D;rfl
    |_=>exact nE h4
   refine⟨k,hk,?_⟩;cases k with
   |false =>
    cases a;exact q _ C ((l.trans m).trans i) (Dt.bl _)
   |true =>
    obtain⟨b,h5,a⟩:=t4 a;refine P.t O h o A C j b _ (n.grow i) h5 λV W p L=>?_;refine s O (aw I o) W u V y.d b.d pv Q ((n.grow i).grow p).dm (F.same (T8 (i.trans p))) (L.dt (n.grow i).dm) a λT H5 e5 R=>?_;exact q T H5 ((((l.trans m).trans i).trans p).trans e5) (R.back (((l.trans m).trans i).trans p))
def LL{fr:Bool}{tc:TE}{Fb Fc:DV}{d:CmpOp}{r:R2}{g:f7->f7->Option PV}(m:V3 c (X5 o7) r)(o:dB c.K r k9)(i:V3 c (X5 d) k8)(X:dB c.K k8 g)(k:PX c fr e G d6)(j:PX c fr E c6 Fb)(l:PX c fr b7 tc Fc)(n:lastMarks [o7,d] [E,b7]=U':=by with_unfolding_all rfl):lV c (.Compare e [o7,d] [E,b7] p) (BN (Cr r k8 G c6 tc)) (A1 (eU k9 g d6 Fb Fc)):=⟨RJ m i k.p j.p l.p n,ve (QI o X k j l)⟩
noncomputable def u5:DL:=λ_=>U []
noncomputable def f6(F:DV)(G:DL):DL:=λds=>(F ds).bind λx=>(G ds).bind λl=>U (x.d::l)
def HG:et c I [] nY u5:=⟨qy,by intro O a d e H X l Q S b q;cases b;exact q [] H (v8.refl H) .nil⟩
def Sv(h:PX c I e G r)(k:et c I Z N Y)(hs:autoParam (w4 (e::Z) c.env=(U',eval e c.env)::w4 Z c.env) t8):et c I (e::Z) (jl G N) (f6 r Y):=⟨iW h.p k.p hs,by
 intro O a i g H X l Q S b q;unfold f6 at b;cases h1:r X with
 |none=>simp_all
 |some x =>
  cases h2:Y X with
  |none=>rw[h1,h2]at b;exact nE b
  |some m =>
   rw[h1,h2]at b;cases b;refine h.t O a i g H X x _ S h1 λv s f n=>?_;refine k.t O a i g s X m _ (S.grow f) h2 λt o d j=>?_
   exact q (v::t) o (f.trans d) (.cons ((n.grow d).dt S.dm) j)⟩
def ry.fresh(D:ry H u O)(h:H z=J):z∉O/\U z∉u:=by
 refine⟨λa=>?_,λa=>?_⟩;obtain⟨p,a⟩:=D.o z a;lia;obtain⟨p,a⟩:=D.a z a;lia
def xB(D:ry H u O)(h:H z=J)(hd:C7 g (B7 H u O) M S):RX g O u H (upd H z (.tup M)) (.ref z) (.dat (.tuple S)):=by obtain⟨a,b⟩:=D.fresh h;exact Dt.tup (W4.of (F4.mpr ⟨a,b,O4⟩)) (hd.same (T8 (v8.new h)))
def jr(h:H z=J)(hd:C7 g (B7 H u O) M S):RX g O u H (upd H z (.lst M)) (.ref z) (.own S):=by
 refine⟨z,M,rfl,h,O4,hd.same (fM λb o c d a=>⟨c,λK=>?_,?_⟩)⟩
 . simp_all
 exact v8.new h _ _ a
noncomputable def y4(Fl:DL):DV:=λds=>(Fl ds).bind λl=>if l.length<=1000000 then U (.dat (.tuple l))else J
noncomputable def O6(Fl:DL):DV:=λds=>(Fl ds).bind λl=>if l.length<=1000000 then U (.own l)else J
def pF(h:m<=1000000):m<=F0:=C3 h (by rw[mi];decide)
def ZU{x1}(h:et c I Z N Y):PX c I (.Tuple Z x1 p) (QQ N) (y4 Y):=⟨Mh h.p,by
 intro O b j i H f pv Q S a q;obtain⟨l,h1,a⟩:=t4 a;obtain⟨g,a⟩:=J9 a;cases a;refine h.t O b j i H f l _ S h1 λk m X d=>⟨by rw[d.length];exact pF g,λt e=>?_⟩
 exact q _ _ (X.trans (v8.new e)) (RX.back (xB (S.grow X).dm e d) X)⟩
def a0a(h:et c I Z N Y):PX c I (.List Z p) (Zn N) (O6 Y):=⟨a0v h.p,by
 intro O b j i H f pv Q S a q;obtain⟨l,h1,a⟩:=t4 a;obtain⟨g,a⟩:=J9 a;cases a;refine h.t O b j i H f l _ S h1 λk m e X=>⟨by rw[X.length];exact pF g,λt d=>?_⟩
 exact q _ _ (e.trans (v8.new d)) (RX.back (jr d X) e)⟩
noncomputable def f9(F:FV)(Fl:DL):DV:=λds=>(Fl ds).bind F
def UX(j:oG c.K o2 i7)(h:et c I Z N Y):TX c.K I (xu o2 N) (f9 i7 Y):=by
 intro O a e o H d pv Q S b q;obtain⟨l,h1,b⟩:=t4 b;refine h.t O a e o H d l _ S h1 λk n X g=>?_;refine j O (aw I e) n k l pv Q (S.grow X).dm g b λw p m i=>?_;exact q w p (X.trans m) (i.back X)
def iG{r:List V->Hp->VK->Prop}(l:ae c (.builtin l7) r)(k:oG c.K r i7)(g:Gl c o)(h:c.mg o=J)(i:eL o=U (.builtin l7))(X:et c I (e::Z) N Y)(d:autoParam (o ≠ "__name__") H0)(b:autoParam ((o==("__debug__" : Str))=U') H0)(j:autoParam (w4 (e::Z) c.env=(U',eval e c.env)::w4 Z c.env) t8)(a:autoParam ((H9 A (w4 Z c.env)).any (·.1)=U') t8):PX c I (.Call (.Name o p) (e::Z) [] A) (xu r N) (f9 i7 Y):=⟨CV l g h i X.p d b j a,UX k X⟩
def AW{r:List V->Hp->VK->Prop}(l:ae c (.type l7) r)(k:oG c.K r i7)(g:Gl c o)(h:c.mg o=J)(i:eL o=U (.type l7))(X:et c I (e::Z) N Y)(d:autoParam (o ≠ "__name__") H0)(b:autoParam ((o==("__debug__" : Str))=U') H0)(j:autoParam (w4 (e::Z) c.env=(U',eval e c.env)::w4 Z c.env) t8)(a:autoParam ((H9 A (w4 Z c.env)).any (·.1)=U') t8):PX c I (.Call (.Name o p) (e::Z) [] A) (xu r N) (f9 i7 Y):=⟨Mi l g h i X.p d b j a,UX k X⟩
def G4(K:y7)(F:FV):Sp:=λvs H Q _=>∃(O:List Addr) (ds:List f7) (pv:PV),(∀a∈O,∃u,H a=U u)/\C7 K (B7 H [] O) vs ds/\F ds=U pv/\∀v H',v8 H H'->RX K O [] H H' v pv->Q v H'
def Wh{fr:Bool}(h:et c fr Z N Y):TX c.K fr (rC (G4 c.K i7) [] g8 N) (f9 i7 Y):=by
 intro O k g M H A pv Q S m q;obtain⟨l,h1,m⟩:=t4 m;refine h.t O k g M H A l _ S h1 λt P p I=>?_;have D:=(S.grow p).dm (fr:=fr);rw[bw];have z:∀H,B7 H (aw fr g) O=B7 H [] (O++(aw fr g).filterMap id):=λH=>qH (bs:=[]);refine⟨O++(aw fr g).filterMap id,l,pv,λa i=>?_,by rw[<-z];exact I,m,λv B C r=>q v B (p.trans C) ?_⟩
 . rcases List.mem_append.mp i with i|i
   exact D.o a i;obtain⟨x,G,e⟩:=List.mem_filterMap.mp i;subst e;exact D.a a G
 . cases pv with
   |dat d =>
    have j:Dt c.K (B7 B [] (O++(aw fr g).filterMap id)) v d:=r;rw[<-z]at j;exact j
   |own l =>
    obtain⟨a,F,u,y,s,n⟩:=r;refine⟨a,F,u,p.free y,s,?_⟩;rw[show(U a::aw fr g)=[U a]++aw fr g from rfl,qH];exact n
   |ob w X =>
    obtain⟨o,R,u,y,s,n⟩:=r;refine⟨o,R,u,y,λb L=>p.free (s b L),?_⟩;rw[qH];rw[bw]at n;exact n
def WV(G:bz c.prog c.w c.K c.mg c.base i9 m z d8 P (G4 c.K i7))(i:O9 m c.A)(l:Gl c o)(X:c.mg o=U (.ref z))(n:hP c.K (.ref z)=Uf)(j:Binds c.K d8 P [])(t:Passes i9 c g8)(g:et c I (e::Z) N Y)(b:autoParam ((o==("__debug__" : Str))=U') H0)(h:autoParam (w4 (e::Z) c.env=(U',eval e c.env)::w4 Z c.env) t8)(a:autoParam ((H9 A (w4 Z c.env)).any (·.1)=U') t8):
  PX c I (.Call (.Name o p) (e::Z) [] A) (rC (G4 c.K i7) [] g8 N) (f9 i7 Y):=⟨HF G i l X n j .nil t g.p b h a,Wh g⟩
end
def dP(ds:Ds):Ds:=ds.map (Option.map λpv=>.dat pv.d)
def nJ:U z∉(C2 m J:As):=λb=>by simp_all
def Yi:B7 H (C2 m J) O=B7 H [] O:=by
 funext b
 delta B7;simp
section
variable{K:y7}
def Ky.dP(S:DS K O q u B H L)(h:Ky K O u H p7 i6)(e:∀b,U b∈j5->U b∈u)(j:∀b,(match i6 with | .own _=>p7=U (U (.ref b)) | .ob _ _=>U b∈u|_=>False)->U b∉j5):cP K O j5 H p7 j8 (.dat i6.d):=by
 cases i6 with
 |dat d=>obtain⟨v,f,h⟩:=h;exact⟨v,f,h.same (aR (v8.refl _) e)⟩
 |own l =>
  obtain⟨a,n,f,g,m,h⟩:=h;exact⟨_,f,.lst (N5.of (F4.mpr ⟨S.nO g,j a f,m⟩)) (h.same (aR (v8.refl _) e))⟩
 |ob w c=>obtain⟨v,R,f,_,g,h⟩:=h;exact⟨_,f,h.dt (aR (v8.refl _) e) λb e σ z=>F4.mpr ⟨S.nO (g b e),j b (g b e),z⟩⟩
theorem DS.dP{O:List Addr}{E1:Hp}{H:Hp}{as:As}{σ:St}{ds:Ds}(S:DS K O E1 as σ H ds):DS K O E1 (C2 ds.length J) σ H (dP ds) where
 ls:=by simp[L2.dP,S.ls]
 same:=S.same
 new:=λa h=>absurd h nJ
 fx:=S.fx
 iU:=⟨λ_=>[],λi b z=>absurd z B9,λi j b z=>absurd z B9,λi pv h=>by
  unfold L2.dP at h;rw[O1]at h;cases hd:ds[i]? with
  |none=>simp_all
  |some x =>
   cases x with
   |none=>simp_all
   |some w =>
    rw[hd]at h;cases h;exact(S.slot i w hd).dP S (λb z=>absurd z nJ) (λa _=>nJ)⟩
noncomputable def Au(i:Nat)(ds:Ds):Ds:=match ds[i]? with
 |some (U (.own l))=>ds.set i (U (.dat (.list l)))
 |_=>ds
set_option tactic.hygienic true in
theorem DS.Au(S:DS K O q u B H L)(i:Nat):∃n,DS K O q n B H (Au i L):=by
 delta L2.Au;split
 . rename_i l A;obtain⟨f,t,s,p⟩:=S.iU;refine⟨u.filter λx=>decide (∀b∈f i,x≠U b),?_⟩
   have sub:∀b,U b∈u.filter (λx=>decide (∀b∈f i,x≠U b))->U b∈u/\b∉f i:=λb z=>by obtain⟨y,E⟩:=List.mem_filter.mp z;exact⟨y,λσ=>oX E b σ rfl⟩
   have sm:v8 (B7 H u O) (B7 H (u.filter λx=>decide (∀b∈f i,x≠U b)) O):=aR (v8.refl _) λb z=>(sub b z).1;refine⟨by simp[S.ls],S.same,λa h=>S.new a (sub a h).1,S.fx,λj=>if j=i then[]else f j,λj b d=>?_,λj k b m g=>?_,λj pv h=>?_⟩;dsimp only at d;split at d;simp at d;rename_i v;exact List.mem_filter.mpr ⟨t j b d,iq λC σ e=>v (s j i b d (by cases e;exact σ))⟩;dsimp only at m g;split at m;simp at m;split at g;simp at g;exact s j k b m g;rw[zh]at h;by_cases c:i=j;subst c;rw[t2 rfl]at h;obtain⟨_,h⟩:=J9 h;cases h;obtain⟨a,D,w,r,F,h⟩:=p i _ A;exact⟨_,w,.lst (N5.of (F4.mpr ⟨S.nO (t i a r),λz=>(sub a z).2 r,F⟩)) (h.same sm)⟩;rw[s9 c]at h;dsimp only;rw[s9 (λz=>c z.symm)];exact(p j pv h).AS sm (λb _ o z=>z) λb z=>z
 exact⟨u,S⟩
end
noncomputable def mN(F:DV):DV:=λds=>F (dP ds)
def a0d(h:PX c Uf e G r):PX c U' e G (mN r):=⟨h.p,by
 intro O a g d H i pv Q S f q;refine h.t O a _ d H _ pv Q S.dP f λv X e F=>q v X e ?_
 exact F.less λb z=>by simp[aw]at z⟩
def a1Y(K:y7)(O:List Addr)(Hb:Hp)(Jff:It)(items:List f7):Prop:=
 ∀H',v8 Hb H'->∀i,(i<items.length->Jff.go i H')/\(items.length<=i->Jff.stop i H') /\
  ∀x H'',Jff.US i H' x H''->i<items.length->v8 H' H''/\∃d,items[i]? = U d/\∀vb:As,(∀b,U b∈vb->Hb b=J/\∃o,H' b=U o)->(∀b∈O,∃o,Hb b=U o)->Dt K (B7 H'' vb O) x d
def TIX(K:y7)(fr:Bool)(wi:TI)(Fi:DL):Prop:=
 ∀(O:List Addr) (E1:Hp) (as:As) (σ:St) (H:Hp) (ds:Ds) (items:List f7) (R:It->Hp->Prop),DS K O E1 as σ H ds->Fi ds=U items->(∀Jff H1,v8 H H1->a1Y K O (B7 H1 (aw fr as) []) Jff items->R Jff H1)->wi σ H R
structure gD(X:Cx)(fr:Bool)(tg e:Expr)(wi:TI)(Fi:DL):Prop where
 p:PI X tg e wi
 t:TIX X.K fr wi Fi
def a1n(K:y7)(tl:TE):TI:=λσ H R=>tl σ H λx H1=>∃a,x=.ref a/\(((∃xs,N5 K H1 a xs)/\R (Itl K a) H1)\/((∃xs,W4 K H1 a xs)/\R (Itt K a) H1))
def a0n(u:PE c E G):PI c e E (a1n c.K G):=by
 intro g s r H R I h;refine G3 (u g s r H _ I h) λv d ⟨x,j,X,k,t⟩=>?_;obtain⟨a,w,(⟨⟨y,hq⟩,q⟩|⟨⟨y,hq⟩,q⟩)⟩:=t
 . subst w;cases k;obtain⟨f,z,p,n⟩:=X.list hq;refine FI p.isList ?_;refine⟨d.heap.objs.size,[d.heap.objs.size],_,_,j,rfl,X.kept λb o w=>L6 _ w,KY a _,⟨_,W2 _ rfl,rfl,rfl⟩,λb i=>?_,q⟩
   have w:b=d.heap.objs.size:=by simpa using i
   subst w;exact X.wU F3 (X.J7.fresh F3)
 . subst w;cases k;obtain⟨f,z,p,n⟩:=X.tuple hq;refine wpAny_pyIter_tuple (show d.heap.IsTuple a f.toArray from p) ?_;refine⟨d.heap.objs.size,[d.heap.objs.size],_,_,j,rfl,X.kept λb o w=>L6 _ w,IS a _,⟨_,W2 _ rfl,rfl,rfl⟩,λb i=>?_,q⟩
   have w:b=d.heap.objs.size:=by simpa using i
   subst w;exact X.wU F3 (X.J7.fresh F3)
noncomputable def kX:f7->Option (List f7)
 | .list l=>U l
 | .tuple l=>U l
 |_=>J
noncomputable def L5(F:DV):DL:=λds=>(F ds).bind λpv=>kX pv.d
def qD(h:Dt g (B7 H u O) a8 e9)(e:v8 (B7 H u []) q)(k:v8 q i0)(j:∀b,U b∈j5->B7 H u [] b=J/\∃o,q b=U o):Dt g (B7 i0 j5 O) a8 e9:=
 h.same (fM λb o m l i=>by
  have f:B7 H u [] b=U o:=F4.mpr ⟨by simp,l,i⟩;refine⟨m,λz=>?_,k _ _ (e _ _ f)⟩
  simp_all)
def vz:v8 (B7 H u O) (B7 H u []):=fM λb o _ d c=>⟨by simp,d,c⟩
section
set_option tactic.hygienic true in
def Xq{fr:Bool}(h:PX c fr e G r):gD c fr E e (a1n c.K G) (L5 r):=⟨a0n h.p,by
 intro O g p I H B w R S f q;obtain⟨pv,h1,f⟩:=t4 f;refine h.t O g p I H B pv _ S h1 λv D C M=>?_
 have d:=M.dt S.dm;generalize pv.d=z at d f;cases d with
 |lst n k =>
  rename_i a X l;cases f;have:=k.length;refine⟨a,rfl,.inl ⟨⟨X,B5.seq n⟩,q _ D C λF j i=>?_⟩⟩;have b:=j.seq (vz.seq n);refine⟨λm=>⟨X,X[i]'u3,b,K7 _⟩,λm=>⟨X,b,by simp[*]⟩,λx o y m=>?_⟩;obtain⟨u,y⟩:=y;subst u;obtain⟨d,t,A⟩:=k.get' (y X b);exact⟨v8.refl _,d,t,λL s _=>qD A j (v8.refl _) s⟩
 |tup n k =>
  rename_i a X l;cases f;have:=k.length;refine⟨a,rfl,.inr ⟨⟨X,B5.fj n⟩,q _ D C λF j i=>?_⟩⟩;have b:=j.fj (vz.fj n);refine⟨λm=>⟨X,X[i]'u3,b,K7 _⟩,λm=>⟨X,b,by simp[*]⟩,λx o y m=>?_⟩;obtain⟨u,y⟩:=y;subst u;obtain⟨d,t,A⟩:=k.get' (y X b);exact⟨v8.refl _,d,t,λL s _=>qD A j (v8.refl _) s⟩
 |_=>exact nE f⟩
def bc(lo:Int)(n:Nat):List f7:=(C8 n).map λk=>.int (lo+(k:Nat))
def Ng:a1Y g O H (Qt a2 m) (bc a2 m):=by
 intro K e i;have b:(bc a2 m).length=m:=by simp[bc]
 refine⟨λa=>(by rw[b]at a;exact a),λa=>(by rw[b]at a;exact a),λx d y a=>?_⟩;obtain⟨f,c⟩:=y;subst f;subst c;rw[b]at a;refine⟨v8.refl _,.int (a2+i),?_,λh _ _=>.int _⟩;simp[bc,ph a]
def R4:List f7->Option (List f7)
 | [.int j]=>@ite _ (-(4611686018427387904)<=j/\j<4611686018427387904) (zu _) (U (bc 0 j.toNat)) J
 |_=>J
def js:List f7->Option (List f7)
 | [.int i,.int j]=>@ite _ ((-(4611686018427387904)<=i/\i<4611686018427387904)/\-(4611686018427387904)<=j/\j<4611686018427387904) (zu _) (U (bc i (j-i).toNat)) J
 |_=>J
noncomputable def E9(f:List f7->Option (List f7))(Fl:DL):DL:=λds=>(Fl ds).bind f
set_option tactic.hygienic true in
def Jr(i:Gl c "range")(n:c.mg "range" = J)(a:et c I [E] N Y)(hs:autoParam (w4 [E] c.env=[(U',eval E c.env)]) t8):gD c I e (.Call (.Name "range" p) [E] [] A) (VA N) (E9 R4 Y):=⟨Mg i n a.p hs,by
 intro O X k m H f d R S b q;obtain⟨l,h1,b⟩:=t4 b;refine a.t O X k m H f l _ S h1 λv h s u=>?_;unfold R4 at b;split at b
 . rename_i j;split at b
   . rename_i g;cases b;cases u with
     |cons r o =>
      cases r;cases o;exact⟨j,rfl,g.1,g.2,q _ h s Ng⟩
   exact nE b
 . exact nE b⟩
set_option tactic.hygienic true in
def Jq(o:Gl c "range")(v:c.mg "range" = J)(k:et c I [E,b7] N Y)(hs:autoParam (w4 [E,b7] c.env=[(U',eval E c.env),(U',eval b7 c.env)]) t8)(h:autoParam (w4 [b7] c.env=[(U',eval b7 c.env)]) t8):gD c I e (.Call (.Name "range" p) [E,b7] [] A) (Vz N) (E9 js Y):=⟨Mf o v k.p hs h,by
 intro O d s u H m g R S X q;obtain⟨l,h1,X⟩:=t4 X;refine k.t O d s u H m l _ S h1 λy n w x=>?_;unfold js at X;split at X
 . rename_i i j;split at X
   . rename_i a;cases X;cases x with
     |cons r f =>
      cases r;cases f with
      |cons r f =>
       cases r;cases f;exact⟨i,j,rfl,⟨a.1.1,a.1.2,a.2.1,a.2.2⟩,q _ n w Ng⟩
   exact nE X
 . exact nE X⟩
def Vy(K:y7)(ta:TA):TI:=λσ H R=>ta σ H λvs H1=>∃a b k1 k2,vs=[.ref a,.ref b]/\(∃xs,gC k1 K H1 a xs)/\(∃ys,gC k2 K H1 b ys)/\R (Itz k1 k2 K a b) H1
def Xs(D:Gl c "zip")(F:c.mg "zip" = J)(t:PA c [e,E] N)(hs:autoParam (w4 [e,E] c.env=[(U',eval e c.env),(U',eval E c.env)]) t8)(i:autoParam (w4 [E] c.env=[(U',eval E c.env)]) t8):
  PI c (.Tuple Z m c8) (.Call (.Name "zip" p) [e,E] [] A) (Vy c.K N):=by
 intro d s W H R I h;refine Call_ (gO I D F boot_zip (pX (G3 (t A d s W H _ I h) λz X ⟨L,l,g,O,b⟩=>?_) (by rw[hs,i]) (by rw[i];rfl)));obtain⟨x,y,Q,k2,a,⟨S,k⟩,⟨P,C⟩,q⟩:=b;subst a;obtain⟨u,v,a,G,B⟩:=vals2 O;subst a;cases G;cases B;obtain⟨z,K⟩:=g.bR k;obtain⟨L,w⟩:=g.bR C;refine NX K w λM T n=>?_;refine FE T.hz ?_;have r:Inv c d W l {X with heap:=M}:=g.kept n;refine⟨(hz X)+4,_,_,_,l,rfl,r,QJ (Qx _),T,λE o=>?_,q⟩
 have j:E=(hz X)+4\/E=(hz X)+2\/E=(hz X)+3\/E=(hz X)\/E=(hz X)+1:=by simpa using o
 have f:(hz X)<=E:=by
  rcases j with a|a|a|a|a<;>rw[a]
  exact jW _ _;exact jW _ _;exact jW _ _;exact X6 _;exact jW _ _
 exact g.wU f (g.J7.fresh f)
def v8.bR(e:v8 H q)(h:gC I g H z M):gC I g q z M:=by
 cases I;exact e.seq h;exact e.fj h
def Dt.bR(h:Dt g H a8 e9)(hd:kX e9=U S):∃a e xs,a8=.ref a/\gC e g H a xs/\C7 g H xs S:=by
 cases h with
 |lst b c=>cases hd;exact⟨_,U',_,rfl,b,c⟩
 |tup b c=>cases hd;exact⟨_,Uf,_,rfl,b,c⟩
 |_=>exact nE hd
noncomputable def Z6:List f7->Option (List f7)
 | [d,e]=>(kX d).bind λl=>(kX e).bind λm=>U (hF (λx y=>.tuple [x,y]) l m)
 |_=>J
set_option tactic.hygienic true in
def Xp(hg:Gl c "zip")(W:c.mg "zip" = J)(w:et c I [e,E] N Y)(hs:autoParam (w4 [e,E] c.env=[(U',eval e c.env),(U',eval E c.env)]) t8)(v:autoParam (w4 [E] c.env=[(U',eval E c.env)]) t8):
  gD c I (.Tuple Z m c8) (.Call (.Name "zip" p) [e,E] [] A) (Vy c.K N) (E9 Z6 Y):=⟨Xs hg W w.p hs v,by
 intro O j as V H D u R S X q;obtain⟨l,h1,X⟩:=t4 X;refine w.t O j as V H D l _ S h1 λvs Q t r1=>?_;unfold Z6 at X;split at X
 . rename_i d1 T;obtain⟨l1,hl,X⟩:=t4 X;obtain⟨l2,hl2,X⟩:=t4 X;cases X;cases r1 with
   |cons r s =>
    cases s with
    |cons r' s =>
     cases s;obtain⟨e,k1,Fl,rfl,fr,k⟩:=r.bR hl;obtain⟨E,k2,h,rfl,B,C⟩:=r'.bR hl2;refine⟨e,E,k1,k2,rfl,⟨Fl,B5.bR fr⟩,⟨h,B5.bR B⟩,q _ Q t λH' g i=>?_⟩;have b:=g.bR (vz.bR fr);have f:=g.bR (vz.bR B);have:=k.length;have:=C.length;rw[Pd];refine⟨λF=>⟨Fl,h,Fl[i]'u3,h[i]'u3,b,f,K7 _,K7 _⟩,λF=>⟨Fl,h,b,f,by lia⟩,λx L y F=>?_⟩;obtain⟨pp,z1,d,x',y',z3,a⟩:=y;obtain⟨z5,G⟩:=a Fl h b f;subst z1;subst z3;obtain⟨dx,ex,ta⟩:=k.get' z5;obtain⟨P,M,hy⟩:=C.get' G;refine⟨v8.new d,.tuple [dx,P],by rw[Pz,ex,M],λvb n K=>?_⟩;refine .tup (W4.of (F4.mpr ⟨λz=>?_,λz=>?_,O4⟩)) (.cons (qD ta g (v8.new d) n) (.cons (qD hy g (v8.new d) n) .nil));obtain⟨o,z⟩:=K _ z;rw[g _ _ z]at d;exact nS d;obtain⟨_,o,z⟩:=n _ z;rw[z]at d;exact nS d
 . exact nE X⟩
end
def sO(K:y7)(n:Nat)(g:TG)(gt:f7->Option (List f7)):Prop:=
 ∀(O:List Addr) (va:As) (H:Hp) (v:V) (d:f7) (σ:St) (bs:List f7) (Q:St->Hp->Prop),Dt K (B7 H va O) v d->gt d=U bs->(∀vs,C7 K (B7 H va O) vs bs->vs.length=n->Q (vs.map U++σ) H)->g v (C2 n J++σ) H Q
def B3:f7->Option (List f7):=λd=>U [d]
noncomputable def L8(n:Nat):f7->Option (List f7)
 | .tuple l=>if l.length=n then U l else J
 |_=>J
def QP:sO g 1 (Y7 0) B3:=by intro O e H v d c bs Q a b q;cases b;exact q [v] (.cons a .nil) rfl
def a4x:∀{l:List d3},l.length=2->∃x y,l=[x,y]
 | [x,y],_=>⟨x,y,rfl⟩
def a4w:∀{l:List d3},l.length=3->∃x y z,l=[x,y,z]
 | [x,y,z],_=>⟨x,y,z,rfl⟩
set_option tactic.hygienic true in
def QO:sO g 2 (wR g 2 (lj (Y7 0) (lj (Y7 1) DR))) (L8 2):=by
 intro O k H v d i bs Q h e q;cases h with
 |tup K c =>
  rename_i a j l;have b:=e;obtain⟨f,b⟩:=J9 b;rw[(X8 b)]at c f;obtain⟨x,y,rfl⟩:=a4x (c.length.trans f);exact⟨a,[x,y],rfl,B5.fj K,rfl,x,[y],rfl,y,[],rfl,rfl,q [x,y] c rfl⟩
 |_=>exact nE e
set_option tactic.hygienic true in
def Cq:sO g 3 (wR g 3 (lj (Y7 0) (lj (Y7 1) (lj (Y7 2) DR)))) (L8 3):=by
 intro O k H v d i bs Q h e q;cases h with
 |tup K c =>
  rename_i a j l;have b:=e;obtain⟨f,b⟩:=J9 b;rw[(X8 b)]at c f;obtain⟨x,y,z,rfl⟩:=a4w (c.length.trans f);exact⟨a,[x,y,z],rfl,B5.fj K,rfl,x,[y,z],rfl,y,[z],rfl,z,[],rfl,rfl,q [x,y,z] c rfl⟩
 |_=>exact nE e
def Q3(l:List f7):Ds:=l.map λd=>U (.dat d)
@[simp] theorem rY:Q3 []=[]:=rfl
@[simp] theorem pQ(d:f7)(l:List f7):Q3 (d::l)=sd d::Q3 l:=rfl
def C7.slots(h:C7 g H M S)(e:(Q3 S)[m]? = U (U i6)):∃d v,i6=.dat d/\M[m]? = U v/\Dt g H v d:=by
 unfold Q3 at e;rw[O1]at e;cases hd:S[m]? with
 |none=>simp_all
 |some d =>
  rw[hd]at e;cases e;obtain⟨x,b,a⟩:=h.get hd;exact⟨d,x,rfl,b,a⟩
def Ao:B7 H (C2 m J++u) O=B7 H u O:=by
 funext b
 delta B7;simp
set_option tactic.hygienic true in
def DS.pre(l:DS g O q u B H L)(h:C7 g (B7 H u O) M S):
  DS g O q (C2 S.length J++u) (M.map U++B) H (Q3 S++L) where
 ls:=by simp[Q3,l.ls,h.length]
 same:=l.same
 new:=λa z=>l.new a ((List.mem_append.mp z).elim (λz=>absurd z nJ) id)
 fx:=l.fx
 iU:=by
  obtain⟨m,s,k,p⟩:=l.iU;have n:=h.length;have r:(Q3 S).length=S.length:=by simp[Q3]
  refine⟨λi=>if i<S.length then[]else m (i-S.length),λi b z=>?_,λi j b f c=>?_,λi pv e=>?_⟩;dsimp only at z;split at z;simp at z;exact L9 _ (s _ b z)
  . dsimp only at f c;split at f;simp at f;split at c;simp at c;have:=k _ _ b f c;lia
  rw[Po]at e;split at e;rename_i K;obtain⟨d,v,rfl,f,c⟩:=h.slots e;refine⟨v,?_,by rw[Ao];exact c⟩;rw[iy (by simp;simp_all),O1,f];rfl;rename_i K;rw[r]at K e;dsimp only;rw[s9 K,ny (by simp;simp_all)];simp only[E7,n];exact(p _ pv e).AS (by rw[Ao];exact v8.refl _) (λb _ o z=>z) λb z=>z
noncomputable def M6(gt:f7->Option (List f7))(Fc:DB)(Fe:DV)(ds:Ds):List f7->Option (List f7)
 | []=>U []
 |x::r=>(gt x).bind λbs=>(Fc (Q3 bs++ds)).bind λb=>if b=Uf then(Fe (Q3 bs++ds)).bind λy=>(M6 gt Fc Fe ds r).bind λl=>U (y.d::l)else M6 gt Fc Fe ds r
noncomputable def A2(Fi:DL)(gt:f7->Option (List f7))(Fc:DB)(Fe:DV):DV:=λds=>(Fi ds).bind λitems=>if items.length<=1000000 then(M6 gt Fc Fe ds items).bind λl=>U (.own l)else J
structure pV(X:Cx)(ifs:List Expr)(t:TT)(F:DB):Prop where
 p:AG X ifs t
 t:sM X.K t F
noncomputable def A5:DB:=λ_=>U Uf
def Me:pV c [] xt A5:=⟨wH,by intro O a d e H f b Q S X q;cases X;exact q H (v8.refl H)⟩
def Md(h:lV c e b3 a9):pV c [e] b3 a9:=⟨Sk h.p,h.t⟩
def zI{pos:Pos}{A:DL}(hc:c.calm=Uf)(B:kq c P d9 e8)(hi:gD c Uf e b7 j7 A)(go:kb P.length j1)(hg:∀cl C fp s H pins,PG (Y2 c P d9 e8 cl C fp s H pins) e j1)(T:sO c.K P.length j1 l9)(ht:∀cl C fp s H pins,pV (Y2 c P d9 e8 cl C fp s H pins) Z b3 a9)(he:∀cl C fp s H pins,PX (Y2 c P d9 e8 cl C fp s H pins) Uf E G r)(hs:autoParam (∀x,eM b7 c.env x=pure x) X0):PX c Uf (.ListComp E [⟨e,b7,Z,0⟩] e8 pos) (hZ P j7 j1 b3 G) (A2 A l9 a9 r):=⟨HE hc B hi.p go hg (λ_ _ _ _ _ _=>(ht _ _ _ _ _ _).p) (λ_ _ _ _ _ _=>(he _ _ _ _ _ _).p) hs,by
 intro O h v σ H n pv Q S f q;obtain⟨a,h1,f⟩:=t4 f;obtain⟨hn,f⟩:=J9 f;obtain⟨l,h2,f⟩:=t4 f;cases f;refine hi.t O h v σ H n a _ S h1 λJff H1 N it=>?_;have S1:=S.grow N;refine⟨a.length,λi ys L=>i<=a.length/\v8 H1 L/\∃F M,C7 c.K (B7 L v O) ys F/\M6 l9 a9 r n (a.drop i)=U M/\F++M=l,pF hn,⟨eX _,v8.refl _,[],l,.nil,h2,rfl⟩,?_⟩;rintro i ys L ⟨hi',t,F,M,d1,X,I⟩;have S2:=S1.grow t;obtain⟨R,st',V⟩:=it L (B5.trans t) i;by_cases j:i<a.length
 . refine .inr ⟨R j,j,λx m y=>?_⟩
   obtain⟨D,d,ed,dt⟩:=V x m y j;have dx:=dt v (λb g=>⟨by delta B7;rw[t2 (.inr g)],let ⟨_,z⟩:=(S2.new b g).2;⟨_,z⟩⟩) λb g=>by
    obtain⟨o,z⟩:=S.fx b g;refine⟨o,F4.mpr ⟨by simp,λz2=>?_,S1.same _ _ z⟩⟩;rw[(S.new b z2).1]at z;exact nE z
   have Y:a.drop i=d::a.drop (i+1):=by
    rw[rq j];have:a[i]=d:=by have z:=K7 j;rw[ed]at z;exact(X8 z).symm
    rw[this]
   rw[Y]at X;obtain⟨k,h3,X⟩:=t4 X;obtain⟨b,h4,X⟩:=t4 X;refine T O v m x d σ k _ dx h3 λvs dv lv=>?_;have W:=(S2.grow D).pre dv;refine((ht [] 0 [] c.W6 c.E1 []).t) O h _ _ m _ b _ W h4 λH5 w=>?_
   cases b with
   |false =>
    exact⟨j,(t.trans D).trans w,F,M,d1.same (T8 (D.trans w)),X,I⟩
   |true =>
    obtain⟨yv,h5,X⟩:=t4 X;obtain⟨l3,h6,X⟩:=t4 X;cases X;refine((he [] 0 [] c.W6 c.E1 []).t) O h _ _ H5 _ yv _ (W.grow w) h5 λu H6 e6 r6=>?_
    have d7:Dt c.K (B7 H6 v O) u yv.d:=by have z:Dt c.K (B7 H6 (C2 k.length J++v) O) u yv.d:=(r6.dt (W.grow w).dm);rw[Ao]at z;exact z
    exact⟨j,((t.trans D).trans w).trans e6,F++[yv.d],l3,(d1.same (T8 ((D.trans w).trans e6))).append (.cons d7 .nil),h6,by rw[<-I];simp⟩
 . have hi2:i=a.length:=by lia
   subst hi2;rw[FC]at X;cases X;rw[bw]at I;subst I;exact .inl ⟨st' F3,λp hp=>q _ _ ((N.trans t).trans (v8.new hp)) (RX.back (jr hp d1) (N.trans t))⟩⟩
inductive Out where
 |next (ds:Ds)
 |ret (pv:PV)
 |brk (ds:Ds)
 |cont (ds:Ds)
 |up (x:f7)
 |retO (pv:PV) (ds:Ds)
abbrev DO:=Ds->Option Out
variable{b4:DO}
def a4H(K:y7)(O:List Addr)(H:Hp)(ea:Addr)(x:f7):Prop:=∃C dx fld v d,x=Kh C fld d/\uU K C/\bq K (.ref C) fld=U J/\H ea=U (.ext (Cd ea C (U dx)))/\H dx=U (.xd [(fld,v)])/\dx∉O/\Dt K (B7 H [] (ea::O)) v d
def zC(X:Cx)(O:List Addr)(E1:Hp)(D:Ends):Out->Prop
 | .next ds=>∀as σ H,DS X.K O E1 as σ H ds->D.nx σ H
 | .brk ds=>∀as σ H,DS X.K O E1 as σ H ds->D.bk σ H
 | .cont ds=>∀as σ H,DS X.K O E1 as σ H ds->D.ct σ H
 | .ret pv=>∀v H,v8 E1 H->RX X.K O [] E1 H v pv->D.rt v H
 | .up x=>∀ea H,v8 E1 H->E1 ea=J->a4H X.K O H ea x->∀pins σ s,Inv X pins σ H s->X.xe (.ref ea) s
 | .retO pv ds=>∀as σ Hm H v,DS X.K O E1 as σ Hm ds->v8 Hm H->RX X.K O as Hm H v pv->D.rt v H
def TSX(X:Cx)(t:TS)(G:DO):Prop:=
 ∀(O:List Addr) (E1:Hp) (as:As) (σ:St) (H:Hp) (ds:Ds) (D:Ends) (o:Out),DS X.K O E1 as σ H ds->G ds=U o->zC X O E1 D o->t D σ H
structure P5(X:Cx)(st:Stmt)(t:TS)(G:DO):Prop where
 p:PS X st t
 t:TSX X t G
structure mQ(X:Cx)(st:List Stmt)(t:TS)(G:DO):Prop where
 p:pU X st t
 t:TSX X t G
noncomputable def K3:DO:=λds=>U (.next ds)
noncomputable def t9(G1 G2:DO):DO:=λds=>(G1 ds).bind λo=>match o with
 | .next ds'=>G2 ds'
 |o=>U o
section
def RW:mQ c [] Ve K3:=⟨Xk,by intro O a X b H e D o S d q;cases d;exact q X b H S⟩
def RV(h:P5 c j6 m3 b4):mQ c [j6] m3 b4:=⟨Xj h.p,h.t⟩
set_option tactic.hygienic true in
def LX{u:TS}{G2:DO}(g:P5 c j6 m3 b4)(h:mQ c o3 u G2):mQ c (j6::o3) (Zk m3 u) (t9 b4 G2):=⟨RY g.p h.p,by
 intro O X k j H i D o S a q;obtain⟨f,e1,a⟩:=t4 a;refine g.t O X k j H i {D with nx:=u D} f S e1 ?_
 cases f with
 |next b=>exact λd e l m=>h.t O X d e l b D o m a q
 |ret pv=>cases a;exact q
 |brk b=>cases a;exact q
 |cont b=>cases a;exact q
 |up x=>cases a;exact q
 |retO pv b=>cases a;exact q⟩
noncomputable def yg(i:Nat)(G:DO):DO:=λds=>G (Au i ds)
def RS(i:Nat)(h:P5 c j6 m3 b4):P5 c j6 m3 (yg i b4):=⟨h.p,by intro O a f X H g D o S e q;obtain⟨b,d⟩:=S.Au i;exact h.t O a b X H _ D o d e q⟩
theorem DS.set(S:DS g O q u B H L)(i:Nat)(h:Dt g (B7 H u O) a8 e9):DS g O q u (B.set i (U a8)) H (L.set i (sd e9)):=by
 obtain⟨f,l,e,k⟩:=S.iU;refine⟨by simp[S.ls],S.same,S.new,S.fx,f,l,e,λj pv a=>?_⟩;by_cases b:i=j;subst b;rw[zh]at a;rw[t2 rfl]at a;obtain⟨K,a⟩:=J9 a;cases a;exact⟨a8,by rw[uN (by rw[S.ls];exact K)],h⟩;rw[ix b]at a;rw[ix b];exact k j pv a
def lL(h:v8 H q)(f:∀b∈j8,H b=J):v8 (B7 H u O) (B7 q (j8.map U++u) O):=fM λb o i g a=>⟨i,λz=>by
 rcases List.mem_append.mp z with z|z
 obtain⟨j,e,d⟩:=mem_map.mp z;cases d;rw[f b e]at a;exact nE a
 . exact g z,h _ _ a⟩
set_option tactic.hygienic true in
def DS.store(S:DS g O q u B H L)(t:v8 H i0)(i:Nat)(r:RX g O u H i0 a8 i6):∃n,DS g O q n (B.set i (U a8)) i0 (L.set i (U i6)):=by
 have D:=S.grow t;have Z:∀R:List Addr,(∀b∈R,H b=J)->(∀b∈R,∃v:Cl,i0 b=U v.1)->DS g O q (R.map U++u) B i0 L/\∀b∈R,q b=J/\U b∉u/\∃v:Cl,i0 b=U v.1:=λR p G=>by
  have X:∀b∈R,U b∉u:=λb e z=>by obtain⟨_,o,z⟩:=S.new b z;rw[p b e]at z;exact nE z
  have f:∀b∈R,q b=J/\U b∉u/\∃v:Cl,i0 b=U v.1:=λb e=>⟨S.same.free (p b e),X b e,G b e⟩;obtain⟨F,y,M,I⟩:=S.iU;refine⟨⟨S.ls,D.same,λb e=>?_,S.fx,F,λi b z=>L9 _ (y i b z),M,λj i6 K=>(I j i6 K).AS (lL t p) (λb _ o z=>t _ _ z) λb z=>z⟩,f⟩
  rcases List.mem_append.mp e with z|z
  obtain⟨b',A,E⟩:=mem_map.mp z;cases E;exact⟨(f b A).1,(f b A).2.2⟩;exact D.new b z
 have N:∀R:List Addr,(∀b∈R,H b=J)->(∀b∈R,∃v:Cl,i0 b=U v.1)->cP g O (R.map U++u) i0 (U (U a8)) R i6->∃n,DS g O q n (B.set i (U a8)) i0 (L.set i (U i6)):=λR p G Y=>by
  obtain⟨T,f⟩:=Z R p G;obtain⟨F,y,M,I⟩:=S.iU;refine⟨_,by simp[S.ls],D.same,T.new,S.fx,λj=>if j=i then R else F j,λj b e=>?_,λj k b x s=>?_,λj i6 K=>?_⟩;dsimp only at e;split at e;exact U7 _ (mem_map.mpr ⟨b,e,rfl⟩);exact L9 _ (y j b e);dsimp only at x s;split at x;split at s;rename_i A E;rw[A,E];exact absurd (y k b s) (f b x).2.1;split at s;exact absurd (y j b x) (f b s).2.1;exact M j k b x s;by_cases m:i=j;subst m;rw[zh]at K;rw[t2 rfl]at K;obtain⟨Q,K⟩:=J9 K;cases K;dsimp only;rw[t2 rfl,uN (by rw[S.ls];exact Q)];exact Y;rw[ix m]at K;dsimp only;rw[s9 (λz=>m z.symm),ix m];exact(I j i6 K).AS (lL t p) (λb _ o z=>t _ _ z) λb z=>z
 cases i6 with
 |dat d=>exact⟨_,D.set i r⟩
 |ob w c =>
  obtain⟨o,R,rfl,W,C,h⟩:=r;exact N R C h.at ⟨o,R,rfl,W,λb z=>z,h⟩
 |own l =>
  obtain⟨a,P,rfl,W,C,h⟩:=r;refine N [a] (λb e=>?_) (λb e=>?_) ⟨a,P,rfl,C9,C,h⟩;rw[mem_singleton.mp e];exact W;rw[mem_singleton.mp e];exact⟨Cl.l P,C⟩
noncomputable def R9(i:Nat)(F:DV):DO:=λds=>(F ds).bind λpv=>U (.next (ds.set i (U pv)))
noncomputable def u9(i:Nat)(F:DV):DO:=λds=>(F ds).bind λpv=>U (.next (ds.set i (U (.dat pv.d))))
def Xe(F:c.N.Nodup)(l:c.N[m]? = U o)(k:Loc c.env.scope o)(d:PX c Uf e G r)(hs:autoParam (cw e (U (.Name o A)) p.line c.env=pure U') t8)(n:autoParam (c.fn o=Uf\/c.env.scope.names.lookup o=U .local) dR):
  P5 c (.Assign [.Name o A] e p) (iC G (Y7 m)) (R9 m r):=⟨LY F l k d.p hs n,by
 intro O b j g H f D x S h q;obtain⟨pv,e1,h⟩:=t4 h;cases h;refine d.t O b j g H f pv _ S e1 λv w i s=>?_
 obtain⟨X,u⟩:=S.store i m s;exact q X _ _ u⟩
def RL(n:c.N.Nodup)(k:c.N[m]? = U o)(j:Loc c.env.scope o)(X:PX c Uf e G r)(hs:autoParam (cw e (U (.Name o A)) p.line c.env=pure U') t8)(i:autoParam (c.fn o=Uf\/c.env.scope.names.lookup o=U .local) dR):
  P5 c (.Assign [.Name o A] e p) (iC G (Y7 m)) (u9 m r):=⟨LY n k j X.p hs i,by
 intro O b g f H d D x S h q;obtain⟨pv,e1,h⟩:=t4 h;cases h;refine X.t O b g f H d pv _ S e1 λv s l F=>?_
 exact q _ _ _ ((S.grow l).set m (F.dt S.dm))⟩
def a4z(i j:Nat)(Fl:DL):DO:=λds=>(Fl ds).bind λl=>match l with
 | [a,b]=>U (.next ((ds.set i (U (.dat a))).set j (U (.dat b))))
 |_=>J
noncomputable def E8(F:DV):DO:=λds=>(F ds).bind λpv=>U (.ret pv)
def HB{fr:Bool}(X:PX c fr e G r):P5 c (.Return (U e) p) (QR G) (E8 r):=⟨LZ X.p,by
 intro O a g f H d D o S h q;obtain⟨pv,e1,h⟩:=t4 h;cases h;refine X.t O a g f H d pv _ S e1 λv k i j=>?_
 exact q v k (S.same.trans i) ((j.back S.same).less λb z=>by simp at z)⟩
noncomputable def V7(i:Nat):DO:=λds=>match ds[i]? with
 |some (U pv)=>U (.ret pv)
 |_=>J
set_option tactic.hygienic true in
def RN(i:Nat)(h:PE c e (Q7 i)):P5 c (.Return (U e) p) (QR (Q7 i)) (V7 i):=⟨LZ h,by
 intro O j B A H E D o S h q;unfold V7 at h;split at h
 . rename_i pv n;cases h;have g:=S.slot i pv n;cases pv with
   |dat d =>
    obtain⟨v,f,h⟩:=g;exact⟨v,f,q v H S.same (Dt.same (aR (v8.refl _) λb z=>by simp at z) h)⟩
   |own l =>
    obtain⟨a,u,f,k,s,h⟩:=g;refine⟨_,f,q _ H S.same ⟨a,u,rfl,(S.new a k).1,s,h.same (aR (v8.refl _) λb z=>?_)⟩⟩
    simp_all
   |ob w X =>
    obtain⟨o,R,f,y,m,h⟩:=g;refine⟨_,f,q _ H S.same ⟨o,R,rfl,y,λb t=>(S.new b (m b t)).1,h.same (aR (v8.refl _) λb z=>?_) (λ_ _ _ z=>z)⟩⟩;rw[bw]at z;obtain⟨C,r,x⟩:=mem_map.mp z;cases x;exact m b r
 . exact nE h⟩
def a2V:DO:=λ_=>U (.ret (.dat .none))
noncomputable def O5(Ft:DB)(G1 G2:DO):DO:=λds=>(Ft ds).bind λb=>if b=Uf then G1 ds else G2 ds
def a0i{sb:List Stmt}{u:TS}{G2:DO}(g:lV c e b3 a9)(k:mQ c o3 m3 b4)(i:mQ c sb u G2):P5 c (.If e o3 sb p) (Zo b3 m3 u) (O5 a9 b4 G2):=⟨a2C g.p k.p i.p,by
 intro O a f X H d D o S h q;obtain⟨b,e1,h⟩:=t4 h;refine g.t O a f X H d b _ S e1 λl j=>?_
 cases b with
 |true=>exact k.t O a f X l d D o (S.grow j) h q
 |false=>exact i.t O a f X l d D o (S.grow j) h q⟩
def a2W:DO:=λds=>U (.next ds)
def a1u:DO:=λds=>U (.brk ds)
def a2Y:DO:=λds=>U (.cont ds)
noncomputable def tX:DO:=λ_=>J
def LV:P5 c j6 Le tX:=⟨Sa,by exact λO a X b H d D o S h q=>nE h⟩
def a2X(F:DV):DO:=λds=>(F ds).bind λ_=>U (.next ds)
end
def DS.BM{e:PV}{u:Cl}{c:Nat->List Addr}(S:DS g O q j5 B H L)(hd:L[m]? = U (U i6))(i:∀m b,b∈c m->U b∈j5)(n:∀m j b,b∈c m->b∈c j->m=j)(s:∀(m:Nat) (i6:PV),L[m]? = U (U i6)->cP g O j5 H B[m]? (c m) i6)(l:z∈c m)(r:v8 (B7 H j5 O) (B7 (upd H z u.1) j5 O)->cP g O j5 (upd H z u.1) B[m]? (c m) e):DS g O q j5 B (upd H z u.1) (L.set m (U e)):=by
 have sm:v8 (B7 H j5 O) (B7 (upd H z u.1) j5 O):=fM λb o t p v=>⟨t,p,by rw[J6 (λa=>p (by rw[a];exact i m z l))];exact v⟩;have f:=(List.getElem?_eq_some_iff.mp hd).1;refine⟨by simp[S.ls],λb o h=>?_,λb K=>⟨(S.new b K).1,?_⟩,S.fx,c,i,n,λj i6 k=>?_⟩;rw[J6 (λa=>?_)];exact S.same _ _ h;rw[a,(S.new z (i m z l)).1]at h;exact nE h;by_cases a:b=z;exact⟨u,by rw[a];exact O4⟩;obtain⟨_,o,h⟩:=S.new b K;exact⟨o,by rw[J6 a];exact h⟩;by_cases d:m=j;subst d;rw[uN f]at k;cases k;exact r sm;rw[ix d]at k;refine(s j i6 k).AS sm (λb K o a=>?_) λb a=>a;rw[J6 (λw=>d (n m j z l (by rw[<-w];exact K)))];exact a
def DS.turn{h:List f7}(l:DS g O q j5 B H L)(hd:L[m]? = U (U (.own S)))(f:B[m]? = U (U (.ref z)))(k:C7 g (B7 H j5 O) M h):
  DS g O q j5 B (upd H z (.lst M)) (L.set m (U (.own h))):=by obtain⟨n,b,j,K⟩:=l.iU;obtain⟨r,p,e,d,o,c⟩:=K m _ hd;rw[f]at e;cases e;exact l.BM (u:=Cl.l M) hd b j K d λsm=>⟨z,M,f,d,O4,k.same sm⟩
noncomputable def dk(i:Nat)(F:DV):DO:=λds=>(F ds).bind λpv=>match ds[i]? with
 |some (U (.own l))=>if l.length<1000000 then U (.next (ds.set i (U (.own (l++[pv.d])))))else J
 |_=>J
section
set_option tactic.hygienic true in
def Xi (i:Nat) (C:PE c E (Q7 i)) (w:PX c Uf e G r) (f:autoParam (w4 [e] c.env=(U',eval e c.env)::w4 [] c.env) t8) (X:autoParam (aU E "append" c.env (eval E c.env)=eval E c.env) t8) (j:autoParam (((H9 A (w4 [e] c.env)).all (λx=>!x.1)&&(cq A (eJ [] c.env)).all (λx=>x.1.isSome)
   && decide ([e].length+([]:List aZ).length+(if ([]:List aZ).isEmpty then 0 else 1)<30))=Uf) t8)
  (d:autoParam ((c8.endLine==A.line)=Uf) t8) (b:autoParam ((H9 A (w4 [] c.env)).any (·.1)=U') t8)
  (hs:autoParam (cw (.Call (.Attribute E "append" c8) [e] [] A) J p.line c.env=pure U') t8) :
  P5 c (.Expr (.Call (.Attribute E "append" c8) [e] [] A) p) (vg (Hf c.K "list" zH (Q7 i) (jl G nY))) (dk i r):=
 ⟨qw (xK rp Qg Qf Ba C (iW w.p qy f) X j d f b) hs,by
 intro O g u n H z D E S h q;obtain⟨pv,e1,h⟩:=t4 h;split at h;rename_i l m;obtain⟨F,h⟩:=J9 h;cases h;obtain⟨a,K,t,o,s,y⟩:=S.slot i _ m;refine⟨_,t,.inl ⟨rfl,K,N5.of s⟩,?_⟩;refine w.t O g u n H z pv _ S e1 λv I k B=>?_;have:=y.length;refine⟨a,K,v,rfl,rfl,k _ _ s,M8 B4 (pF F3),q u n _ ?_⟩;exact(S.grow k).turn m t ((y.same (T8 k)).append (.cons (B.dt S.dm) .nil))
 . exact nE h⟩
end
def DS.rebase(S:DS g O q u B H L):DS g O (B7 H u []) u B H L where
 ls:=S.ls
 same:=B5
 new:=λa h=>⟨by delta B7;rw[t2 (.inr h)],(S.new a h).2⟩
 fx:=λa h=>by
  obtain⟨o,z⟩:=S.fx a h;refine⟨o,F4.mpr ⟨by simp,λK=>?_,S.same _ _ z⟩⟩;rw[(S.new a K).1]at z;exact nE z
 iU:=S.iU
def DS.qs(S:DS g O i0 u B H L)(e:v8 q i0)(hd:∀a∈O,∃o,q a=U o):DS g O q u B H L:=
 ⟨S.ls,e.trans S.same,λa h=>⟨e.free (S.new a h).1,(S.new a h).2⟩,hd,S.iU⟩
def DS.Zh(S:DS g O q u B H L):v8 q (B7 H u []):=λb o h=>by
 refine F4.mpr ⟨by simp,λK=>?_,S.same _ _ h⟩;rw[(S.new b K).1]at h;exact nE h
set_option tactic.hygienic true in
theorem zC.qs{X:Cx}{O:List Addr}{E1 Hb:Hp}{D:Ends}{o:Out}(h:zC X O E1 D o)(e:v8 E1 Hb)(hd:∀a∈O,∃u,E1 a=U u):zC X O Hb D o:=by
 cases o with
 |next d=>exact λc b H S=>h c b H (S.qs e hd)
 |brk d=>exact λc b H S=>h c b H (S.qs e hd)
 |cont d=>exact λc b H S=>h c b H (S.qs e hd)
 |ret pv=>exact λv H s r=>h v H (e.trans s) (r.back e)
 |up x=>exact λf H s n u=>h f H (e.trans s) (e.free n) u
 |retO pv d=>exact λc b g H v S s r=>h c b g H v (S.qs e hd) s r
def Oj(K:y7)(g:TG)(gt:f7->DD):Prop:=
 ∀(O:List Addr) (E1:Hp) (as:As) (σ:St) (H:Hp) (ds ds':Ds) (v:V) (d:f7) (Q:St->Hp->Prop),DS K O E1 as σ H ds->Dt K (B7 H as O) v d->gt d ds=U ds'->(∀as' σ',DS K O E1 as' σ' H ds'->Q σ' H)->g v σ H Q
def K5(i:Nat):f7->DD:=λd ds=>U (ds.set i (U (.dat d)))
def QM:Oj g (Y7 m) (K5 m):=by intro O a f c H K b v d Q S h e q;cases e;exact q _ _ (S.set m h)
def Kx(K:y7)(g:wd)(gt:List f7->DD):Prop:=
 ∀(O:List Addr) (E1:Hp) (as:As) (σ:St) (H:Hp) (ds ds':Ds) (vs:List V) (l:List f7) (Q:St->Hp->Prop),DS K O E1 as σ H ds->C7 K (B7 H as O) vs l->gt l ds=U ds'->(∀as' σ',DS K O E1 as' σ' H ds'->Q σ' H)->g vs σ H Q
def Y1:List f7->DD
 | [],ds=>U ds
 |_,_=>J
def D6(i:Nat)(r:List f7->DD):List f7->DD
 |d::l,ds=>r l (ds.set i (U (.dat d)))
 | [],_=>J
def Y0(n:Nat)(r:List f7->DD):f7->DD
 | .tuple l,ds=>if l.length=n then r l ds else J
 |_,_=>J
def QN:Kx g DR Y1:=by
 intro O a d c H f b K l Q S h e q;cases h with
 |nil=>cases e;exact⟨rfl,q _ _ S⟩
 |cons _ _=>exact nE e
def Lc(c:Kx g o0 p9):Kx g (lj (Y7 m) o0) (D6 m p9):=by
 intro O a f d H j b k l Q S h e q;cases h with
 |nil=>exact nE e
 |cons h t =>
  exact⟨_,_,rfl,c O a _ _ H _ b _ _ Q (S.set m h) t e q⟩
set_option tactic.hygienic true in
def Wm(t:Kx g o0 p9):Oj g (wR g m o0) (Y0 m p9):=by
 intro O b p K H k ds' v d Q S h e q;cases h with
 |tup s i =>
  rename_i a j l;have f:=e;obtain⟨o,f⟩:=J9 f;exact⟨a,j,rfl,B5.fj s,by rw[i.length];exact o,t O b p K H k ds' j l Q S i f q⟩
 |_=>exact nE e
noncomputable def aF(gt:f7->DD)(G:DO):List f7->DO
 | [],ds=>U (.next ds)
 |x::r,ds=>(gt x ds).bind λds1=>(G ds1).bind λo=>match o with
  | .next ds2=>aF gt G r ds2
  | .cont ds2=>aF gt G r ds2
  | .brk ds2=>U (.next ds2)
  | .ret pv=>U (.ret pv)
  | .up x=>U (.up x)
  | .retO pv ds2=>U (.retO pv ds2)
noncomputable def J3(Fi:DL)(gt:f7->DD)(G:DO):DO:=λds=>(Fi ds).bind λitems=>aF gt G items ds
section
set_option tactic.hygienic true in
def Xg(hp:uk (model c.prog c.w) c.A c.env c.xe)(hc:c.calm=Uf)(hi:gD c Uf e E j7 Y)(hg:PG c e j1)(Z:Oj c.K j1 m5)(C:mQ c o3 m3 b4)(hs:autoParam (∀x,eM E c.env x=pure x) X0):P5 c (.For e E o3 [] p) (QT j7 j1 m3) (J3 Y m5 b4):=⟨a0j hp hc hi.p hg C.p hs,by
 intro O M N σ H W D o S h q;obtain⟨a,e1,h⟩:=t4 h;refine hi.t O M N σ H W a _ S e1 λJff H1 s1 it=>?_;have S1:=S.grow s1;have L:=q.qs S1.Zh S.fx;refine⟨λi m l n=>i<=a.length/\m=a.length-i/\∃r k,DS c.K O (B7 H1 N []) r l n k/\aF m5 b4 (a.drop i) k=U o,⟨_,eX _,rfl,N,W,S1.rebase,h⟩,?_⟩;rintro i m I H2 ⟨hi',em,s,G,B,X⟩;obtain⟨R,st',V⟩:=it H2 B.same i;by_cases g:i<a.length
 . have ed':=rq g;rw[ed']at X;obtain⟨v,e3,X⟩:=t4 X;obtain⟨o4,e4,X⟩:=t4 X;refine .inr ⟨R g,λl n=>∃r k,DS c.K O (B7 H1 N []) r l n k/\aF m5 b4 (a.drop (i+1)) k=U o,λl n z=>⟨a.length-(i+1),by lia,g,rfl,z⟩,λx n y=>?_⟩
   obtain⟨e5,d,ed,dt⟩:=V x n y g;have Q:a[i]=d:=by rw[K7 g]at ed;exact X8 ed
   rw[Q]at e3;refine Z O _ s I n G v x d _ (B.grow e5) (dt s (λb C=>⟨(B.new b C).1,let ⟨_,z⟩:=(B.new b C).2;⟨_,z⟩⟩) B.fx) e3 λt σ4 S4=>?_
   refine C.t O _ t σ4 n v _ o4 S4 e4 ?_;cases o4 with
   |next j=>exact λf u P F=>⟨f,j,F,X⟩
   |cont j=>exact λf u P F=>⟨f,j,F,X⟩
   |brk j=>cases X;assumption
   |ret pv=>cases X;exact L
   |up x=>cases X;exact L
   |retO pv j=>cases X;exact L
 . have T:i=a.length:=by lia
   subst T;rw[FC]at X;cases X;exact .inl ⟨st' F3,L s I H2 B⟩⟩
noncomputable def O3(Fc:DB)(G:DO):Nat->DO
 | 0,_=>J
 |n+1,ds=>(Fc ds).bind λb=>if b=Uf then(G ds).bind λo=>match o with
   | .next ds2=>O3 Fc G n ds2
   | .cont ds2=>O3 Fc G n ds2
   | .brk ds2=>U (.next ds2)
   | .ret pv=>U (.ret pv)
   | .up x=>U (.up x)
   | .retO pv ds2=>U (.retO pv ds2)
  else U (.next ds)
noncomputable def lN(μ:Ds->Nat)(Fc:DB)(G:DO):DO:=λds=>O3 Fc G (μ ds) ds
set_option tactic.hygienic true in
def LP(μ:Ds->Nat)(P:uk (model c.prog c.w) c.A c.env c.xe)(C:lV c e b3 a9)(y:mQ c o3 m3 b4):P5 c (.While e o3 [] p) (Ld b3 m3) (lN μ a9 b4):=⟨RZ P C.p y.p,by
 intro O d M Q H N D o S h q;refine⟨λm i r=>∃k f,DS c.K O d k i r f/\O3 a9 b4 m f=U o,⟨_,M,N,S,h⟩,?_⟩
 rintro m j I ⟨l,g,s,a⟩;cases m with
 |zero=>exact nE a
 |succ m =>
  obtain⟨b,e1,a⟩:=t4 a;refine C.t O d l j I g b _ s e1 λF E=>?_
  cases b with
  |false =>
   cases a;exact q l j F (s.grow E)
  |true =>
   obtain⟨B,e4,a⟩:=t4 a;refine⟨λi r=>∃k f,DS c.K O d k i r f/\O3 a9 b4 m f=U o,λi r z=>⟨m,rh _,z⟩,?_⟩
   refine y.t O d l j F g _ B (s.grow E) e4 ?_;cases B with
   |next X=>exact λn u L v=>⟨n,X,v,a⟩
   |cont X=>exact λn u L v=>⟨n,X,v,a⟩
   |brk X=>cases a;exact q
   |ret pv=>cases a;exact q
   |up x=>cases a;exact q
   |retO pv X=>cases a;exact q⟩
end
def Ju:Out->Option PV
 | .ret pv=>U pv
 | .next _=>U (.dat .none)
 |_=>J
noncomputable def K6(n N:Nat)(G:DO):FV:=λl=>if l.length=n then(G (Q3 l++C2 (N-n) J)).bind Ju else J
section
variable{w:E3}{K:y7}{mg:Str->Option t5}
theorem DS.start(c:∀a∈O,∃u,H a=U u)(h:C7 K (B7 H [] O) M S):DS K O H (C2 (Q3 S++C2 (P.length-S.length) J).length J) (start P M) H (Q3 S++C2 (P.length-S.length) J):=by
 have d:DS K O H (C2 (P.length-S.length) J) (C2 (P.length-S.length) J) H (C2 (P.length-S.length) J):=
  ⟨by simp,v8.refl H,λa z=>absurd z nJ,c,λ_=>[],λi b z=>absurd z B9,λi j b z=>absurd z B9,λi pv z=>by have:=pq z;simp[OX]at this⟩
 have e:(C2 (Q3 S++C2 (P.length-S.length) J).length J:As)=C2 S.length J++C2 (P.length-S.length) J:=by
  congr 1
  simp[Q3]
 rw[e];delta L2.start;rw[h.length];exact(d.pre (by rw[Yi];exact h))
set_option tactic.hygienic true in
def uR.okF {g:List Str} (F:uR K o a7 j6 z d8) (S:kR d9 g (N7 j6)) (R:g.length<=d9.length) (d:∀(c:t5) (A:Z0) (outer:List Env) (s:v7) (H:Hp) (E:XK),O9 m (A.deeper (fP a7 (N7 j6) (hz s) z c)) ->
   ∃t,mQ (qk sV b5 w K mg a6 d9 a7 (N7 j6) z c A outer s H E).AZ (cH j6) t b4):bz b5 w K mg a6 sV (m+1) z d8 g (G4 K (K6 g.length d9.length b4)):=by
 have D:∀j H Q E,G4 K (K6 g.length d9.length b4) j H Q E->j.length=g.length:=λj H Q E h=>by obtain⟨O,n,pv,x,u,a,q⟩:=h;obtain⟨l,a⟩:=J9 a;rw[u.length];exact l
 refine F.ok S D λc A outer s H j Q E B h=>?_
 obtain⟨O,n,pv,x,u,a,q⟩:=h;obtain⟨t,y⟩:=d c A outer s H E B;refine⟨t,y.p,?_⟩;obtain⟨l,a⟩:=J9 a;rw[<-l]at a;obtain⟨P,e1,a⟩:=t4 a;refine y.t O H _ (L2.start d9 j) H _ _ P (DS.start x u) e1 ?_;cases P with
 |next e=>cases a;exact λM L b I=>q _ b I.same Dt.non
 |ret C=>cases a;assumption
 |brk e=>exact nE a
 |cont e=>exact nE a
 |up o=>exact nE a
 |retO pv e=>exact nE a
end
instance {m:Nat} {i:Int}:Decidable (Bt m i):=decidable_of_iff (i.natAbs<2 ^ m) ⟨λh=>⟨h⟩,λh=>h.lt⟩
instance {i j:Int}:Decidable (a2b i j):=by delta a2b;infer_instance
noncomputable def Ig(g:Int->Int->f7):f7->f7->Option PV
 | .int i,.int j=>U (.dat (g i j))
 |_,_=>J
noncomputable def wO(C:Int->Int->Prop)[∀i j,Decidable (C i j)](g:Int->Int->f7):f7->f7->Option PV
 | .int i,.int j=>if C i j then U (.dat (g i j))else J
 |_,_=>J
section
variable{K:y7}
def tD(b:∀i j H,Dt K H (q5 i j) (q9 i j)):dB K (mX q5) (Ig q9):=by
 intro O h H x y d e pv Q D c f a q;cases c with
 |int i =>
  cases f with
  |int j =>
   cases a;exact⟨i,j,rfl,rfl,q _ H (v8.refl H) (b i j _)⟩
  |_=>exact nE a
 |_=>exact nE a
def xF{C c:Int->Int->Prop}[∀i j,Decidable (C i j)](k:∀i j,C i j->c i j)(f:∀i j H,Dt K H (q5 i j) (q9 i j)):dB K (rI c q5) (wO C q9):=by
 intro O n H x y d e pv Q D h l b q;cases h with
 |int i =>
  cases l with
  |int j =>
   have a:=b;obtain⟨m,a⟩:=J9 a;cases a;exact⟨i,j,rfl,rfl,k i j m,q _ H (v8.refl H) (f i j _)⟩
  |_=>exact nE b
 |_=>exact nE b
def df:=Ig λi j=>.int (i-j)
noncomputable def R5:=wO (λi j=>Bt 60000 i/\Bt 60000 j) λi j=>.int (i*j)
def bh:=wO (λ_ j=>j≠0/\Bt 8000 j) λi j=>.int (i.fdiv j)
def gJ:=wO (λ_ j=>j≠0) λi j=>.int (i.fmod j)
def IZ:=wO (λ_ j=>0<=j) λi j=>.int (i/2 ^ j.toNat)
def tL:=Ig λi j=>.bool (decide (i<j))
def oq:=Ig λi j=>.bool (decide (i<=j))
def ye:=Ig λi j=>.bool (decide (j<i))
def Il:=Ig λi j=>.bool (decide (j<=i))
def a2e:dB K (mX λi j=>.int (i-j)) df:=tD λi j H=>.int _
def a2h:dB K (rI (λi j=>Bt 60000 i/\Bt 60000 j) λi j=>.int (i*j)) R5:=xF (λ_ _ h=>h) λi j H=>.int _
def YS:dB K (rI (λ_ j=>j≠0/\Bt 8000 j) λi j=>.int (i.fdiv j)) bh:=xF (λ_ _ h=>h) λi j H=>.int _
def a2i:dB K (rI (λ_ j=>j≠0) λi j=>.int (i.fmod j)) gJ:=xF (λ_ _ h=>h) λi j H=>.int _
def a2f:dB K (rI (λ_ j=>0<=j) λi j=>.int (i/2 ^ j.toNat)) IZ:=xF (λ_ _ h=>h) λi j H=>.int _
def YN:dB K (mX λi j=>.bl (decide (i<j))) tL:=tD λi j H=>.bl _
def YQ:dB K (mX λi j=>.bl (decide (i<=j))) oq:=tD λi j H=>.bl _
def a4l:dB K (mX λi j=>.bl (decide (j<i))) ye:=tD λi j H=>.bl _
def a4m:dB K (mX λi j=>.bl (decide (j<=i))) Il:=tD λi j H=>.bl _
def di:f7->Option PV
 | .int i=>U (.dat (.int (-i)))
 |_=>J
def a2g:R1X K (rU λi=>.int (-i)) di:=by
 intro O c H x d pv Q D b a q;cases b with
 |int i=>cases a;exact⟨i,rfl,q _ H (v8.refl H) (Dt.int _)⟩
 |_=>exact nE a
noncomputable def S5:f7->f7->Option PV
 | .str i,.str j=>U (.dat (.bool (decide (i=j))))
 |d,e=>if aT d=Uf/\aT e=Uf then U (.dat (.bool (V8 d e)))else J
noncomputable def iH:f7->f7->Option PV
 | .str i,.str j=>U (.dat (.bool (!decide (i=j))))
 |d,e=>if aT d=Uf/\aT e=Uf then U (.dat (.bool (!PyData.eqv d e)))else J
def Jg(K:y7):R2:=λx y H Q=>rEq x y H Q\/∃d e,Dt K H x d/\Dt K H y e/\aT d=Uf/\aT e=Uf/\Q (.bl (V8 d e)) H
def Rp(K:y7):R2:=λx y H Q=>rNe x y H Q\/∃d e,Dt K H x d/\Dt K H y e/\aT d=Uf/\aT e=Uf/\Q (.bl (!PyData.eqv d e)) H
def Mp(a:c.A.units+64<S7):V3 c (X5 .Eq) (Jg c.K):=a2L.or (a0H a)
def a0D(a:c.A.units+64<S7):V3 c (X5 .NotEq) (Rp c.K):=a2I.or (a0E a)
set_option tactic.hygienic true in
def YT:dB K (Jg K) S5:=by
 intro O g H x y d e pv Q D b f a q;unfold S5 at a;split at a;cases a;cases b;cases f;rename_i i j;exact .inl ⟨rfl,q _ H (v8.refl H) (by rw[show decide (V.str i=V.str j)=decide (i=j) by simp];exact Dt.bl _)⟩;obtain⟨c,a⟩:=J9 a;cases a;exact .inr ⟨d,e,b.same B5,f.same B5,c.1,c.2,q _ H (v8.refl H) (Dt.bl _)⟩
set_option tactic.hygienic true in
def a4j:dB K (Rp K) iH:=by
 intro O g H x y d e pv Q D b f a q;unfold iH at a;split at a;cases a;cases b;cases f;rename_i i j;exact .inl ⟨rfl,q _ H (v8.refl H) (by rw[show decide (V.str i=V.str j)=decide (i=j) by simp];exact Dt.bl _)⟩;obtain⟨c,a⟩:=J9 a;cases a;exact .inr ⟨d,e,b.same B5,f.same B5,c.1,c.2,q _ H (v8.refl H) (Dt.bl _)⟩
def nK:f7->Bool
 | .none=>Uf
 |_=>U'
def Dt.HL(h:Dt K H a8 e9):decide (a8=.non)=nK e9:=by cases h<;>rfl
def jc:f7->f7->Option PV
 |d,.none=>U (.dat (.bool (nK d)))
 |_,_=>J
def gQ:f7->f7->Option PV
 |d,.none=>U (.dat (.bool (!nK d)))
 |_,_=>J
def YR:dB K (λx y H Q=>y=.non/\Q (.bl (decide (x=.non))) H) jc:=by
 intro O f H x y d e pv Q D b c a q;cases c with
 |non=>cases a;exact⟨rfl,q _ H (v8.refl H) (by rw[b.HL];exact Dt.bl _)⟩
 |_=>exact nE a
def VW:dB K (λx y H Q=>y=.non/\Q (.bl (!decide (x=.non))) H) gQ:=by
 intro O f H x y d e pv Q D b c a q;cases c with
 |non=>cases a;exact⟨rfl,q _ H (v8.refl H) (by rw[b.HL];exact Dt.bl _)⟩
 |_=>exact nE a
noncomputable def E5(d:f7):f7->Option PV
 | .int i=>match d with
  | .list l=>(aG l i).bind λd=>U (.dat d)
  | .tuple l=>(aG l i).bind λd=>U (.dat d)
  | .str z=>if z.length<=1000000 then(aG z.cps.toList i).bind λc=>U (.dat (.str ⟨#[c]⟩))else J
  |_=>J
 |_=>J
theorem C7.aG{H:Hp}{xs:List V}{l:List f7}{i:Int}{d:f7}(h:C7 K H xs l)(e:L2.aG l i=U d):∃x,L2.aG xs i=U x/\Dt K H x d:=by
 unfold L2.aG at e ⊢;rw[h.length];cases hi:jy l.length i with
 |none=>simp_all
 |some j =>
  rw[hi]at e;exact h.get e
def a4k:dB K (Hw K) E5:=by
 intro O r H x y d e pv Q D p m f q;cases m with
 |int i=>cases p with
  |lst j n =>
   obtain⟨d,a,b⟩:=t4 f;cases b;obtain⟨v,h,k⟩:=n.aG a;exact .inl ⟨_,_,i,v,rfl,rfl,B5.seq j,h,q v H (v8.refl H) k⟩
  |tup j n =>
   obtain⟨d,a,b⟩:=t4 f;cases b;obtain⟨v,h,k⟩:=n.aG a;exact .inr (.inl ⟨_,_,i,v,rfl,rfl,B5.fj j,h,q v H (v8.refl H) k⟩)
  |str z =>
   obtain⟨o,b⟩:=J9 f;obtain⟨c,a,b⟩:=t4 b;cases b;exact .inr (.inr ⟨z,i,c,rfl,rfl,pF o,a,q _ H (v8.refl H) (Dt.str _)⟩)
  |_=>exact nE f
 |_=>exact nE f
end
def Vo(K:y7):R2:=λx y H Q=>∃a b xs ys,x=.ref a/\y=.ref b/\W4 K H a xs/\W4 K H b ys/\xs.length+ys.length<=F0 /\
 (xs=[]->Q (.ref b) H)/\(xs≠[]->ys=[]->Q (.ref a) H)/\(xs≠[]->ys≠[]->∀p,H p=J->Q (.ref p) (upd H p (.tup (xs++ys))))
def Vp(K:y7):R2:=λx y H Q=>∃a b xs ys,x=.ref a/\y=.ref b/\N5 K H a xs/\N5 K H b ys/\xs.length+ys.length<=F0/\∀p,H p=J->Q (.ref p) (upd H p (.lst (xs++ys)))
def XD:V3 c (aK .Add) (Vo c.K):=by
 intro X s q H x y v u Q I f l h;obtain⟨a,b,g,w,rfl,rfl,i,j,t,n,q2,B⟩:=h;by_cases d:g=[];subst d;cases f;cases l;obtain⟨A,o,z,_⟩:=I.tuple i;obtain⟨k,C,r,_⟩:=I.tuple j;exact Yu z r (o.vq.mpr rfl) ⟨.ref b,H,I,rfl,n rfl⟩;exact XE X s q H (.ref a) (.ref b) v u Q I f l ⟨a,b,g,w,rfl,rfl,i,j,d,t,λe=>q2 d e,λe p m=>B d e p m⟩
def XF:V3 c (aK .Add) (Vp c.K):=by
 intro w s V H x y v u Q I A P h;obtain⟨l,b,R,Y,rfl,rfl,G,B,W,q⟩:=h;cases A;cases P;obtain⟨X,r,L,S⟩:=I.list G;obtain⟨a,m,E,T⟩:=I.list B;obtain⟨⟨N,M,o,C⟩,t,D,n,O⟩:=L.isList;obtain⟨⟨p,f,g,i⟩,d,k,z,j⟩:=E.isList;subst D O k j;have e:X.toArray++a.toArray=(X++a).toArray:=by simp
 have:=r.length;have:=m.length;refine yQ ⟨_,t,rfl⟩ ⟨_,d,rfl⟩ noFill_list_add seq_list_add PySem.F.slot_list_add PySem.F.entry_list_add (PySem.F.args_list_add_2 _ _) (list_addW l b X.toArray a.toArray n z M f C i (by simp;simp_all)) ⟨t,d,?_⟩;rw[e];exact⟨.ref _,_,I.a0Y (r.append m) (by rw[aa];subst_vars;assumption),rfl,q _ I.fresh⟩
def Ji(K:y7):R2:=λx y H Q=>(mX λi j=>.int (i+j)) x y H Q\/(∃i j,x=.str i/\y=.str j/\i.length+j.length<=F0/\Q (.str (i++j)) H)\/Vo K x y H Q\/Vp K x y H Q
def XG:V3 c (aK .Add) (Ji c.K):=a0I.or (Jw.or (XD.or XF))
noncomputable def F9:f7->f7->Option PV
 | .int i,.int j=>U (.dat (.int (i+j)))
 | .str i,.str j=>if i.length+j.length<=1000000 then U (.dat (.str (i++j)))else J
 | .tuple l,.tuple m=>if l.length+m.length<=1000000 then U (.dat (.tuple (l++m)))else J
 | .list l,.list m=>if l.length+m.length<=1000000 then U (.own (l++m))else J
 |_,_=>J
set_option tactic.hygienic true in
def a2n:dB g (Ji g) F9:=by
 intro O A H x y d e pv Q D w r K q;cases w with
 |int i =>
  cases r with
  |int j=>cases K;exact .inl ⟨i,j,rfl,rfl,q _ H (v8.refl H) (Dt.int _)⟩
  |_=>exact nE K
 |str i =>
  cases r with
  |str j =>
   have c:=K;obtain⟨o,c⟩:=J9 c;cases c;exact .inr (.inl ⟨i,j,rfl,rfl,pF o,q _ H (v8.refl H) (Dt.str _)⟩)
  |_=>exact nE K
 |tup s k =>
  cases r with
  |tup h f =>
   rename_i a t l b u m;have c:=K;obtain⟨o,c⟩:=J9 c;cases c;refine .inr (.inr (.inl ⟨a,b,t,u,rfl,rfl,B5.fj s,B5.fj h,by rw[k.length,f.length];exact pF o,λe=>?_,λz v=>?_,λz v p n=>?_⟩));subst e;cases k;exact q _ H (v8.refl H) (Dt.tup h f);subst v;cases f;rw[bw]at q;exact q _ H (v8.refl H) (Dt.tup s k);exact q _ _ (v8.new n) (xB D n (k.append f))
  |_=>exact nE K
 |lst s k =>
  cases r with
  |lst h f =>
   rename_i a t l b u m;have c:=K;obtain⟨o,c⟩:=J9 c;cases c;exact .inr (.inr (.inr ⟨a,b,t,u,rfl,rfl,B5.seq s,B5.seq h,by rw[k.length,f.length];exact pF o,λp n=>q _ _ (v8.new n) (jr n (k.append f))⟩))
  |_=>exact nE K
 |_=>exact nE K
noncomputable def cutD(xs:List d3)(lo hi:Option Int):List d3:=(xs.drop (HT.P0 xs.length 0 lo)).take (HT.P0 xs.length xs.length hi-HT.P0 xs.length 0 lo)
def C7.cut(h:C7 g H M S)(lo a:Option Int):C7 g H (rZ M lo a) (cutD S lo a):=by delta rZ cutD;rw[h.length];exact(h.drop _).take _
def ZJ(K:y7):V->Option Int->Option Int->Hp->VK->Prop:=λx lo hi H Q=>∃a xs,x=.ref a/\W4 K H a xs/\(rZ xs lo hi=xs->Q (.ref a) H)/\∀p,H p=J->Q (.ref p) (upd H p (.tup (rZ xs lo hi)))
def Wv:we c (ZJ c.K):=by
 intro d s u H x v p q o j w Q I g m k l h;obtain⟨a,b,rfl,i,t,q2⟩:=h;by_cases e:HT.P0 b.length 0 o=0/\HT.P0 b.length b.length j=b.length
 . cases g;obtain⟨f,r,n,y⟩:=I.tuple i;have X:f.toArray.size=b.length:=by rw[W0];exact r.length.symm
   refine⟨"tuple",_,PyProof.Rows.slot_tuple_getitem.lookup,n.typeIs,?_⟩;refine BG n m k l (by rw[X];exact e) ⟨.ref a,H,I,rfl,t ?_⟩
   delta rZ;simp_all
 exact Zu d s u H (.ref a) v p q o j w Q I g m k l ⟨a,b,rfl,i,e,q2⟩
def ZL(K:y7):V->Option Int->Option Int->Hp->VK->Prop:=λx lo hi H Q=>ZJ K x lo hi H Q\/ZK K x lo hi H Q
def Zv:we c (ZL c.K):=Wv.or Ww
noncomputable def sF:f7->Option Int->Option Int->Option PV
 | .tuple l,lo,hi=>U (.dat (.tuple (cutD l lo hi)))
 | .list l,lo,hi=>U (.own (cutD l lo hi))
 |_,_,_=>J
def R3X(K:y7)(r:V->Option Int->Option Int->Hp->VK->Prop)(f:f7->Option Int->Option Int->Option PV):Prop:=
 ∀(O:List Addr) (va:As) (H:Hp) (x:V) (lo hi:Option Int) (d:f7) (pv:PV) (Q:VK),ry H va O->Dt K (B7 H va O) x d->f d lo hi=U pv->(∀v H',v8 H H'->RX K O va H H' v pv->Q v H')->r x lo hi H Q
def a4i:R3X g (ZL g) sF:=by
 intro O k H x h f d pv Q D j K q;cases j with
 |tup b c =>
  cases K;refine .inl ⟨_,_,rfl,B5.fj b,λe=>?_,λp a=>q _ _ (v8.new a) (xB D a (c.cut h f))⟩;have i:=c.cut h f;rw[e]at i;exact q _ H (v8.refl H) (Dt.tup b i)
 |lst b c =>
  cases K;exact .inr ⟨_,_,rfl,B5.seq b,λp a=>q _ _ (v8.new a) (jr a (c.cut h f))⟩
 |_=>exact nE K
def TOX(K:y7)(to:TO)(F:Ds->Option (Option Int)):Prop:=
 ∀(O:List Addr) (E1:Hp) (as:As) (σ:St) (H:Hp) (ds:Ds) (b:Option Int) (Q:Option Int->Hp->Prop),DS K O E1 as σ H ds->F ds=U b->(∀H',v8 H H'->Q b H')->to σ H Q
structure VS(X:Cx)(e:Option Expr)(to:TO)(F:Ds->Option (Option Int)):Prop where
 p:PO X e to
 t:TOX X.K to F
noncomputable def vp:Ds->Option (Option Int):=λ_=>U J
def asI:f7->Option Int
 | .int i=>U i
 |_=>J
noncomputable def aP(F:DV):Ds->Option (Option Int):=λds=>(F ds).bind λpv=>(asI pv.d).bind λi=>U (U i)
def Sf:VS c J He vp:=⟨Xn,by intro O a e f H d b Q S X q;cases X;exact q H (v8.refl H)⟩
def Se{fr:Bool}(h:PX c fr e G r):VS c (U e) (Vc G) (aP r):=⟨Xm h.p,by
 intro O X k l H f b Q S a q;obtain⟨pv,h1,a⟩:=t4 a;refine h.t O X k l H f pv _ S h1 λv g m j=>?_
 have d:=j.dt S.dm;generalize pv.d=z at d a;cases d with
 |int i=>cases a;exact⟨i,rfl,q g m⟩
 |_=>exact nE a⟩
noncomputable def oy(f:f7->Option Int->Option Int->Option PV)(F:DV)(Fl Fh:Ds->Option (Option Int)):DV:=λds=>(F ds).bind λx=>(Fl ds).bind λlo=>(Fh ds).bind λhi=>f x.d lo hi
def Rv{r:V->Option Int->Option Int->Hp->VK->Prop}{f:f7->Option Int->Option Int->Option PV}{lo t:Option Expr}{z u:TO}{n o:Ds->Option (Option Int)}(N:we c r)(C:R3X c.K r f)(s:PX c I e G d6)(y:VS c lo z n)(B:VS c t u o):
  PX c I (.Subscript e (.Slice lo t J p) A) (tSl r G z u) (oy f d6 n o):=⟨So N s.p y.p B.p,by
 intro O a k m H X pv Q S b q;unfold oy at b;cases h1:d6 X with
 |none=>simp_all
 |some x =>
  cases h2:n X with
  |none=>rw[h1,h2]at b;exact nE b
  |some l =>
   cases h3:o X with
   |none=>rw[h1,h2,h3]at b;exact nE b
   |some h =>
    rw[h1,h2,h3]at b;refine s.t O a k m H X x _ S h1 λv L g D=>?_;refine y.t O a k m L X l _ (S.grow g) h2 λM i=>?_;refine B.t O a k m M X h _ ((S.grow g).grow i) h3 λd j=>?_;refine C O (aw I k) d v l h x.d pv Q (((S.grow g).grow i).grow j).dm ((D.grow (i.trans j)).dt S.dm) b λw P E F=>?_
    exact q w P (((g.trans i).trans j).trans E) (F.back ((g.trans i).trans j))⟩
section
def d1(f:f7->Option PV):FV
 | [d]=>f d
 |_=>J
def oG.one(h:R1X g (λx=>o2 [x]) p8):oG g o2 (d1 p8):=by
 intro O c H K i pv Q D b a q;cases b with
 |nil=>exact nE a
 |cons e t =>
  cases t with
  |nil=>exact h O c H _ _ pv Q D e a q
  |cons _ _=>exact nE a
def Rr(K:y7):List V->Hp->VK->Prop:=λxs H Q=>(∃p ys,xs=[.ref p]/\(N5 K H p ys\/W4 K H p ys)/\Q (.int ys.length) H)\/(∃z,xs=[.str z]/\z.length<=F0/\Q (.int z.length) H)
def Ob:ae c (.builtin "len") (Rr c.K):=Es.or Er
noncomputable def F6:FV:=d1 fun
 | .list l=>U (.dat (.int (l.length:Nat)))
 | .tuple l=>U (.dat (.int (l.length:Nat)))
 | .str z=>if z.length<=1000000 then U (.dat (.int (z.length:Nat)))else J
 |_=>J
def C7.inv1(h:C7 g H M [e9]):∃x,M=[x]/\Dt g H x e9:=by
 cases h with
 |cons h t=>cases t;exact⟨_,rfl,h⟩
def C7.inv2{e:f7}(h:C7 g H M [e9,e]):∃x y,M=[x,y]/\Dt g H x e9/\Dt g H y e:=by
 cases h with
 |cons h t =>
  cases t with
  |cons a t=>cases t;exact⟨_,_,rfl,h,a⟩
def a2l:oG g (Rr g) F6:=.one λO K H x i pv Q D b a q=>by
 cases b with
 |lst c d=>cases a;exact .inl ⟨_,_,rfl,.inl (B5.seq c),q _ H (v8.refl H) (by rw[d.length];exact Dt.int _)⟩
 |tup c d=>cases a;exact .inl ⟨_,_,rfl,.inr (B5.fj c),q _ H (v8.refl H) (by rw[d.length];exact Dt.int _)⟩
 |str =>
  obtain⟨e,a⟩:=J9 a;cases a;exact .inr ⟨_,rfl,pF e,q _ H (v8.refl H) (Dt.int _)⟩
 |_=>exact nE a
noncomputable def qo:FV:=d1 fun
 | .int i=>U (.dat (.int (if i<0 then -i else i)))
 |_=>J
def a2o:oG g (λxs H Q=>∃i,xs=[.int i]/\Q (.int (if i<0 then -i else i)) H) qo:=.one λO c H x d pv Q D b a q=>by
 cases b with
 |int=>cases a;exact⟨_,rfl,q _ H (v8.refl H) (Dt.int _)⟩
 |_=>exact nE a
def maxD:FV
 | [.int i,.int j]=>U (.dat (.int (if j>i then j else i)))
 |_=>J
def a2j:oG g (λxs H Q=>∃i j,xs=[.int i,.int j]/\Q (.int (if j>i then j else i)) H) maxD:=by
 intro O d H xs e pv Q D b a q;unfold maxD at a;split at a;cases a;obtain⟨x,y,rfl,h,c⟩:=b.inv2;cases h;cases c;exact⟨_,_,rfl,q _ H (v8.refl H) (Dt.int _)⟩;exact nE a
noncomputable def fH:FV:=d1 fun
 | .list l=>U (.dat (.tuple l))
 | .tuple l=>U (.dat (.tuple l))
 |_=>J
def VV:oG g (λxs H Q=>∃p ys,xs=[.ref p]/\((N5 g H p ys/\∀l,H l=J->Q (.ref l) (upd H l (.tup ys)))\/(W4 g H p ys/\Q (.ref p) H))) fH:=.one λO f H x K pv Q D d a q=>by
 cases d with
 |lst b c=>cases a;exact⟨_,_,rfl,.inl ⟨B5.seq b,λp e=>q _ _ (v8.new e) (xB D e c)⟩⟩
 |tup b c=>cases a;exact⟨_,_,rfl,.inr ⟨B5.fj b,q _ H (v8.refl H) (Dt.tup b c)⟩⟩
 |_=>exact nE a
noncomputable def pK:FV:=d1 fun
 | .list l=>U (.own l)
 | .tuple l=>U (.own l)
 |_=>J
def YO:oG g (λxs H Q=>∃p ys,xs=[.ref p]/\(N5 g H p ys\/W4 g H p ys)/\∀l,H l=J->Q (.ref l) (upd H l (.lst ys))) pK:=.one λO f H x K pv Q D e b q=>by
 cases e with
 |lst c d=>cases b;exact⟨_,_,rfl,.inl (B5.seq c),λp a=>q _ _ (v8.new a) (jr a d)⟩
 |tup c d=>cases b;exact⟨_,_,rfl,.inr (B5.fj c),λp a=>q _ _ (v8.new a) (jr a d)⟩
 |_=>exact nE b
def intD:FV
 | [.int i]=>U (.dat (.int i))
 | [.bool k]=>U (.dat (.int (if k then 1 else 0)))
 |_=>J
def boolsOf:List f7->Option (List Bool)
 | []=>U []
 | .bool b::r=>(boolsOf r).bind λl=>U (b::l)
 |_=>J
def qm:FV
 | [.list l]=>(boolsOf l).bind λbs=>U (.dat (.bool (bs.all id)))
 |_=>J
theorem C7.bools{K:y7}{H:Hp}:∀{l:List f7} {xs:List V} {bs:List Bool},C7 K H xs l->boolsOf l=U bs->xs=bs.map V.bl
 | [],_,_,h,e=>by cases e;cases h;rfl
 |d::r,xs,bs,h,e=>by
  cases h with
  |cons h t =>
   cases h with
   |bl b =>
    have a:=e;obtain⟨l,h1,a⟩:=t4 a;cases a;rw[t.bools h1];rfl
   |_=>exact nE e
set_option tactic.hygienic true in
def a2m{A:Z0}(c:A.handled=J):oG g (λxs H Q=>∃(p:Addr) (bs:List Bool),xs=[.ref p]/\N5 g H p (bs.map V.bl)/\A.handled=J/\Q (.bl (bs.all id)) H) qm:=by
 intro O K H xs i pv Q D b a q;unfold qm at a;split at a
 . rename_i l;obtain⟨bs,h1,a⟩:=t4 a;cases a;obtain⟨x,rfl,h⟩:=b.inv1;cases h with
   |lst d f =>
    have e:=f.bools h1;subst e;exact⟨_,bs,rfl,B5.seq d,c,q _ H (v8.refl H) (Dt.bl _)⟩
 exact nE a
noncomputable def U4(n:String)(F:DV):DV:=λds=>(F ds).bind λx=>if BS x.d=Uf then J else U (.dat (.bool (DM x.d n)))
set_option tactic.hygienic true in
def WT(x:jD l7)(m:Gl c o)(C:c.mg o=J)(B:eL o=U (.builtin "isinstance"))(h:PX c I e G r)(u:PE c E (tC (.ty l7)))(D:autoParam (o ≠ "__name__") H0)(i:autoParam ((o==("__debug__" : Str))=U') H0)(f:autoParam (w4 [e,E] c.env=(U',eval e c.env)::w4 [E] c.env) t8)(j:autoParam (w4 [E] c.env=(U',eval E c.env)::w4 [] c.env) t8)(g:autoParam ((H9 A (w4 [E] c.env)).any (·.1)=U') t8):
  PX c I (.Call (.Name o p) [e,E] [] A) (xu (λxs H Q=>∃o l7 d,xs=[o,.ty l7]/\Dt c.K H o d/\BS d=U'/\jD l7/\Q (.bl (DM d l7)) H) (jl G (jl (tC (.ty l7)) nY))) (U4 l7 r):=
 ⟨CV Ux m C B (iW h.p (iW u qy j) f) D i f g,by
 intro O b z X H l pv Q S a q;obtain⟨w,h1,a⟩:=t4 a;split at a;exact nE a
 . rename_i k;cases a;refine h.t O b z X H l w _ S h1 λv y s F=>?_
   exact⟨v,l7,w.d,rfl,(F.dt S.dm).same B5,by simpa using k,x,q _ y s (Dt.bl _)⟩⟩
end
abbrev a2u(K:y7):List V->Hp->VK->Prop:=λxs H Q=>∃p ys,xs=[.ref p]/\((N5 K H p ys/\∀l,H l=J->Q (.ref l) (upd H l (.tup ys)))\/(W4 K H p ys/\Q (.ref p) H))
abbrev ZN(K:y7):List V->Hp->VK->Prop:=λxs H Q=>∃p ys,xs=[.ref p]/\(N5 K H p ys\/W4 K H p ys)/\∀l,H l=J->Q (.ref l) (upd H l (.lst ys))
def Jh(K:y7):List V->Hp->VK->Prop:=λxs H Q=>∃(p:Addr) (bs:List Bool),xs=[.ref p]/\N5 K H p (bs.map V.bl)/\Q (.bl (bs.all id)) H
def Od(d:c.A.handled=J):ae c (.builtin "all") (Jh c.K):=λa s f H b X Q I r h=>by obtain⟨p,bs,e,g,q⟩:=h;exact Uy a s f H b X Q I r ⟨p,bs,e,g,d,q⟩
def YU:oG g (Jh g) qm:=by intro O d H b f pv Q D a c q;obtain⟨p,bs,e,K,_,z⟩:=a2m (A:=lX) rfl O d H b f pv Q D a c q;exact⟨p,bs,e,K,z⟩
def RF(i:c.K=g)(G:bz c.prog c.w g c.mg c.base i9 m z d8 P (G4 g i7))(n:O9 m c.A)(h:Gl c o)(r:c.mg o=U (.ref z))(t:hP g (.ref z)=Uf)(j:Binds g d8 P [])(l:Passes i9 c g8)(q:et c I (e::Z) N Y)(a:autoParam ((o==("__debug__" : Str))=U') H0)(X:autoParam (w4 (e::Z) c.env=(U',eval e c.env)::w4 Z c.env) t8)(b:autoParam ((H9 A (w4 Z c.env)).any (·.1)=U') t8):
  PX c I (.Call (.Name o p) (e::Z) [] A) (rC (G4 g i7) [] g8 N) (f9 i7 Y):=by subst i;exact WV G n h r t j l q a X b
def a2v(K:y7):List V->Hp->VK->Prop:=λxs H Q=>∃x n d,xs=[x,.ty n]/\Dt K H x d/\BS d=U'/\jD n/\Q (.bl (DM d n)) H
def oe(i:c.K=g)(j:jD l7)(X:Gl c o)(l:c.mg o=J)(k:eL o=U (.builtin "isinstance"))(h:PX c I e G r)(m:PE c E (tC (.ty l7)))(F:autoParam (o ≠ "__name__") H0)(a:autoParam ((o==("__debug__" : Str))=U') H0)(d:autoParam (w4 [e,E] c.env=(U',eval e c.env)::w4 [E] c.env) t8)(f:autoParam (w4 [E] c.env=(U',eval E c.env)::w4 [] c.env) t8)(b:autoParam ((H9 A (w4 [E] c.env)).any (·.1)=U') t8):
  PX c I (.Call (.Name o p) [e,E] [] A) (xu (a2v g) (jl G (jl (tC (.ty l7)) nY))) (U4 l7 r):=by subst i;exact WT j X l k h m F a d f b
def Kf:jD "tuple":=.inl rfl
def Nw:jD "list":=.inr (.inl rfl)
def Nx:jD "bool":=.inr (.inr (.inl rfl))
def TZ:jD "int":=.inr (.inr (.inr (.inl rfl)))
def TY:jD "str":=.inr (.inr (.inr (.inr rfl)))
noncomputable def JJ(i:Nat)(ds:Ds):Nat:=match ds[i]? with
 |some (U (.dat (.int k)))=>k.natAbs+1
 |_=>0
def Wu(h:N5 g H z M):N5 g (B7 H [] []) z M:=by assumption
def Ui:∀ns:List Int,C7 g H (ns.map V.int) (ns.map Z7):=by
 intro l_;induction l_ with
 |nil =>
  exact .nil
 |cons n r ih_ =>
  exact .cons (.int n) (ih_)
def Yq(r:RX g [] [] H q a8 (.dat (.bool Uf))):a8=.bl Uf:=by cases r;rfl
def bR(o:Option Out)(G:DO):Option Out:=o.bind λo=>match o with
 | .next ds'=>G ds'
 |o=>U o
def B8(a G2:DO)(ds:Ds):t9 a G2 ds=bR (a ds) G2:=rfl
def A4(ds:Ds)(G:DO):bR (U (.next ds)) G=G ds:=rfl
def Cy(pv:PV)(G:DO):bR (U (.ret pv)) G=U (.ret pv):=rfl
def Rh(ds:Ds)(G:DO):bR (U (.brk ds)) G=U (.brk ds):=rfl
def Lv(ds:Ds)(G:DO):bR (U (.cont ds)) G=U (.cont ds):=rfl
def UD(b:Bool):Oh (.bool b)=U b:=rfl
def Yz(i:Int):asI (.int i)=U i:=rfl
def Jb(l:List f7):kX (.list l)=U l:=rfl
def Lu(l:List f7):kX (.tuple l)=U l:=rfl
def SF(pv:PV):Ju (.ret pv)=U pv:=rfl
def Mm(ds:Ds):Ju (.next ds)=sd .none:=rfl
noncomputable def a1c(o:Option PV)(i:Nat)(ds:Ds):Option Out:=o.bind λpv=>U (.next (ds.set i (U (.dat pv.d))))
def eH(i:Nat)(F:DV)(ds:Ds):u9 i F ds=a1c (F ds) i ds:=rfl
def tQ(pv:PV)(i:Nat)(ds:Ds):a1c (U pv) i ds=U (.next (ds.set i (sd pv.d))):=rfl
def JW(o:Option PV)(i:Nat)(ds:Ds):Option Out:=o.bind λpv=>U (.next (ds.set i (U pv)))
def Ar(i:Nat)(F:DV)(ds:Ds):R9 i F ds=JW (F ds) i ds:=rfl
def MV(pv:PV)(i:Nat)(ds:Ds):JW (U pv) i ds=U (.next (ds.set i (U pv))):=rfl
noncomputable def Ey(o:Option PV)(i:Nat)(ds:Ds):Option Out:=o.bind λpv=>match ds[i]? with
 |some (U (.own l))=>if l.length<1000000 then U (.next (ds.set i (U (.own (l++[pv.d])))))else J
 |_=>J
def kI(i:Nat)(F:DV)(ds:Ds):dk i F ds=Ey (F ds) i ds:=rfl
def pT(pv:PV)(h:L[m]? = U (U (.own S)))(a:S.length<1000000):Ey (U pv) m L=U (.next (L.set m (U (.own (S++[pv.d]))))):=by
 delta Ey
 simp_all
abbrev iD(n:Int):Option PV:=U (.dat (.int n))
def a3t(x:d3)(l:List d3):aG (x::l) 0=U x:=by delta aG jy;rw[t2 f5,t2 B9];rfl
def dQ{l:List d3}{n:Nat}(a:a2=(n:Int))(h:n<l.length):aG l a2=l[n]?:=by subst a;delta aG jy;rw[t2 B4,t2 B4];simp
def a3s(x y:d3)(l:List d3):aG (x::y::l) 1=U y:=dQ rfl B9
def a3r(x y z:d3)(l:List d3):aG (x::y::z::l) 2=U z:=dQ rfl B9
def a3q(x y z u:d3)(l:List d3):aG (x::y::z::u::l) 3=U u:=dQ rfl B9
def a3p(x y z u v:d3)(l:List d3):aG (x::y::z::u::v::l) 4=U v:=dQ rfl B9
def a3o(x y z u v w:d3)(l:List d3):aG (x::y::z::u::v::w::l) 5=U w:=dQ rfl B9
def a3n(x y z u v w a:d3)(l:List d3):aG (x::y::z::u::v::w::a::l) 6=U a:=dQ rfl B9
def UG(i j:Int):F9 (.int i) (.int j)=sd (.int (i+j)):=rfl
def QV(i j:Int):df (.int i) (.int j)=sd (.int (i-j)):=rfl
def D8(h:Bt 60000 a2)(k:Bt 60000 i5):R5 (.int a2) (.int i5)=sd (.int (a2*i5)):=by
 delta R5 wO
 simp_all
def S0(h:i5≠0)(k:Bt 8000 i5):bh (.int a2) (.int i5)=sd (.int (a2.fdiv i5)):=by
 delta bh wO
 simp_all
def eF(h:i5≠0):gJ (.int a2) (.int i5)=sd (.int (a2.fmod i5)):=t2 h
def Rb(h:0<=i5):IZ (.int a2) (.int i5)=sd (.int (a2/2 ^ i5.toNat)):=t2 h
def XX(i j:Int):tL (.int i) (.int j)=sd (.bool (decide (i<j))):=rfl
def Ya(i j:Int):oq (.int i) (.int j)=sd (.bool (decide (i<=j))):=rfl
def Yk(i j:Int):ye (.int i) (.int j)=sd (.bool (decide (j<i))):=rfl
def Yl(i j:Int):Il (.int i) (.int j)=sd (.bool (decide (j<=i))):=rfl
def rS(i j:Int):S5 (.int i) (.int j)=sd (.bool (decide (i=j))):=by rfl
def Ta(i j:Int):iH (.int i) (.int j)=sd (.bool (!decide (i=j))):=by rfl
def Ue(i j:Str):S5 (.str i) (.str j)=sd (.bool (decide (i=j))):=by rfl
def SY(i j:Str):iH (.str i) (.str j)=sd (.bool (!decide (i=j))):=by rfl
def vw(l:List f7)(i:Int):E5 (.tuple l) (.int i)=(aG l i).bind λd=>sd d:=rfl
def TB(l:List f7)(i:Int):E5 (.list l) (.int i)=(aG l i).bind λd=>sd d:=rfl
def UH(i:Int):qo [.int i]=sd (.int (if i<0 then -i else i)):=rfl
def SX(i:Int):di (.int i)=sd (.int (-i)):=rfl
def MW(l:List f7):F6 [.list l]=sd (.int (l.length:Nat)):=rfl
def Tp(l:List f7):F6 [.tuple l]=sd (.int (l.length:Nat)):=rfl
def La(l:List f7):fH [.list l]=sd (.tuple l):=rfl
def QL(l:List f7):fH [.tuple l]=sd (.tuple l):=rfl
def JT(l:List f7):pK [.list l]=U (.own l):=rfl
def MT(l:List f7):pK [.tuple l]=U (.own l):=rfl
def UE{m:List f7}(h:S.length+m.length<=1000000):F9 (.tuple S) (.tuple m)=sd (.tuple (S++m)):=t2 h
def Oi{m:List f7}(h:S.length+m.length<=1000000):F9 (.list S) (.list m)=U (.own (S++m)):=t2 h
def Wx(l:List f7)(lo a:Option Int):sF (.tuple l) lo a=sd (.tuple (cutD l lo a)):=rfl
def QZ(l:List f7)(lo a:Option Int):sF (.list l) lo a=U (.own (cutD l lo a)):=rfl
def TC(d:f7):jc d .none=sd (.bool (nK d)):=rfl
def GR(d:f7):gQ d .none=sd (.bool (!nK d)):=rfl
def bS(h : -(4611686018427387904)<=a2/\a2<4611686018427387904):R4 [.int a2]=U (bc 0 a2.toNat):=@if_pos _ (zu _) h _ _ _
def CD(h:(-(4611686018427387904)<=a2/\a2<4611686018427387904)/\-(4611686018427387904)<=i5/\i5<4611686018427387904):js [.int a2,.int i5]=U (bc a2 (i5-a2).toNat):=@if_pos _ (zu _) h _ _ _
def sh{f:f7->f7}:∀{items:List f7},(∀x∈items,∃bs pv,l9 x=U bs/\r (Q3 bs++L)=U pv/\pv.d=f x)->M6 l9 A5 r L items=U (items.map f):=by
 intro l_;induction l_ with
 |nil =>
  intro _;exact rfl
 |cons x d ih_ =>
  intro h;obtain⟨bs,pv,b,e,c⟩:=h x C9;unfold M6;rw[b];simp only[z9,A5];rw[e];rw[ih_ (λy a=>h y (C4 _ a))];simp[c]
def sf{f:Nat->f7}(h:∀i,i<m->∃pv,r (sd (.int (a2+(i:Nat)))::L)=U pv/\pv.d=f i):M6 B3 A5 r L (bc a2 m)=U ((C8 m).map f):=by
 have a:∀(l:List Nat),(∀i∈l,i<m)->M6 B3 A5 r L (l.map λk=>Z7 (a2+(k:Nat)))=U (l.map f):=by
  intro l;induction l with
  |nil=>intro _;rfl
  |cons i n o =>
   intro b;obtain⟨pv,g,c⟩:=h i (b i C9);rw[C6];unfold M6;simp only[B3,z9,A5,pQ,rY,bx,bu];rw[g];rw[o (λj d=>b j (C4 _ d))];simp[c]
 exact a _ (λi e=>mem_range.mp e)
def rO{gt:f7->DD}{G:DO}{lo:Int}{n:Nat}(I:Nat->Ds->Prop){ds:Ds}(l:I 0 ds)(hs:∀i ds,i<n->I i ds->∃ds1 ds2,gt (.int (lo+(i:Nat))) ds=U ds1/\(G ds1=U (.next ds2)\/G ds1=U (.cont ds2))/\I (i+1) ds2):∃ds',aF gt G (bc lo n) ds=U (.next ds')/\I n ds':=by
 have c:∀(k i) ds,i+k=n->I i ds->∃ds',aF gt G ((List.range' i k).map λk=>Z7 (lo+(k:Nat))) ds=U (.next ds')/\I n ds':=by
  intro k;induction k with
  |zero =>
   intro i ds e b;have d:i=n:=by lia
   subst d;exact⟨ds,rfl,b⟩
  |succ k o =>
   intro i ds e b;obtain⟨ds1,ds2,h,a,g⟩:=hs i ds u3 b;rw[OL,C6];unfold aF;rw[h];simp only[z9];obtain⟨ds',j,f⟩:=o (i+1) ds2 u3 g;refine⟨ds',?_,f⟩;rcases a with a|a<;>rw[a]<;>exact j
 obtain⟨ds',m,d⟩:=c n 0 ds (qU _ _) l;refine⟨ds',?_,d⟩;unfold bc;rw[Pn];exact m
def ck{gt:f7->DD}{G:DO}{items:List f7}(I:Nat->Ds->Prop){ds:Ds}(m:I 0 ds)(hs:∀i d ds,items[i]? = U d->I i ds->∃ds1 ds2,gt d ds=U ds1/\(G ds1=U (.next ds2)\/G ds1=U (.cont ds2))/\I (i+1) ds2):∃ds',aF gt G items ds=U (.next ds')/\I items.length ds':=by
 have g:∀r i ds,items.drop i=r->i<=items.length->I i ds->∃ds',aF gt G r ds=U (.next ds')/\I items.length ds':=by
  intro r;induction r with
  |nil =>
   intro i ds e n f;have:=List.drop_eq_nil_iff.mp e;have o:i=items.length:=by lia
   subst o;exact⟨ds,rfl,f⟩
  |cons x r p =>
   intro i ds e n f;have a:i<items.length:=by
    by_cases c:i<items.length;exact c;rw[List.drop_eq_nil_of_le (mz v5)]at e;cases e
   rw[rq a]at e;injection e with ea eb
   obtain⟨ds1,ds2,j,b,h⟩:=hs i x ds (by rw[K7 a,ea]) f
   unfold aF;rw[j];simp only[z9];obtain⟨ds',k,l⟩:=p (i+1) ds2 eb v5 h;refine⟨ds',?_,l⟩;rcases b with b|b<;>rw[b]<;>exact k
 exact g items 0 ds rfl (eX _) m
def Cf(h:a9 L=U U'):O3 a9 b4 (m+1) L=U (.next L):=by unfold O3;rw[h];rfl
def Gx{ds2:Ds}(h:a9 L=U Uf)(k:b4 L=U (.next ds2)):O3 a9 b4 (m+1) L=O3 a9 b4 m ds2:=by rw[O3,h];rw[k];rfl
def KJ{Fc:DB}(I:Ds->Prop)(μ:Ds->Nat)(hs:∀ds,I ds->Fc ds=U U'\/(Fc ds=U Uf/\∃ds2,b4 ds=U (.next ds2)/\I ds2/\μ ds2<μ ds)):
  ∀(n:Nat) (ds:Ds),I ds->μ ds<n->∃ds',O3 Fc b4 n ds=U (.next ds')/\I ds'/\Fc ds'=U U':=by
 intro n;induction n with
 |zero=>intro ds _ h;exact nt
 |succ n c =>
  intro ds a d;rcases hs ds a with h|⟨h,ds2,k,b,f⟩
  exact⟨ds,Cf h,a,h⟩;obtain⟨ds',e,r⟩:=c ds2 b u3;exact⟨ds',by rw[Gx h k];exact e,r⟩
def Bt.xA(b : -4611686018427387904<a2)(c:a2<4611686018427387904)(a:autoParam (62<=m) H0):Bt m a2:=(Bt.small B4 B4).mono a
def Bt.lit(a:autoParam (-4611686018427387904<a2) H0)(c:autoParam (a2<4611686018427387904) H0)(b:autoParam (62<=m) H0):Bt m a2:=Bt.xA a c b
noncomputable def rN(i:Nat)(f:List f7->List f7):DO:=λds=>match ds[i]? with
 |some (U (.own l))=>U (.next (ds.set i (U (.own (f l)))))
 |_=>J
section
set_option tactic.hygienic true in
def Xf(i:Nat)(m:PE c e (Q7 i))(b:autoParam (aU e "reverse" c.env (eval e c.env)=eval e c.env) t8)(X:autoParam ((c8.endLine==A.line)=Uf) t8)(hs:autoParam (cw (.Call (.Attribute e "reverse" c8) [] [] A) J p.line c.env=pure U') t8):
  P5 c (.Expr (.Call (.Attribute e "reverse" c8) [] [] A) p) (vg (Zp c.K "list" CJ (Q7 i))) (rN i EM):=
 ⟨qw (a0x rp PySem.F.slot_list_reverse PySem.F.type_list_reverse JK m b X) hs,by
 intro O o n k H r D e S h q;unfold rN at h;split at h;rename_i l g;cases h;obtain⟨a,j,f,s,d,t⟩:=S.slot i _ g;exact⟨_,f,.inl ⟨rfl,j,N5.of d⟩,a,j,rfl,rfl,d,q n k _ (S.turn g f t.reverse)⟩
 . exact nE h⟩
noncomputable def ot(i:Nat)(F:DV):DO:=λds=>(F ds).bind λpv=>match pv,ds[i]? with
 | .own m,U (U (.own l))=>if l.length+m.length<=1000000 then U (.next (ds.set i (U (.own (l++m)))))else J
 |_,_=>J
set_option tactic.hygienic true in
def Xh (i:Nat) (L:PE c E (Q7 i)) (u:PX c Uf e G r) (j:autoParam (w4 [e] c.env=(U',eval e c.env)::w4 [] c.env) t8) (d:autoParam (aU E "extend" c.env (eval E c.env)=eval E c.env) t8) (k:autoParam (((H9 A (w4 [e] c.env)).all (λx=>!x.1)&&(cq A (eJ [] c.env)).all (λx=>x.1.isSome)
   && decide ([e].length+([]:List aZ).length+(if ([]:List aZ).isEmpty then 0 else 1)<30))=Uf) t8)
  (f:autoParam ((c8.endLine==A.line)=Uf) t8) (X:autoParam ((H9 A (w4 [] c.env)).any (·.1)=U') t8)
  (hs:autoParam (cw (.Call (.Attribute E "extend" c8) [e] [] A) J p.line c.env=pure U') t8) :
  P5 c (.Expr (.Call (.Attribute E "extend" c8) [e] [] A) p) (vg (Hf c.K "list" Hy (Q7 i) (jl G nY))) (ot i r):=
 ⟨qw (xK rp PySem.F.slot_list_extend PySem.F.type_list_extend MN L (iW u.p qy j) d k f j X) hs,by
 intro O g B s H y D E S h q;obtain⟨pv,e1,h⟩:=t4 h;split at h;rename_i m l F;obtain⟨R,h⟩:=J9 h;cases h;obtain⟨a,K,C,T,t,w⟩:=S.slot i _ F;refine⟨_,C,.inl ⟨rfl,K,N5.of t⟩,?_⟩;refine u.t O g B s H y _ _ S e1 λv P n I=>?_;obtain⟨b,N,rfl,Q,M,o⟩:=I;have:=w.length;have:=o.length;refine⟨a,b,K,N,rfl,rfl,n _ _ t,M,pF B4,q B s _ ?_⟩;exact(S.grow n).turn F C ((w.same (T8 n)).append (o.same (aR (v8.refl _) λb z=>C4 _ z)))
 . exact nE h⟩
noncomputable def cL(i:Nat)(Fk Fv:DV):DO:=λds=>(Fv ds).bind λpv=>(Fk ds).bind λk=>match k.d,ds[i]? with
 | .int k,U (U (.own l))=>(jy l.length k).bind λj=>U (.next (ds.set i (U (.own (l.set j pv.d)))))
 |_,_=>J
set_option tactic.hygienic true in
def RK (i:Nat) (Q:PE c E (Q7 i)) (u:PX c Uf b7 c6 d6) (x:PX c Uf e G r) (N:autoParam (∀v,assign (.Subscript E b7 A) c.env v=(do
   let ov <- holding [v] (eval E c.env)
   let iv <- holding [v,ov] (eval b7 c.env)
   dS A
   holding [v,ov,iv] (setItem ov iv v)
   release [v,ov,iv] [])) X0)
  (hs:autoParam (uD [.Subscript E b7 A] e p.line c.env=pure U') t8) (P:autoParam (uC [.Subscript E b7 A] e c.env=pure J) t8)
  (R:autoParam ((hE [.Subscript E b7 A] c.env).map (·.2)=[assign (.Subscript E b7 A) c.env]) t8) :
  P5 c (.Assign [.Subscript E b7 A] e p) (iC G (Ke (Q7 i) c6 BQ)) (cL i d6 r):=⟨xH x.p (CU Q u.p set_list N) hs P R,by
 intro O X k m H f D E S h q;unfold cL at h;cases e1:r f with
 |none=>rw[e1]at h;exact nE h
 |some pv =>
  cases e2:d6 f with
  |none=>rw[e1,e2]at h;exact nE h
  |some kv =>
   rw[e1,e2]at h;simp only[z9]at h;split at h;rename_i s l n C;obtain⟨j,e3,h⟩:=t4 h;cases h;refine x.t O X k m H f pv _ S e1 λv o I K=>?_;have d:=S.grow I;obtain⟨a,M,B,V,F,y⟩:=d.slot i _ C;refine⟨_,B,?_⟩;refine u.t O X k m o f kv _ d e2 λw T g L=>?_;have z:=L.dt d.dm;rw[n]at z;cases z;refine⟨a,M,s,j,rfl,rfl,g _ _ F,by rw[y.length];exact e3,q k m _ ?_⟩;exact(d.grow g).turn C B ((y.same (T8 g)).set j ((K.grow g).dt S.dm))
   . exact nE h⟩
def Kd(gt:f7->DD)(F:DV):DO:=λds=>(F ds).bind λpv=>(gt pv.d ds).bind λds'=>U (.next ds')
def Xd(k:Oj c.K j1 m5)(n:PX c Uf e G r)(s:PG c E j1)(hs:autoParam (uD [E] e p.line c.env=pure U') t8)(x:autoParam (uC [E] e c.env=pure J) t8)(z:autoParam ((hE [E] c.env).map (·.2)=[assign E c.env]) t8):P5 c (.Assign [E] e p) (iC G j1) (Kd m5 r):=⟨xH n.p s hs x z,by
 intro O a F m H X D o S h q;obtain⟨pv,e1,h⟩:=t4 h;obtain⟨j,e2,h⟩:=t4 h;cases h;refine n.t O a F m H X pv _ S e1 λv l u y=>?_
 exact k O a F m l X j v pv.d _ (S.grow u) (y.dt S.dm) e2 λf i w=>q f i l w⟩
end
noncomputable def a4B(i:Nat)(F:DV):DV:=λds=>match ds[i]? with
 |some (U (.dat d))=>(F ds).bind λk=>E5 d k.d
 |some (U (.own l))=>(F ds).bind λk=>E5 (.list l) k.d
 |_=>J
def a1z(i:Nat):DV:=λds=>match ds[i]? with
 |some (U (.dat d))=>pK [d]
 |some (U (.own l))=>pK [.list l]
 |_=>J
noncomputable def intsOf:List f7->Option (List Int)
 | []=>U []
 | .int i::r=>(intsOf r).bind λl=>U (i::l)
 |_=>J
noncomputable def tj:FV:=d1 fun
 | .list l=>(intsOf l).bind λis=>U (.dat (.int is.sum))
 |_=>J
noncomputable def S6:Int->List f7->List f7
 |_,[]=>[]
 |k,d::r=>.tuple [.int k,d]::S6 (k+1) r
noncomputable def Y9:List f7->Option (List f7)
 | [d]=>(kX d).bind λl=>U (S6 0 l)
 |_=>J
def Uu(a b:Prop)[Decidable a][Decidable b]:(if a then U (PV.dat (.bool (decide b)))else U (PV.dat (.bool U')))=U (PV.dat (.bool (decide (a/\b)))):=by
 by_cases h:a;rw[t2 h];simp[h];rw[s9 h];simp[h]
def TF(i:Int):intD [.int i]=sd (.int i):=rfl
def Ni(b:Bool):intD [.bool b]=sd (.int (if b=Uf then 1 else 0)):=rfl
def Lj(l:List f7):tj [.list l]=(intsOf l).bind λis=>sd (.int is.sum):=rfl
def NJ(d:f7):Y9 [d]=(kX d).bind λl=>U (S6 0 l):=rfl
def kP{l:List f7}(pv:PV)(h:L[m]? = U (U (.own l)))(a:l.length<1000000):Ey (U pv) m L=U (.next (L.set m (U (.own (l++[pv.d]))))):=pT pv h a
def P2{ds1 ds2:Ds}(b:m5 e9 L=U ds1)(a:b4 ds1=U (.next ds2)):aF m5 b4 (e9::S) L=aF m5 b4 S ds2:=by
 rw[aF,b]
 simp_all
def comp_map{g f:d3->f7}:∀{l:List d3},(∀x∈l,∃pv,r (sd (g x)::L)=U pv/\pv.d=f x)->M6 B3 A5 r L (l.map g)=U (l.map f):=by
 intro l_;induction l_ with
 |nil =>
  intro _;exact rfl
 |cons x a ih_ =>
  intro h;obtain⟨pv,e,c⟩:=h x C9;rw[C6];unfold M6;simp only[B3,z9,A5,pQ,rY,bx,bu];rw[e];rw[ih_ (λy b=>h y (C4 _ b))];simp[c]
def ints_map(f:d3->Int):∀l:List d3,intsOf (l.map λx=>.int (f x))=U (l.map f):=by
 intro l_;induction l_ with
 |nil =>
  exact rfl
 |cons x r ih_ =>
  rw[C6,intsOf,ih_];rfl
def eB(a:Gl c o)(h:c.mg o=U b6/\RelV a8 b6/\∀H,Dt c.K H a8 e9)(hd:autoParam ((o==("__debug__" : Str))=U') H0):PX c I (.Name o p) (tC a8) (fC e9):=
 CO (Xv a h.1 h.2.1 hd) h.2.2
def Uq(c:g.lookup z=U ⟨.type "tuple",k7,.seq b8 m,o9⟩)(hz:b8.size<=1000)(r:Vals M b8.toList)(hd:∀H,C7 g H M S)(H:Hp):Dt g H (.ref z) (.tuple S):=
 .tup (.inr ⟨_,b8,m,c,rfl,rfl,C3 hz (by rw[mi];decide),r⟩) (hd H)
theorem ji:∀{ns:List Int} {us:List t5},Vals (ns.map V.int) us->aJ us ns
 | [],_,.nil=>.nil
 |n::r,_,.cons h t=>by obtain⟨k,rfl⟩:=h;exact .cons n k (ji t)
def Jd(K:y7):List V->Hp->VK->Prop:=λxs H Q=>∃(p:Addr) (ns:List Int),xs=[.ref p]/\N5 K H p (ns.map V.int)/\Q (.int ns.sum) H
def NY(f:c.A.handled=J):ae c (.builtin "sum") (Jd c.K):=by
 intro d s t H z v Q I r h;obtain⟨p,a,rfl,hq,q⟩:=h;obtain⟨u,rfl,g⟩:=vals1 r;cases g;obtain⟨i,n,k,x⟩:=I.list hq;have X:=ji n;obtain⟨j,e⟩:=X.allInts.items;have b:=k.isList;rw[e]at b;have o:j.toList.map (·.1)=a:=by rw[<-nums_intItems,<-e];exact X.numsOf
 refine sum_intListG f b λy w l m=>?_;rw[preSum_eq,PK B9,o];exact⟨.int a.sum,H,I.kept m,⟨l,rfl⟩,q⟩
def C7.ints:∀{xs:List V} {is:List Int},C7 g H xs S->intsOf S=U is->xs=is.map V.int:=by
 induction S with
 |nil=>intro _ _ h e;cases h;cases e;rfl
 |cons d S i =>
  intro _ _ h e;cases h with
  |cons h t =>
  cases h with
  |int =>
   obtain⟨a,b,e⟩:=t4 e;cases e;rw[i t b];rfl
  |_=>exact nE e
def YK:oG g (Jd g) tj:=.one λO m H x k pv Q D K b q=>by
 cases K with
 |lst d h =>
  obtain⟨c,e,b⟩:=t4 b;cases b;cases h.ints e;exact⟨_,c,rfl,B5.seq d,q _ H (v8.refl H) (Dt.int _)⟩
 |_=>exact nE b
def LS{pos:Pos}(x:c.N.Nodup)(b:c.N[m]? = U o)(w:Loc c.env.scope o)(f:c.calm=Uf)(B:kq c P d9 e8)(j:gD c Uf E b7 j7 Y)(g:kb P.length j1)(k:∀cl C fp s H pins,PG (Y2 c P d9 e8 cl C fp s H pins) E j1)(d:sO c.K P.length j1 l9)(I:∀cl C fp s H pins,pV (Y2 c P d9 e8 cl C fp s H pins) Z b3 a9)(l:∀cl C fp s H pins,PX (Y2 c P d9 e8 cl C fp s H pins) Uf e G r)(X:autoParam (cw (.ListComp e [⟨E,b7,Z,0⟩] e8 p) (U (.Name o A)) pos.line c.env=pure Uf) t8)(y:autoParam (c.fn o=Uf\/c.env.scope.names.lookup o=U .local) dR)(hs:autoParam (∀o,eM b7 c.env o=pure o) X0):P5 c (.Assign [.Name o A] (.ListComp e [⟨E,b7,Z,0⟩] e8 p) pos) (iC (hZ P j7 j1 b3 G) (Y7 m)) (u9 m (A2 Y l9 a9 r)):=
 ⟨zJ x b w f B j.p g k (λ_ _ _ _ _ _=>(I _ _ _ _ _ _).p) (λ_ _ _ _ _ _=>(l _ _ _ _ _ _).p) X y hs,by
 intro O a i t H n D K S h q;obtain⟨pv,e1,h⟩:=t4 h;cases h;refine((zI (pos:=p) f B j g k d I l hs).t) O a i t H n pv _ S e1 λv F u z=>?_
 exact q _ _ _ ((S.grow u).set m (z.dt S.dm))⟩
def LR{pos:Pos}(F:c.N.Nodup)(b:c.N[m]? = U o)(y:Loc c.env.scope o)(f:c.calm=Uf)(B:kq c P d9 e8)(j:gD c Uf E b7 j7 Y)(g:kb P.length j1)(k:∀cl C fp s H pins,PG (Y2 c P d9 e8 cl C fp s H pins) E j1)(d:sO c.K P.length j1 l9)(L:∀cl C fp s H pins,pV (Y2 c P d9 e8 cl C fp s H pins) Z b3 a9)(l:∀cl C fp s H pins,PX (Y2 c P d9 e8 cl C fp s H pins) Uf e G r)(X:autoParam (cw (.ListComp e [⟨E,b7,Z,0⟩] e8 p) (U (.Name o A)) pos.line c.env=pure Uf) t8)(z:autoParam (c.fn o=Uf\/c.env.scope.names.lookup o=U .local) dR)(hs:autoParam (∀o,eM b7 c.env o=pure o) X0):P5 c (.Assign [.Name o A] (.ListComp e [⟨E,b7,Z,0⟩] e8 p) pos) (iC (hZ P j7 j1 b3 G) (Y7 m)) (R9 m (A2 Y l9 a9 r)):=
 ⟨zJ F b y f B j.p g k (λ_ _ _ _ _ _=>(L _ _ _ _ _ _).p) (λ_ _ _ _ _ _=>(l _ _ _ _ _ _).p) X z hs,by
 intro O a t K H n D M S h q;obtain⟨pv,e1,h⟩:=t4 h;cases h;refine((zI (pos:=p) f B j g k d L l hs).t) O a t K H n pv _ S e1 λv I w x=>?_
 obtain⟨i,u⟩:=S.store w m x;exact q _ _ _ u⟩
mutual
def LF:f7->Bool
 | .none=>Uf
 | .bool _=>Uf
 | .int _=>Uf
 | .str _=>Uf
 | .tuple l=>lW l
 | .dict [(.list _,.none)]=>Uf
 |_=>U'
def lW:List f7->Bool
 | []=>Uf
 |d::r=>LF d&&lW r
end
def WC(e:∀b o,H b=U o->¬Cell o->q b=U o)(h:W4 g H z M):W4 g q z M:=by
 rcases h with (h|⟨o,h⟩)|h
 exact .inl (.inl (e _ _ h (λK=>by rcases K with ⟨_,K⟩|⟨_,K⟩|⟨_,_,_,K⟩<;>cases K)));exact .inl (.inr ⟨o,e _ _ h (λK=>by rcases K with ⟨_,K⟩|⟨_,K⟩|⟨_,_,_,K⟩<;>cases K)⟩);exact .inr h
mutual
theorem Dt.lf{K:y7}{H H':Hp}(e:∀b o,H b=U o->¬Cell o->H' b=U o){x:V}{d:f7}(h:Dt K H x d)(f:LF d=Uf):Dt K H' x d:=by
 cases h with
 |non=>exact .non
 |bl b=>exact .bl b
 |int i=>exact .int i
 |str y=>exact .str y
 |tup a c=>exact .tup (WC e a) (C7.lf e c v5)
 |lst a c=>exact nT f
 |exc _ _ _ _ _=>exact nT f
 |fn _=>exact nT f
 |ins _ _ _ _=>exact nT f
 |dct _ _ _=>exact nT f
 |key h=>exact .key (e _ _ h (λz=>by rcases z with ⟨_,z⟩|⟨_,z⟩|⟨_,_,_,z⟩<;>cases z))
 |dtt _ _ _ _=>exact nT f
theorem C7.lf{K:y7}{H H':Hp}(e:∀b o,H b=U o->¬Cell o->H' b=U o){xs:List V}{ds:List f7}(h:C7 K H xs ds)(f:lW ds=Uf):C7 K H' xs ds:=by
 cases h with
 |nil=>exact .nil
 |cons a t =>
  rw[lW,rf]at f;exact .cons (Dt.lf e a f.1) (C7.lf e t f.2)
end
def LG(K:y7):V->List V->Hp->VK->Prop:=λx vs H Q=>∃(p:Addr) (ns:List Int) (k:Int),x=.ref p/\vs=[.int k]/\N5 K H p (ns.map V.int)/\k∈ns/\ns.length<=1000000/\Q (.int (ns.idxOf k:Nat)) H
def Td:VU c "list.index" (LG c.K):=by
 intro m s P H x M v O Q I z e h;obtain⟨p,l,k,rfl,rfl,hq,G,N,q⟩:=h;cases z;obtain⟨u,rfl,E⟩:=vals1 e;obtain⟨t,rfl⟩:=E;obtain⟨a,e,D,_⟩:=I.list hq;have X:=ji e;obtain⟨⟨B,A,o,w⟩,i,C,n,L⟩:=id D.isList;subst C L;have:=X.length;have d:=(List.idxOf_lt_length_iff).2 G;refine me zt ⟨_,i,rfl⟩ Qe (Qh _ _)
  (Qd p a.toArray n A w (.int k t) (isInt k) (l.idxOf k) (by simp_all) u3 ?_ ?_) ⟨i,λy r=>(eq_isInt k t X y (by simpa using r)).at _ _,?_⟩
 show isInt k a[l.idxOf k]=Uf;rw[isInt_at k X _ B4 d];simp;intro j g f;show isInt k a[j]=U';rw[isInt_at k X j U1 (yP v5 v5)];exact ne_of_lt_idxOf f _;exact⟨.int _,H,I.tok _,⟨_,rfl⟩,q⟩
noncomputable def ya:f7->FV
 | .list l,[.int k]=>(intsOf l).bind λns=>if k∈ns/\ns.length<=1000000 then U (.dat (.int (ns.idxOf k:Nat)))else J
 |_,_=>J
noncomputable def rQ(f:f7->FV)(Fo:DV)(Fl:DL):DV:=λds=>(Fo ds).bind λo=>(Fl ds).bind λl=>f o.d l
set_option tactic.hygienic true in
def Rz (w:PX c I E G r) (C:et c I [e] N Y) (h:autoParam (aU E "index" c.env (eval E c.env)=eval E c.env) t8) (m:autoParam (((H9 A (w4 [e] c.env)).all (λx=>!x.1)&&(cq A (eJ [] c.env)).all (λx=>x.1.isSome)
   && decide ([e].length+([]:List aZ).length+(if ([]:List aZ).isEmpty then 0 else 1)<30))=Uf) t8)
  (i:autoParam ((p.endLine==A.line)=Uf) t8) (hs:autoParam (w4 [e] c.env=(U',eval e c.env)::w4 [] c.env) t8) (X:autoParam ((H9 A (w4 [] c.env)).any (·.1)=U') t8) :
  PX c I (.Call (.Attribute E "index" p) [e] [] A) (Hf c.K "list" (LG c.K) G N) (rQ ya r Y):=
 ⟨xK rp zt Qa Td w.p C.p h m i hs X,by
 intro O f D d H n pv Q S b q;unfold rQ at b;cases h1:r n with
 |none=>rw[h1]at b;exact nE b
 |some x =>
  cases h2:Y n with
  |none=>rw[h1,h2]at b;exact nE b
  |some l =>
   rw[h1,h2]at b;simp only[z9]at b;refine w.t O f D d H n x _ S h1 λv W u V=>?_;have B:=V.dt S.dm;generalize x.d=Z at b B;unfold ya at b;split at b
   . rename_i P k;cases B with
     |lst j s =>
      rename_i a xs;obtain⟨M,h3,b⟩:=t4 b;obtain⟨t,b⟩:=J9 b;cases b;have R:=s.ints h3;subst R;refine⟨.inl ⟨rfl,_,B5.seq j⟩,?_⟩;refine C.t O f D d W n _ _ (S.grow u) h2 λg T z L=>?_;obtain⟨y,rfl,o⟩:=L.inv1;cases o;exact⟨a,M,k,rfl,rfl,z.seq (B5.seq j),t.1,t.2,q _ T (u.trans z) (Dt.int _)⟩
   . exact nE b⟩
def JZ{α:Type}(c:Nat->Nat->Bool):qT α->α
 | .ret a=>a
 | .ask i j k=>JZ c (k (c i j))
def eG(n:Nat){α:Type}(R:α->Prop):qT α->Prop
 | .ret a=>R a
 | .ask i j k=>i<n/\j<n/\∀b,eG n R (k b)
theorem gh{n:Nat}{c e:Type}{R:c->Prop}{R':e->Prop}{f:c->qT e}(d:∀a,R a->eG n R' (f a)):∀t:qT c,eG n R t->eG n R' (t.bind f)
 | .ret a,h=>d a h
 | .ask i j k,h=>⟨h.1,h.2.1,λb=>gh d (k b) (h.2.2 b)⟩
theorem Bi{n:Nat}{a:Type}{R:a->Prop}(c:Nat->Nat->Bool):∀t:qT a,eG n R t->R (JZ c t)
 | .ret _,h=>h
 | .ask i j k,h=>Bi c (k (c i j)) (h.2.2 _)
theorem kWp{n:Nat}{a:Type}{R:a->Prop}{c:Nat->Nat->Bool}{cmp:Nat->Nat->(Bool->v7->Prop)->v7->Prop}{Q:a->v7->Prop}{s:v7}(b:∀i j C,i<n->j<n->C (c i j) s->cmp i j C s):
  ∀t:qT a,eG n R t->Q (JZ c t) s->t.kasWp cmp Q s
 | .ret _,_,q=>q
 | .ask i j k,h,q=>b i j _ h.1 h.2.1 (kWp b (k (c i j)) (h.2.2 _) q)
def Pm(n:Nat)(p:Array Nat):Prop:=p.Perm (List.toArray (C8 n))
def Pm.lt(h:Pm m k6)(b:0<m)(i:Nat):k6.getD i 0<m:=by
 by_cases a:i<k6.size
 . have e:k6.getD i 0=k6[i]:=by simp[a]
   have:=h.mem_iff.mp (Array.getElem_mem a);rw[e];simpa using this
 simp_all
def Pm.rev(h:Pm m k6)(i j:Nat):Pm m (Ox k6 i j):=(mirror_perm _ _ _ _).trans h
def Pm.bub(h:Pm m k6)(i j:Nat):Pm m (bubble k6 i j):=(bubble_perm _ _ _).trans h
def MY(h:Pm m k6)(a:0<m):∀f n,eG m (λ_=>True) (PySem.W.kas_asc k6 f n):=by
 intro l_;induction l_ with
 |zero =>
  intro _;exact cT
 |succ f ih_ =>
  intro n;exact⟨h.lt a _,h.lt a _,λb=>by
  cases b with
  |true=>exact cT
  |false=>exact ih_ (n+1)⟩
def Yb(a:0<m):∀f (p:Array Nat) n q,Pm m p->eG m (λr=>Pm m r.1) (PySem.W.kas_desc f p n q):=by
 intro l_;induction l_ with
 |zero =>
  intro _ _ _ h;exact h
 |succ f ih_ =>
  intro p n q h;exact⟨h.lt a _,h.lt a _,λb=>by
  cases b with
  |true =>
   split;exact ih_ _ _ _ (h.rev _ _);exact ih_ _ _ _ h
  |false =>
   refine⟨h.lt a _,h.lt a _,λd=>?_⟩
   cases d with
   |true=>exact h
   |false=>exact ih_ _ _ _ h⟩
def DA(h:Pm m k6)(c:0<m)(a b:Nat):eG m (λr=>Pm m r.2) (PySem.W.kas_tail3 a b k6):=by exact gh (R':=λr:Nat×Array Nat=>Pm m r.2) (f:=λn=>.ret (n,Ox k6 0 a)) (λn _=>h.rev 0 a) _ (MY (h.rev _ _) c _ _)
def vV(h:Pm m k6)(c:0<m)(a b:Nat):eG m (λr=>Pm m r.2) (PySem.W.kas_descPart a b k6):=by
 refine gh (λr d=>?_) _ (Yb c _ _ _ _ h);split;exact DA (d.rev _ _) c _ _;exact DA d c _ _
def Tw(h:Pm m k6)(a:0<m)(b:Nat):eG m (λr=>Pm m r.2) (PySem.W.kas_count b k6):=by
 refine gh (λn _=>?_) _ (MY h a _ _);split;exact h
 . split
   . refine⟨h.lt a _,h.lt a _,λc=>?_⟩
     cases c with
     |true=>exact h
     |false=>exact vV (h.rev _ _) a _ _
   exact vV h a _ _
def Tv(h:Pm m k6)(a:0<m)(k:Nat):∀f l r,eG m (λ_=>True) (PySem.W.kas_place k6 k f l r):=by
 intro l_;induction l_ with
 |zero =>
  intro _ _;exact cT
 |succ f ih_ =>
  intro l r;show eG m _ (if l>=r then _ else _);split;exact cT
  . refine⟨h.lt a _,h.lt a _,λc=>?_⟩
    cases c with
    |true=>exact ih_ _ _
    |false=>exact ih_ _ _
def a1d(a:0<m):∀f (p:Array Nat) k,Pm m p->eG m (Pm m) (PySem.W.kas_bin f p k):=by
 intro l_;induction l_ with
 |zero =>
  intro _ _ h;exact h
 |succ f ih_ =>
  intro p k h;exact gh (λl _=>ih_ _ _ (h.bub _ _)) _ (Tv h a k _ _ _)
def HZ(a:0<m):eG m (Pm m) (OK m):=by
 refine gh (λr b=>?_) _ (Tw (show Pm m _ from .refl _) a _);split;exact a1d a _ _ _ b;exact b
def Dv(fin:Bool):List Int->List Int->Bool
 |a::r,b::t=>if a=b then Dv fin r t else decide (a<b)
 |_,_=>fin
def To(x y:List Int):Bool:=Dv (decide (x.length<y.length)) x y
theorem DE{prog:M3}{w:E3}{A:Z0}{c:Bool}{Q:Bool->v7->Prop}{s:v7}:∀{us vs:List t5} {xs ys:List Int} (i:Nat),aJ us xs->aJ vs ys->Q (Dv c xs ys) s->PySem.W.KatLex prog w A Uf c Q (us.zip vs) i s
 |_,_,[],_,_,.nil,_,q=>by assumption
 |_,_,_::_,[],_,_,.nil,q=>by rw[OZ];exact q
 |_,_,a::r,b::t,i,.cons _ tk h,.cons _ tk' h',q=>by
  refine PySem.W.kat_cons (wpAny_eqBool_int ?_);by_cases e:a=b;rw[show(a==b)=Uf by simpa using e];refine PySem.W.kat_yes (DE (i+1) h h' ?_);rw[Dv,t2 e]at q;exact q
  . rw[show(a==b)=U' by simpa using e]
    rw[Dv,s9 e]at q;refine PySem.W.kat_no ?_;cases i with
    |zero=>exact oneLt_int q
    |succ i=>exact PySem.W.kat_one _ _ (lt_int (show PySem.W.BoolBack Q (.bool (decide (a<b))) s from q))
def ip(h:Heap):List t5->List (List Int)->Prop
 | [],[]=>True
 |v::vs,k::ks=>(∃a o xs n,v=.ref a/\h.get? a=U o/\o.cls=.type "tuple"/\o.data=.seq xs n/\aJ xs.toList k)/\ip h vs ks
 |_,_=>False
theorem ip.keeps{h h':Heap}(c:∀b o,h.get? b=U o->(∃xs n,o.data=.seq xs n)->h'.get? b=U o):∀{vs:List t5} {ks:List (List Int)},ip h vs ks->ip h' vs ks
 | [],[],_=>cT
 |_::_,_::_,⟨⟨a,o,xs,n,e,ho,hc,hd,hi⟩,t⟩=>⟨⟨a,o,xs,n,e,c _ _ ho ⟨_,_,hd⟩,hc,hd,hi⟩,ip.keeps c t⟩
theorem ip.Ny{h:Heap}:∀{vs:List t5} {ks:List (List Int)},ip h vs ks->(∀k∈ks,k≠[])->∃fs,PySem.W.KatTups h vs fs/\fs.length=ks.length/\∀f∈fs,∃i t,f=.int i t
 | [],[],_,_=>⟨[],.nil,rfl,by simp⟩
 |_::_,k::ks,⟨⟨a,o,xs,n,rfl,ho,hc,hd,hi⟩,t⟩,hn=>by
  obtain⟨fs,e,g,d⟩:=ip.Ny t (λk j=>hn k (C4 _ j))
  cases hi':xs.toList with
  |nil=>rw[hi']at hi;cases hi;exact absurd rfl (hn [] C9)
  |cons u r =>
   rw[hi']at hi;cases hi with
   |cons i c l =>
    refine⟨.int i c::fs,.cons ho hc hd ?_ e,by simp[g],?_⟩
    . have:xs[0]? = xs.toList[0]?:=by simp
      rw[this,hi'];rfl
    . intro f b;rcases List.mem_cons.mp b with rfl|b
      exact⟨i,c,rfl⟩;exact d f b
theorem ip.get{h:Heap}:∀{vs:List t5} {ks:List (List Int)} {i:Nat},ip h vs ks->i<ks.length->∃a o xs n,vs.getD i .none=.ref a/\h.get? a=U o/\o.data=.seq xs n/\aJ xs.toList (ks.getD i [])
 | [],[],_,_,hi=>by simp at hi
 |v::_,k::_,0,⟨⟨a,o,xs,n,e,ho,hc,hd,hi⟩,t⟩,_=>⟨a,o,xs,n,by simpa using e,ho,hd,by simp_all⟩
 |_::vs,_::ks,i+1,⟨_,t⟩,hi=>by
  obtain⟨a,o,xs,n,c,b⟩:=ip.get t (by simpa using hi);exact⟨a,o,xs,n,by simpa using c,by simpa using b⟩
def zO(ks:List (List Int)):List Nat:=(JZ (λi j=>To (ks.getD i []) (ks.getD j [])) (OK ks.length)).toList
def AY{ks:List (List Int)}(h:0<ks.length):(zO ks).Perm (C8 ks.length):=by
 have:=Bi (λi j=>To (ks.getD i []) (ks.getD j [])) _ (HZ h);simpa [zO]using (Array.Perm.toList this)
def AF(h:Heap)(L:Addr):List (Addr×Obj):=(C8 h.objs.size).filterMap λb=>if b=L then J else(h.get? b).map λo=>(b,o)
set_option tactic.hygienic true in
def lg:(T,o1)∈AF a6 z↔a6.get? T=U o1/\T≠z:=by
 delta AF;rw[zl];constructor
 . rintro⟨c,_,e⟩;split at e;exact nE e
   . rename_i a;cases hg:a6.get? c with
     |none=>simp_all
     |some u=>simp_all
 rintro⟨e,d⟩;exact⟨T,mem_range.mpr (G8 e),by rw[s9 d,e];rfl⟩
def LD(K:y7):List V->Hp->VK->Prop:=λxs H Q=>∃(p:Addr) (ys:List V) (ks:List (List Int)),xs=[.ref p]/\N5 K H p ys/\2<=ks.length/\ks.length<64/\(∀k∈ks,k≠[])/\ys.length=ks.length /\
 (∀i y,ys[i]? = U y->∃a,y=.ref a/\W4 K H a ((ks.getD i []).map V.int))/\∀l,H l=J->Q (.ref l) (upd H l (.lst ((zO ks).map λi=>ys.getD i .non)))
theorem Co{X:Cx}{pins:List (Addr×Obj)}{σ:St}{H:Hp}{s:v7}(I:Inv X pins σ H s):∀{ys:List V} {d:List t5} {ks:List (List Int)},Vals ys d->ys.length=ks.length->(∀i y,ys[i]? = U y->∃a,y=.ref a/\W4 X.K H a ((ks.getD i []).map V.int))->ip s.heap d ks
 | [],_,[],.nil,_,_=>cT
 |y::ys,_,k::ks,.cons r t,hl,h=>by
  obtain⟨a,rfl,hq⟩:=h 0 y rfl;cases r;obtain⟨d,m,⟨o,e,c,n,f⟩,_⟩:=I.tuple hq;refine⟨⟨a,o,_,n,rfl,e,c,f,by simpa using ji m⟩,Co I t (by simpa using hl) λi y g=>?_⟩;obtain⟨b,j,l⟩:=h (i+1) y (by simpa using g);exact⟨b,j,by simpa using l⟩
def MG{m':Str->Option t5}(x:a6.Ns z m8)(y:a6.Ns z m'):m8=m':=by obtain⟨o,j,k,f,i,_,r⟩:=x;obtain⟨l,d,g,c,b,_,e⟩:=y;grind
theorem X4.get{P:M3}{w:E3}{H:Hp}{h:Heap}{a:Addr}{o:HO}(x:X4 P w H h a o):∃ob,h.get? a=U ob:=by
 induction o with
 |lst c=>obtain⟨_,_,_,_,e⟩:=x;exact⟨_,e⟩
 |tup c=>obtain⟨_,_,_,o,e,_⟩:=x;exact⟨_,e⟩
 |dK b=>obtain⟨_,_,_,_,o,_,_,e,_⟩:=x;exact⟨_,e⟩
 |dT b=>obtain⟨_,_,_,_,o,_,_,e,_⟩:=x;exact⟨_,e⟩
 |set S n=>obtain⟨o,_,_,_,e,_⟩:=x;exact⟨_,e⟩
 |ins C i fs=>obtain⟨_,_,_,e,_⟩:=x;exact⟨_,e⟩
 |own y=>exact x
 |xd fs=>obtain⟨_,⟨o,_,_,e,_⟩,_⟩:=x;exact⟨_,e⟩
 |met f y=>exact⟨_,x⟩
 |rng j k=>obtain⟨_,_,_,e⟩:=x;exact⟨_,e⟩
 |dP o u g=>exact⟨_,x.1⟩
 |tbl d=>exact⟨_,x⟩
 |ext φ=>exact x.2.1
def Inv.news{ys:List V}(I:Inv c c7 B H y)(w:y.heap.Ns c.env.locals m8)(h:a6.Ns c.env.locals m8)(k:∀b o,b≠c.env.locals->y.heap.get? b=U o->a6.get? b=U o)(hD:a6.get? z=U {cls:=.type "list",data:=.seq h8.toArray d5})(g:y.heap.get? z=J)(r:Vals ys h8)(hz:ys.length<=F0):H z=J/\Inv c c7 B (upd H z (.lst ys)) {y with heap:=a6,toks:=m}:=by
 have p:H z=J:=by
  cases q:H z with
  |none=>rfl
  |some u =>
   obtain⟨o,e⟩:=X4.get (I.J7 z u q);lia
 refine⟨p,?_⟩;have ne:∀b o,y.heap.get? b=U o->b≠z:=λb o e s=>by lia
 have σ:∀b u,H b=U u->b≠z:=λb u e s=>by rw[s,p]at e;exact nE e
 have l:∀b u,H b=U u->b≠c.env.locals:=λb u e s=>by rw[s,I.free]at e;exact nE e
 have a:∀b u,H b=U u->upd H z (.lst ys) b=U u:=λb u e=>by rw[J6 (σ b u e)];exact e
 refine I.step (ch:=[]) (λb d=>absurd d B9) (λb o j _ _ e _=>k b o j e) (λb o j _ _ e _=>⟨o.slots,k b o j e⟩) (λb o _ e n=>by rw[J6 (ne b o e)];exact n)
  (λb o _ e=>?_) (λb t e=>a b _ e) (λb F u e=>a b _ e) (λb C e=>⟨#[],by rw[a b _ e];simp⟩) (λE i=>?_) (λb u e=>?_) I.bare
 by_cases d:b=c.env.locals;obtain⟨X,_,_,A,_⟩:=h;exact⟨X,by rw[d];exact A⟩;exact⟨o,k b o d e⟩;rw[<-MG w i];exact h
 . by_cases d:b=z;subst d;rw[O4]at e;cases e;exact⟨hz,h8,d5,r,hD⟩
   . rw[J6 d]at e;refine(I.J7 b u e).tw (λd5 v x q=>k d5 v ?_ q) (λd5 q=>a d5 _ q) λd5 t q=>a d5 _ q
     rcases x with s|s
     rw[s];exact l b u e;exact l d5 _ s
theorem Ci{ys:List V}{a:List t5}(r:Vals ys a):∀l:List Nat,(∀i∈l,i<ys.length)->Vals (l.map λi=>ys.getD i .non) (l.map λi=>a.getD i uq)
 | [],_=>.nil
 |i::l,h=>by
  have b:ys[i]? = U (ys.getD i .non):=by simp[(h i C9)]
  obtain⟨u,d,e⟩:=r.get b;have c:a.getD i uq=u:=by simp[d]
  rw[C6,C6,c];exact .cons e (Ci r l λj f=>h j (C4 _ f))
def En{X:Cx}:ae X (.builtin "sorted") (LD X.K):=by
 intro pins s σ H L us Q I r h;obtain⟨p,O,d,rfl,hq,M,h64,hn,hl,ht,q⟩:=h;obtain⟨u,rfl,ru⟩:=vals1 r;cases ru;obtain⟨G,Y,pl,hz⟩:=I.list hq;obtain⟨m,hm,_⟩:=I.loc;have il:G.length=d.length:=by rw[<-Y.length];exact hl
 have T:=Co I Y hl ht;have e0:∀b,({}:Heap).get? b=J:=λb=>Pu (eX _);have F:Fr ({}) X.env.locals s.heap m:=⟨hm,λb o e=>(by rw[e0]at e;exact nE e),eX _⟩
 have N:News ({}) X.env.locals s.heap (AF s.heap X.env.locals):=λ⟨b,o⟩ l=>by obtain⟨h1,M⟩:=lg.mp l;exact⟨h1,M,e0 b⟩
 refine PySem.W.kat_sorted F N pl.isList B4 B4 λD e1 h1 F1 Z f=>?_
 have w:s.heap.get? D=J:=by
  cases e:s.heap.get? D with
  |none=>rfl
  |some o=>exact absurd (f _ (lg.mpr ⟨e,((Z _ C9).2.1)⟩)) (aB _)
 have B:=T.keeps λb o e ⟨L,n,hd⟩=>(λb o A e=>(Z (b,o) (C4 _ (lg.mpr ⟨e,A⟩))).1) b o (λz=>by obtain⟨o',es,ep,R,k,_⟩:=hm;rw[z,R]at e;cases e;rw[hd]at k;cases k) e;obtain⟨fs,f1,f2,f3⟩:=B.Ny hn;refine PySem.W.kat_kind (T:=.type "int") f1 u3 (λv hv=>?_) f5 ?_;obtain⟨i,t,rfl⟩:=f3 v hv;exact PySem.W.Looks.of_pure rfl;rw[il];refine kWp (c:=λi j=>To (d.getD i []) (d.getD j [])) (λi j C S hj hC=>?_) _ (HZ el) ?_
 . obtain⟨a,o,L,n,x,g2,g3,g4⟩:=B.get S;obtain⟨a',o',V,n',P,y,E,g⟩:=B.get hj;delta PySem.W.kas_ask;rw[x,P];refine PySem.W.kat_lt g2 g3 y E (DE 0 g4 g ?_);have l1:L.size=(d.getD i []).length:=by rw[<-g4.length];simp
   have l2:V.size=(d.getD j []).length:=by rw[<-g.length];simp
   rw[l1,l2];exact hC
 . have l:=AY (ks:=d) el;refine PySem.W.KasFin.intro F1 Z (.head λq hq z=>?_) λM c F2 N2=>?_;have:=f q hq;rw[z]at this;exact absurd this (aB _)
   . have R:∀i∈zO d,i<O.length:=λi S=>by have:=mem_range.mp (l.mem_iff.mp S);simp[*]
     obtain⟨x,g2⟩:=Inv.news (ys:=(zO d).map λi=>O.getD i .non) I hm F2.ns (λb o A e=>(N2 (b,o) (C4 _ (lg.mpr ⟨e,A⟩))).1) (N2 _ C9).1 w (Ci Y _ R) (by rw[E7,l.length_eq,rj,mi];lia);exact⟨.ref D,_,g2,rfl,q D x⟩
section
variable{prog:M3}{w:E3}
def QY{P:PySem.Fin->v7->Prop}(b:y.heap.get? z=U (jN "list" h8.toArray m))(g:h8.length<2)(h:P (.done (.ret .none)) {y with heap:=sortedHeap y.heap z h8 h8.toArray}):
  wpAny (model prog w) D (Builtin.«list.sort» ⟨[.ref z],[]⟩) P Q y:=by
 obtain⟨c,f⟩:∃c,(y.heap.update z (jR λ_=>(#[]))).get? z=U (jN "list" #[] c):=⟨_,get?_update_seq b λ_=>#[]⟩
 have a:h8.toArray.size<2:=by omega
 have d:(((y.heap.update z (jR λ_=>(#[]))).push (jN "tuple" h8.toArray 0)).push (jN "list" #[] 0)).get? z=U (jN "list" #[] c):=
  L6 _ (L6 _ f)
 rw[list_sort_plain];refine u7 (listItems_at b rfl (u7 (listUpdate_at b rfl (u7 (seqEpoch_at f rfl (u7 (Fd (u7 (wpAny_newList (gr ?_) (eX _))))))))));rw[t2 a,t2 a];refine u7 (A3 ?_);refine u7 (A3 (u7 (seqEpoch_at d rfl (u7 (listUpdate_at d rfl ?_ (hsz2:=?_))))))
 . simp only[bne_self_eq_false];have e:(arrOf (SortSt.mk' general' (h8.toArray.zip h8.toArray) #[] 7 J)).map (·.2)=h8.toArray:=by
    show(h8.toArray.zip h8.toArray).map (·.2)=h8.toArray;simp;exact List.map_snd_zip F3
   rw[e];exact A3 h
 show((h8.toArray.zip h8.toArray).map (·.2)).size<=_;simp;lia
def IX(c:y.heap.IsList z h8.toArray)(d:h8.length<2)(h:Q (.ref ((hz y)+1)) {y with heap:=sortedAll y.heap h8 h8.toArray}):
  wpAny (model prog w) D (call (.builtin "sorted") [.ref z]) Q b9 y:=by
 have b:h8.length<=F0:=by rw[mi];lia
 have sz:((y.heap.push (jN "list" #[] 0)).update (hz y) (jR (·++h8.toArray))).objs.size=(hz y)+1:=(Heap.size_update ..).trans (size_push' ..);have a:(((y.heap.push (jN "list" #[] 0)).update (hz y) (jR (·++h8.toArray))).push (jN "list" h8.toArray 0)).get? ((hz y)+1)=U (jN "list" h8.toArray 0):=sz▸W2 _ rfl;refine Calls.call_function_entry kind_sorted plain_sorted entry_sorted (args_sorted1 _) (show wpAny _ _ (Builtin.«sorted» _) _ _ _ from ?_);refine u7 (A3 (u7 (collect_list c (u7 (wpAny_newList ?_ b)))));rw[sz];exact u7 (gr (lq slot_list_sort ⟨_,a,rfl⟩ entry_list_sort (QY a d ⟨_,rfl,A3 ⟨_,rfl,h⟩⟩) (args_list_sort _)))
end
def CI(K:y7):List V->Hp->VK->Prop:=λxs H Q=>(∃(p:Addr) (ys:List V),xs=[.ref p]/\N5 K H p ys/\ys.length<2/\∀l,H l=J->Q (.ref l) (upd H l (.lst ys)))\/LD K xs H Q
def Eo:ae c (.builtin "sorted") (CI c.K):=by
 intro X s n H l j Q I r h;rcases h with ⟨p,v,rfl,hq,k,q⟩|h
 obtain⟨u,rfl,g⟩:=vals1 r;cases g;obtain⟨a,d,m,f⟩:=I.list hq;refine IX m.isList (by rw[<-d.length];exact k) ?_;obtain⟨e,i⟩:=sortedAll_at s.heap a a.toArray;refine⟨.ref (s.heap.objs.size+1),upd H (s.heap.objs.size+1) (.lst v),I.laid (λb o t=>sortedAll_old t) (yJ _) ⟨f,a,e,d,i⟩,rfl,q _ (I.J7.fresh (yJ _))⟩;exact En X s n H l j Q I r h
def keysOf:List f7->Option (List (List Int))
 | []=>U []
 | .tuple l::r=>(intsOf l).bind λk=>(keysOf r).bind λks=>U (k::ks)
 |_=>J
def xv:FV
 | [.list l]=>if l.length<2 then U (.own l)else(keysOf l).bind λks=>if l.length<64/\(∀k∈ks,k≠[])then U (.own ((zO ks).map λi=>l.getD i .none))else J
 |_=>J
def Tz:∀{l:List f7} {ks:List (List Int)},keysOf l=U ks->ks.length=l.length:=by
 intro l_;induction l_ with
 |nil =>
  intro _ e;cases e;rfl
 |cons d r ih_ =>
  intro ks e;cases d with
  |tuple l =>
   rw[keysOf]at e;cases h1:intsOf l with
   |none=>simp_all
   |some k =>
    cases h2:keysOf r with
    |none=>rw[h1,h2]at e;exact nE e
    |some a =>
     rw[h1,h2]at e;cases e;rw[X9,X9,ih_ h2]
  |_=>exact nE e
set_option tactic.hygienic true in
theorem C7.keys{K:y7}{H:Hp}:∀{l:List f7} {ys:List V} {ks:List (List Int)},C7 K H ys l->keysOf l=U ks->∀i y,ys[i]? = U y->∃a,y=.ref a/\W4 K H a ((ks.getD i []).map V.int)
 | [],_,_,.nil,e=>by intro i y c;simp at c
 |d::r,_,ks,.cons hx ht,e=>by
  intro i y c;cases hx with
  |tup j h =>
   rename_i a n l;rw[keysOf]at e;cases h1:intsOf l with
   |none=>simp_all
   |some k =>
    cases h2:keysOf r with
    |none=>rw[h1,h2]at e;exact nE e
    |some g =>
     rw[h1,h2]at e;cases e;cases i with
     |zero =>
      simp at c;subst c;have:=h.ints h1
      simp_all
     |succ i =>
      obtain⟨b,m,f⟩:=C7.keys ht h2 i y (by simpa using c);exact⟨b,m,by simpa using f⟩
  |_=>exact nE e
theorem C7.ord{K:y7}{H:Hp}{l:List f7}{ys:List V}(h:C7 K H ys l):∀o:List Nat,(∀i∈o,i<l.length)->C7 K H (o.map λi=>ys.getD i .non) (o.map λi=>l.getD i .none)
 | [],_=>.nil
 |i::o,ho=>by
  have:=ho i C9;have:=h.length;have c:ys[i]? = U (ys.getD i .non):=by simp[show i<ys.length by simp[*]]
  obtain⟨d,e,b⟩:=h.get' c;have a:l.getD i .none=d:=by simp[e]
  rw[C6,C6,a];exact .cons b (C7.ord h o λj f=>ho j (C4 _ f))
set_option tactic.hygienic true in
def KG:oG g (CI g) xv:=by
 intro O v H w z pv Q D r c q;unfold xv at c;split at c
 . rename_i l;obtain⟨x,rfl,t⟩:=r.inv1;cases t with
   |lst h e =>
    rename_i a j;have:=e.length;split at c;rename_i o;cases c;exact .inl ⟨a,j,rfl,B5.seq h,by simp[*],λp K=>q _ _ (v8.new K) (jr K e)⟩;obtain⟨f,h1,c⟩:=t4 c;split at c;rename_i o s;cases c;have:=Tz h1;refine .inr ⟨a,j,f,rfl,B5.seq h,by simp_all,by simp[*],s.2,by simp[*],λi y n=>?_,λp d=>q _ _ (v8.new d) (jr d (e.ord _ λi k=>?_))⟩;obtain⟨b,m,u⟩:=e.keys h1 i y n;exact⟨b,m,B5.fj u⟩;have:=mem_range.mp ((AY (ks:=f) u3).mem_iff.mp k);exact FT v5 v5;exact nE c
 exact nE c
set_option tactic.hygienic true in
def GQ(b:Bool)(l:Addr)(xs:Array t5):
  Meets (Builtin.«enumerate.__new__» ⟨[.type "enumerate",.ref l],[]⟩) (λ_ R s=>kQ b s.heap l xs /\
   R (.ok (.ret (.ref (s.heap.push (qE b l)).objs.size))) {s with heap:=(s.heap.push (qE b l)).push {cls:=.type "enumerate",data:=.fields #[.none,.bool U',.ref (hz s),af 0,.none,.none]}}):=
 .of_wp λe w A R s h=>by
  obtain⟨j,g,d,i,m⟩:=s;obtain⟨f,h⟩:=h;have:=sub_enumerate;have a:=f
  wp_walk using vx a
  refine wpAny_stack_any λk=>A3 ?_;split
  . rename_i c _ _ _ _ _;cases(c==yF "enumerate")
    . wp_walk using vx a
      exact⟨_,rfl,h⟩
    . wp_walk using vx a
      exact⟨_,rfl,h⟩
  . wp_walk using vx a
    exact⟨_,rfl,h⟩
section
variable{prog:M3}{w:E3}
def Ko(f:kQ I y.heap z b8)(h:∀h',IsEnum h' (y.heap.objs.size+1) y.heap.objs.size 0 .none->mZ I h' y.heap.objs.size z 0->(∀b o,y.heap.get? b=U o->h'.get? b=U o)->Q (.ref (y.heap.objs.size+1)) {y with heap:=h'}):
  wpAny (model prog w) D (call (.type "enumerate") [.ref z]) Q b9 y:=by
 refine callType_new F.called_enumerate f5 (F.typeCall_enumerate_1 _) (F.newCall_enumerate_1 _) (λobj=>F.args_object_init_2 obj _) F.entry_enumerate_new (GQ I z b8) ⟨f,?_⟩
 have d:(y.heap.push (qE I z)).objs.size=y.heap.objs.size+1:=iu ..;have e:(qE I z).isFreed=U':=by cases I<;>rfl
 rw[d];have c:IsEnum ((y.heap.push (qE I z)).push {cls:=.type "enumerate",data:=.fields #[.none,.bool U',.ref y.heap.objs.size,af 0,.none,.none]}) (y.heap.objs.size+1) y.heap.objs.size 0 .none:=by have:=W2 (y.heap.push (qE I z)) (o:={cls:=.type "enumerate",data:=.fields #[.none,.bool U',.ref y.heap.objs.size,af 0,.none,.none]}) rfl;rw[d]at this;exact this
 exact⟨⟨_,c,rfl⟩,h _ c (.new (L6 _ (W2 _ e))) λb o x=>L6 _ (L6 _ x)⟩
end
def a1I{prog:M3}{w:E3}(m:D.handled=J)(it l:Addr)(c:l≠it)(xs:Array t5):
  Draws prog w D it [it,l] xs.size (λi v=>xs[i]? = U v) (λi h=>sP I h it l i xs) where
 live:=λi h a=>by
  cases I;exact(Draws.list (prog:=prog) (w:=w) m it l c xs).live i h a;obtain⟨o,y,_⟩:=(show h.IsTupleIter it l i/\h.IsTuple l xs from a).1;exact⟨o,y⟩
 frame:=λi h j a u=>a.kept λb o q e=>u b (by rcases q with rfl|rfl<;>simp) o e
 item:=λi s Q E k a p=>by
  refine nj a c (x:=xs[i]) (by simp[k]) λj d n=>?_;refine p _ j s.toks (by simp[k]) ?_ n;have k2:=λo e=>n.extBut l o c e;cases I;obtain⟨_,o,g,r⟩:=(show s.heap.IsListIter it l i/\s.heap.IsList l xs from a);exact⟨d,o,k2 o g,r⟩;obtain⟨_,o,g,r⟩:=(show s.heap.IsTupleIter it l i/\s.heap.IsTuple l xs from a);exact⟨d,o,k2 o g,r⟩
 done:=λs Q E a t=>pI m a B9 t
def Ite(kd:Bool)(K:y7)(a:Addr):It:=
 ⟨λi H=>∃xs x,gC kd K H a xs/\xs[i]? = U x,
  λi H v H'=>∃p,v=.ref p/\H p=J/\∃x,H'=upd H p (.tup [.int i,x])/\∀xs,gC kd K H a xs->xs[i]? = U x,
  λi H=>∃xs,gC kd K H a xs/\xs.length<=i⟩
def KZ(t:z≠T):
  Turn b5 i8 g (.Tuple Z m p) (Ite I g c9) [z,T] z (λi h=>(∃d,IsEnum h z T i d)/\mZ I h T c9 i) where
 mem:=F7
 obj:=λi h P c b=>by
  have j:c=z\/c=T:=by simpa using b
  rcases j with rfl|rfl
  obtain⟨d,q⟩:=P.1;exact⟨_,q,λv e=>by cases e⟩;exact P.2.obj
 keep:=λi h K P kk=>by obtain⟨d,q⟩:=P.1;exact⟨⟨d,kk z F7 _ q⟩,P.2.at λo e=>kk T F7 o e⟩
 item:=by
  intro X G hw hK b i f s S H E O B P hg;subst G hw hK;obtain⟨xs,x,C,ex⟩:=hg;obtain⟨l,w,ox⟩:=O.Hj C P.2;obtain⟨u,hu,ru⟩:=w.get ex;obtain⟨d,M⟩:=P.1;have L:=B z F7;have r:i<l.toArray.size:=by
   have:i<l.length:=by
    by_cases c:i<l.length;exact c;rw[uM (mz v5)]at hu;exact nE hu
   omega
  have V:X.A.in1.handled=J:=O.ok.hd b;have D:Draws X.prog X.w X.A.in1 T [T,c9] l.toArray.size (λi v=>l.toArray[i]? = U v) (λi h=>sP I h T c9 i l.toArray):=a1I V T c9 (C.x.ne O (B T F7)) l.toArray;refine wpAny_pyNext_enum_itemD D M ox r t (by simp;exact⟨t,(C.x.ne O L).symm⟩) λx' K N G ho R Y hsz hk=>?_
  have ux:x'=u:=by
   have:l.toArray[i]? = U u:=by simpa using hu
   rw[this]at G;cases G;rfl
  subst ux;have Q:=O.J7.fresh F3;have I1:Inv X f S H {s with heap:=K,toks:=N+1}:=O.vd (ch:=[z,T]) (λc o b e=>hk c o (λq=>b (by simp[q])) (λq=>b (by simp[q])) e) (λc b=>B c U1)
  have I2:Inv X f S (upd H (hz s) (.tup [.int i,x])) {s with heap:=K,toks:=N+1}:=I1.IU Q (fS O.lt) (.inr O.sz)
   (λn c e q=>by obtain⟨vv,q2⟩:=O.cell n c e;exact absurd q2.lt (by rw[q];exact aB _))
   (λk hp q=>absurd (G8 (O.pin k hp).1) (by rw[q];exact aB _))
   ⟨by show 2<=F0;rw[mi];decide,[.int i N,x'],.cons ⟨_,rfl⟩ (.cons ru .nil),⟨_,Y,rfl,_,rfl⟩⟩
  refine⟨_,rfl,wpAny_letOwnedTupleGo_enum ho λh2 z2 b2=>?_⟩
  have uz:∀c,c∈[z,T]->(upd H (hz s) (.tup [.int i,x])) c=J:=λc b=>by
   have r:c<(hz s):=by
    have j:c=z\/c=T:=by simpa using b
    rcases j with rfl|rfl
    exact(G8 M);obtain⟨o,e,_⟩:=P.2.obj;exact G8 e
   rw[J6 (R8 r)];exact(B c b).1
  have I3:Inv X f S (upd H (hz s) (.tup [.int i,x])) {s with heap:=h2,toks:=N+1}:=Inv.turned (s:={s with heap:=K,toks:=N+1}) I2 (λc o b e=>b2.extBut c o b e) (uz z F7) L.2.1 L.2.2.2.1 L.2.2.2.2.1 L.2.2.2.2.2;refine⟨.ref (hz s),_,I3,rfl,⟨_,rfl,Q,x,rfl,λxs' y=>?_⟩,⟨⟨_,z2⟩,?_⟩,uz⟩;rw[y.inj O C];exact ex
  . have it':mZ I K T c9 (i+1):=by
      cases I;exact(show K.IsListIter T c9 (i+1)/\_ from R).1;exact(show K.IsTupleIter T c9 (i+1)/\_ from R).1
    exact it'.at λo q=>b2.extBut _ _ t.symm q
 done:=by
  intro X G hw hK b i f s S H E O B P hg;subst G hw hK;obtain⟨xs,C,hend⟩:=hg;obtain⟨l,w,ox⟩:=O.Hj C P.2;obtain⟨d,M⟩:=P.1;have:=w.length;have Q:s.TypeIs (.ref z) "enumerate":=⟨_,M,rfl⟩;refine u7 (qV (nu Q Py (lq Py Q F.entry_enumerate_next ?_ (F.args_enumerate_next_1 _))));show wpAny _ _ (field (.ref z) 2 >>= _) _ _ _;refine u7 (Z8 M rfl rfl ?_);refine u7 (pI (O.ok.hd b) ox (by simp;simp_all) λK x a y=>?_)
  obtain⟨o,ho,j⟩:=y;refine u7 (FF ⟨o,ho,j⟩ EZ ?_);refine A3 ⟨rfl,?_⟩;exact O.vd (ch:=[T]) (λc o b e=>a c o (λq=>b (by simp[q])) e) (λc b=>B c (by
   have:c=T:=by simpa using b
   simp[this]))
 self:=λ_ _ _ _ _ P h=>by obtain⟨d,q⟩:=P.1;exact wpAny_pyIter_enum q h
section
def Nl(K:y7)(ta:TA):TI:=λσ H R=>ta σ H λvs H1=>∃a kd,vs=[.ref a]/\(∃xs,gC kd K H1 a xs)/\R (Ite kd K a) H1
def boot_enumerate:eL "enumerate" = U (.type "enumerate"):=by decide +kernel
def Sm(F:Gl c "enumerate")(o:c.mg "enumerate" = J)(v:PA c [e] N)(hs:autoParam (w4 [e] c.env=[(U',eval e c.env)]) t8):
  PI c (.Tuple Z m c8) (.Call (.Name "enumerate" p) [e] [] A) (Nl c.K N):=by
 intro X s K H R I h;refine Call_ (gO I F o boot_enumerate (pX (G3 (v A X s K H _ I h) λz d ⟨G,l,g,w,n⟩=>?_) (by rw[hs];rfl) (by rfl)));obtain⟨x,L,a,⟨M,t⟩,q⟩:=n;subst a;obtain⟨u,a,y⟩:=vals1 w;subst a;cases y;obtain⟨z,D⟩:=g.bR t;refine Ko D λk j B C=>?_;refine wpAny_pyIter_enum j ?_;have E:Inv c X K l {d with heap:=k}:=g.kept C;refine⟨(hz d)+1,_,_,_,l,rfl,E,KZ (by show @Ne Nat _ _;simp[*]),⟨⟨_,j⟩,B⟩,λb r=>?_,q⟩
 have i:b=(hz d)+1\/b=(hz d):=by simpa using r
 have f:(hz d)<=b:=by
  rcases i with a|a<;>rw[a]
  exact jW _ _;exact X6 _
 exact g.wU f (g.J7.fresh f)
theorem rT:∀(l:List f7) (k:Int) (i:Nat),(S6 k l)[i]? = (l[i]?).map λd=>.tuple [.int (k+(i:Nat)),d]
 | [],k,i=>by rfl
 |d::r,k,0=>by simp[S6]
 |d::r,k,i+1=>by have:=rT r (k+1) i;simp only[S6,sq];rw[this,show k+1+i=k+((i+1:Nat)) by lia]
def wX:∀(l:List f7) (k:Int),(S6 k l).length=l.length:=by
 intro l_;induction l_ with
 |nil =>
  intro k;exact rfl
 |cons d r ih_ =>
  intro k;rw[S6,X9,ih_,X9]
set_option tactic.hygienic true in
def Sj{fr:Bool}(t:Gl c "enumerate")(E:c.mg "enumerate" = J)(Fl:et c fr [e] N Y)(hs:autoParam (w4 [e] c.env=[(U',eval e c.env)]) t8):
  gD c fr (.Tuple Z m c8) (.Call (.Name "enumerate" p) [e] [] A) (Nl c.K N) (E9 Y9 Y):=⟨Sm t E Fl.p hs,by
 intro O a W G H v h R S b q;obtain⟨l,h1,b⟩:=t4 b;refine Fl.t O a W G H v l _ S h1 λvs D w k=>?_;unfold Y9 at b;split at b
 . rename_i C;obtain⟨ta,hl,b⟩:=t4 b;cases b;cases k with
   |cons r P =>
    cases P;obtain⟨e,B,f,rfl,n,u⟩:=r.bR hl;refine⟨e,B,rfl,⟨f,B5.bR n⟩,q _ D w λH' g i=>?_⟩;have X:=g.bR (vz.bR n);have:=u.length;rw[wX];refine⟨λs=>⟨f,f[i]'u3,X,K7 _⟩,λs=>⟨f,X,by simp[*]⟩,λx V y s=>?_⟩;obtain⟨pp,Q,d,x',T,F⟩:=y;subst Q;subst T;obtain⟨K,L,I⟩:=u.get' (F f X);refine⟨v8.new d,.tuple [.int i,K],by rw[rT,L];simp,λvb j M=>?_⟩;refine .tup (W4.of (F4.mpr ⟨λz=>?_,λz=>?_,O4⟩)) (.cons (.int _) (.cons (qD I g (v8.new d) j) .nil));obtain⟨o,z⟩:=M _ z;rw[g _ _ z]at d;exact nS d;obtain⟨_,o,z⟩:=j _ z;rw[z]at d;exact nS d
 . exact nE b⟩
end
noncomputable def U3(f:Str):List f7->List f7->Option f7
 | .str n::ns,d::l=>if n=f then U d else U3 f ns l
 |_,_=>J
noncomputable def vy(nm:Str):f7->Option (List f7×List f7)
 | .dict [(.tuple [.str n,.list ns],.tuple l)]=>if n=nm then U (ns,l)else J
 |_=>J
def Nj(a:Str)(ns:List Str)(l:List f7):vy a (Ah a ns l)=U (ns.map .str,l):=by
 show(if a=a then U (ns.map PyData.str,l)else J)=_;simp
set_option tactic.hygienic true in
def Bk{l:List f7}(h:Dt g H a8 e9)(e:vy o e9=U (S,l)):
  ∃a C K fv ms vs,a8=.ref a/\fR g aA o=U (U (.ref C))/\H a=U (.ins C K fv)/\fv=List.zip ms vs/\S=ms.map .str/\C7 g H vs l:=by
 cases h with
 |ins k m i t =>
  rename_i a C K fv b ms vs j;have f:(if b=o then U (ms.map PyData.str,j)else J)=U (S,l):=e;obtain⟨n,f⟩:=J9 f;cases f;subst n;exact⟨a,C,K,fv,ms,vs,rfl,k,m,i,rfl,t⟩
 |_=>exact nE e
def Be(h:C7 g H M S):(U3 o (P.map .str) S=J/\(List.zip P M).lookup o=J)\/∃d u,U3 o (P.map .str) S=U d/\(List.zip P M).lookup o=U u/\Dt g H u d:=by
 induction P generalizing M S with
 |nil=>exact .inl ⟨rfl,rfl⟩
 |cons m P i=>cases h with
  |nil=>exact .inl ⟨rfl,rfl⟩
  | @cons v M d S h t =>
   rw[show U3 o ((m::P).map .str) (d::S)=if m=o then U d else U3 o (P.map .str) S from rfl,lr,oV];by_cases c:m=o;subst c;rw[t2 rfl];exact .inr ⟨d,v,rfl,by simp,h⟩
   . have a:(o==m)=U':=by simpa using λz=>c z.symm
     rw[s9 c,a];exact i t
structure eh(K:y7)(nm:Str)(C:Addr):Prop where
 ns:fR K aA nm=U (U (.ref C))
 cl:uX K C
def eh.eq(K:eh g o z)(h:fR g aA o=U (U (.ref T))):T=z:=by
 rw[K.ns]at h;lia
def Y8(nm f:Str)(d:f7):Option f7:=(vy nm d).bind λp=>U3 f p.1 p.2
noncomputable def G7(nm f:Str)(F:DV):DV:=λds=>(F ds).bind λpv=>(Y8 nm f pv.d).bind λd=>U (.dat d)
def WU{f:Str}(T:eh c.K a7 z)(n:aI c.K z f)(h:PX c I e G r)(K:autoParam (aU e f c.env (eval e c.env)=eval e c.env) t8):PX c I (.Attribute e f p) (rB c.K G f) (G7 a7 f r):=⟨tG h.p K,by
 intro O F D A H B pv Q S X q;obtain⟨Z,x,X⟩:=t4 X;obtain⟨d,y,X⟩:=t4 X;cases X;obtain⟨⟨Y,l⟩,k,i⟩:=t4 y;refine h.t O F D A H B Z _ S x λv t w N=>?_
 obtain⟨a,s,M,P,V,R,rfl,E,o,rfl,rfl,C⟩:=Bk (N.dt S.dm) k;have m:=T.eq E;subst m;rcases Be C with ⟨g,j⟩|⟨W,u,g,j,L⟩
 have b:=i;rw[g]at b;exact nE b
 . have b:=i;rw[g]at b;cases b;exact⟨a,s,M,_,u,rfl,B5 _ _ o,T.cl,n,j,q u t w L⟩⟩
noncomputable def S3(nm m:Str)(f:FV)(Fo:DV)(Fl:DL):DV:=λds=>(Fo ds).bind λpv=>(vy nm pv.d).bind λp=>match U3 m p.1 p.2 with
 |none=>(Fl ds).bind λl=>f (pv.d::l)
 |some _=>J
def Hd{fr:Bool}{m:Str}(T:eh c.K a7 z)(ho:PX c fr e G r)(h:et c fr Z N Y):TX c.K fr (ni z m (G4 c.K i7) [] g8 G N) (S3 a7 m i7 r Y):=by
 intro O k i V H W pv Q S j q;obtain⟨p,h1,j⟩:=t4 j;obtain⟨⟨ns,l0⟩,K,j⟩:=t4 j;refine ho.t O k i V H W p _ S h1 λv H1 B r1=>?_
 have M:=r1.dt S.dm;obtain⟨a,C',dx,fv,ms,vs0,rfl,c1,c2,rfl,rfl,c3⟩:=Bk M K;have t:=T.eq c1;subst t;rcases Be c3 with ⟨I,E⟩|⟨d',u,I,E,z3⟩
 . have g:=j;rw[I]at g;obtain⟨l,h4,j⟩:=t4 g;refine⟨a,dx,_,rfl,B5 _ _ c2,E,?_⟩;refine h.t O k i V H1 W l _ (S.grow B) h4 λvs H2 A r2=>?_;have D:=((S.grow B).grow A).dm (fr:=fr);rw[bw];have L:∀H,B7 H (aw fr i) O=B7 H [] (O++(aw fr i).filterMap id):=λH=>qH (bs:=[]);refine⟨O++(aw fr i).filterMap id,p.d::l,pv,λb f=>?_,by rw[<-L];exact .cons (M.same (T8 A)) r2,j,λv P es n=>q v P ((B.trans A).trans es) ?_⟩
   . rcases List.mem_append.mp f with f|f
     exact D.o b f;obtain⟨x,hx,o⟩:=List.mem_filterMap.mp f;subst o;exact D.a b hx
   . have s:=B.trans A;cases pv with
     |dat d =>
      have y:Dt c.K (B7 P [] (O++(aw fr i).filterMap id)) v d:=n;rw[<-L]at y;exact y
     |own l =>
      obtain⟨b,xs,es,C,F,n⟩:=n;refine⟨b,xs,es,s.free C,F,?_⟩;rw[show(U b::aw fr i)=[U b]++aw fr i from rfl,qH];exact n
     |ob w X =>
      obtain⟨e,R,es,C,F,n⟩:=n;refine⟨e,R,es,C,λb f=>s.free (F b f),?_⟩;rw[qH];rw[bw]at n;exact n
 have g:=j;rw[I]at g;exact nE g
noncomputable def aq(F:DV):DV:=λds=>(F ds).bind λpv=>match pv with
 | .dat d=>if LF d=Uf then U (.dat d)else J
 | .own l=>if lW l=Uf then U (.own l)else J
 | .ob _ _=>J
def DS.Ze{cs:As}(S:DS g O q u B H L)(e:v8 H i0)(l:∀b,U b∈cs->U b∈j5\/U b∈u)(a:Addr)(K:HO)(h:B7 i0 j5 O a=U K)(k:¬Cell K):B7 i0 cs O a=U K:=by
 obtain⟨f,j,d⟩:=F4.mp h;refine F4.mpr ⟨f,λz=>?_,d⟩
 rcases l a z with z|z
 exact j z;obtain⟨_,c,i⟩:=S.new a z;have:=e _ _ i;grind
def a0c(h:PX c U' e G r):PX c I e G (aq r):=⟨h.p,by
 intro O g s n H o pv Q S f q;obtain⟨p,u,f⟩:=t4 f;cases p with
 |dat d =>
  simp only at f;obtain⟨k,f⟩:=J9 f;cases f;refine h.t O g s n H o _ _ S u λv j i m=>q v j i ?_;exact Dt.lf (S.Ze i λb z=>.inr (qr z)) m k
 |own l =>
  simp only at f;obtain⟨k,f⟩:=J9 f;cases f;refine h.t O g s n H o _ _ S u λv j i m=>q v j i ?_;obtain⟨a,y,x,A,B,F⟩:=m;refine⟨a,y,x,A,B,C7.lf (S.Ze i λb z=>?_) F k⟩
  rcases List.mem_cons.mp z with z|z
  exact .inl (by rw[z];exact C9);exact .inr (qr z)
 |ob w X=>exact nE f⟩
noncomputable def Q0(f:Str)(p:PF):List (Str×PF)->List (Str×PF)
 | []=>[(f,p)]
 |(g,x)::r=>if g=f then(g,p)::r else(g,x)::Q0 f p r
def D9(f:Str):List (Str×PF)->Option PF
 | []=>J
 |(g,x)::r=>if g=f then U x else D9 f r
inductive uT(K:y7)(Hv H:Hp):V->PF->List Addr->Prop
 |dat {x d}:Dt K Hv x d->uT K Hv H x (.dat d) []
 |own {a xs l}:H a=U (.lst xs)->C7 K Hv xs l->uT K Hv H (.ref a) (.own l) [a]
 |dct {a kvs es}:H a=U (.dK kvs)->Gp K Hv kvs es->uT K Hv H (.ref a) (.dct es) [a]
section
variable{K:y7}
def R1.cons{Hv:Hp}{H:Hp}{R:List Addr}{Rf:List Addr}{fv:List (Str×V)}{fs:List (Str×PF)}{y:V}{p:PF}{n:Str}(h:uT K Hv H y p Rf)(d:∀b∈Rf,b∉R)(t:R1 K Hv H fv fs R):R1 K Hv H ((n,y)::fv) ((n,p)::fs) (Rf++R):=by
 cases h with
 |dat h=>exact .dat h t
 |own c a=>exact .own c a (d _ C9) t
 |dct c a=>exact .dct c a (d _ C9) t
def R1.put{f:Str}(t:R1 K q H k i4 O)(h:uT K q H a8 l5 j8)(d:∀b∈j8,b∉O):∃R',R1 K q H (dg f a8 k) (Q0 f l5 i4) R'/\∀b∈R',b∈j8\/b∈O:=by
 induction t with
 |nil =>
  refine⟨j8++[],R1.cons h (λb _=>by simp) .nil,λb e=>.inl (by simpa using e)⟩
 | @dat n x v k i4 O s t j =>
  obtain⟨R',i,g⟩:=j d;rw[dg,Q0];by_cases c:n=f;rw[t2 c,t2 c];exact⟨j8++O,R1.cons h d t,λb e=>List.mem_append.mp e⟩;rw[s9 c,s9 c];exact⟨R',.dat s i,g⟩
 | @own n a u l k i4 O o m R t j =>
  obtain⟨R',i,g⟩:=j λb e z=>d b e (C4 _ z);rw[dg,Q0];by_cases c:n=f;rw[t2 c,t2 c];exact⟨j8++O,R1.cons h (λb e z=>d b e (C4 _ z)) t,λb e=>(List.mem_append.mp e).imp id (C4 _)⟩
  . rw[s9 c,s9 c];refine⟨a::R',.own o m (λz=>?_) i,λb e=>?_⟩
    . rcases g a z with z|z
      exact d a z C9;exact R z
    . rcases List.mem_cons.mp e with rfl|e
      exact .inr C9;exact(g b e).imp id (C4 _)
 | @dct n a r w k i4 O o m R t j =>
  obtain⟨R',i,g⟩:=j λb e z=>d b e (C4 _ z);rw[dg,Q0];by_cases c:n=f;rw[t2 c,t2 c];exact⟨j8++O,R1.cons h (λb e z=>d b e (C4 _ z)) t,λb e=>(List.mem_append.mp e).imp id (C4 _)⟩
  . rw[s9 c,s9 c];refine⟨a::R',.dct o m (λz=>?_) i,λb e=>?_⟩
    . rcases g a z with z|z
      exact d a z C9;exact R z
    . rcases List.mem_cons.mp e with rfl|e
      exact .inr C9;exact(g b e).imp id (C4 _)
def iZ:fQ o ((a7,a8)::j9)=if a7=o then U a8 else fQ o j9:=by
 rw[oV];by_cases c:a7=o;subst c;simp
 . have a:(o==a7)=U':=by simpa using λz=>c z.symm
   rw[a,s9 c]
set_option tactic.hygienic true in
def R1.a0P(t:R1 K q H j9 i4 O)(h:D9 o i4=J):j9.lookup o=J:=by
 induction t with
 |nil=>rfl
 | dat hd t ih => rw [D9] at h; rw [iZ]; split at h; · exact nS h
                  rename_i c;rw[s9 c];exact ih h
 | own h1 h2 h3 t ih => rw [D9] at h; rw [iZ]; split at h; · exact nS h
                        rename_i c;rw[s9 c];exact ih h
 | dct h1 h2 h3 t ih => rw [D9] at h; rw [iZ]; split at h; · exact nS h
                        rename_i c;rw[s9 c];exact ih h
def R1.look(t:R1 K q H w i4 O)(h:D9 o i4=U l5):∃x Rf,w.lookup o=U x/\uT K q H x l5 Rf/\(∀b∈Rf,b∈O) /\
  ∀{Hv' H':Hp} {m:PF},v8 q Hv'->(∀b∈O,b∉Rf->∀f,H b=U f->H' b=U f)->uT K Hv' H' x m Rf->R1 K Hv' H' w (Q0 o m i4) O:=by
 induction t with
 |nil=>exact nE h
 | @dat n x d w i4 O C t s =>
  rw[D9]at h;rw[iZ];by_cases c:n=o;rw[t2 c]at h ⊢;cases h;refine⟨x,[],rfl,.dat C,λb g=>absurd g B9,λ{Hv' H' m} e i k=>?_⟩;rw[Q0,t2 c];exact R1.cons k (λb g=>absurd g B9) (t.same e λb g=>i b g B9);rw[s9 c]at h ⊢;obtain⟨y,Rf,A,u,R,r⟩:=s h;refine⟨y,Rf,A,u,R,λ{Hv' H' m} e i k=>?_⟩;rw[Q0,s9 c];exact .dat (C.same e) (r e i k)
 | @own n a F l w i4 O B v j t s =>
  rw[D9]at h;rw[iZ];by_cases c:n=o;rw[t2 c]at h ⊢;cases h;refine⟨_,[a],rfl,.own B v,λb g=>by rw[mem_singleton.mp g];exact C9,λ{Hv' H' m} e i k=>?_⟩;rw[Q0,t2 c];refine R1.cons k (λb g=>by rw[mem_singleton.mp g];exact j) (t.same e λb g=>i b (C4 _ g) λz=>?_);rw[mem_singleton.mp z]at g;exact j g;rw[s9 c]at h ⊢;obtain⟨y,Rf,A,u,R,r⟩:=s h;refine⟨y,Rf,A,u,λb g=>C4 _ (R b g),λ{Hv' H' m} e i k=>?_⟩;rw[Q0,s9 c];exact .own (i a C9 (λz=>j (R a z)) _ B) (v.same e) j (r e (λb g=>i b (C4 _ g)) k)
 | @dct n a D E w i4 O B v j t s =>
  rw[D9]at h;rw[iZ];by_cases c:n=o;rw[t2 c]at h ⊢;cases h;refine⟨_,[a],rfl,.dct B v,λb g=>by rw[mem_singleton.mp g];exact C9,λ{Hv' H' m} e i k=>?_⟩;rw[Q0,t2 c];refine R1.cons k (λb g=>by rw[mem_singleton.mp g];exact j) (t.same e λb g=>i b (C4 _ g) λz=>?_);rw[mem_singleton.mp z]at g;exact j g;rw[s9 c]at h ⊢;obtain⟨y,Rf,A,u,R,r⟩:=s h;refine⟨y,Rf,A,u,λb g=>C4 _ (R b g),λ{Hv' H' m} e i k=>?_⟩;rw[Q0,s9 c];exact .dct (i a C9 (λz=>j (R a z)) _ B) (v.same e) j (r e (λb g=>i b (C4 _ g)) k)
end
noncomputable def gI(nm:Str)(i:Nat)(ds:Ds):Option (Option Addr×List (Str×PF)):=match ds[i]? with
 |some (U (.ob w (.ins n fs)))=>if n=nm then U (w,fs)else J
 |_=>J
def dh(h:gI o m L=U (k7,i4)):L[m]? = U (U (.ob k7 (.ins o i4))):=by
 unfold gI at h;split at h
 . simp_all
 exact nE h
def Ei:PF->Option f7
 | .dat d=>U d
 |_=>J
def tH:PF->Option (List f7)
 | .own l=>U l
 |_=>J
def Um(h:Ei l5=U e9):l5=.dat e9:=by cases l5<;>cases h;rfl
def wI(h:tH l5=U S):l5=.own S:=by cases l5<;>cases h;rfl
noncomputable def O0(nm:Str)(i:Nat)(f:Str):DV:=λds=>(gI nm i ds).bind λx=>(D9 f x.2).bind λp=>(Ei p).bind λd=>U (.dat d)
noncomputable def iJ(nm:Str)(i:Nat)(f:Str)(Fb:DV):DV:=λds=>(gI nm i ds).bind λx=>(D9 f x.2).bind λp=>(tH p).bind λl=>(Fb ds).bind λk=>E5 (.list l) k.d
section
def WO{f:Str}(T:eh c.K a7 z)(n:aI c.K z f)(h:PE c e (Q7 m))(A:autoParam (aU e f c.env (eval e c.env)=eval e c.env) t8):PX c I (.Attribute e f p) (rB c.K (Q7 m) f) (O0 a7 m f):=⟨tG h A,by
 intro O X D i H F pv Q S a q;obtain⟨⟨w,fs⟩,s,a⟩:=t4 a;obtain⟨L,l,a⟩:=t4 a;obtain⟨d,t,a⟩:=t4 a;cases a;have K:=Um t;subst K;obtain⟨v,R,k,_,_,u,j,o,E,rfl,C,r,g⟩:=S.slot m _ (dh s);have B:=T.eq C;subst B;obtain⟨x,G,y,b,_⟩:=g.look l;cases b with
 |dat b=>exact⟨_,k,v,u,j,o,x,rfl,r,T.cl,n,y,q x H (v8.refl H) (b.same nL)⟩⟩
set_option tactic.hygienic true in
def ZX{f:Str}(T:eh c.K a7 z)(n:aI c.K z f)(h:PE c e (Q7 m))(Fb:PX c I E G r)(s:autoParam (aU e f c.env (eval e c.env)=eval e c.env) t8)(hs:autoParam (qN E) vH):PX c I (.Subscript (.Attribute e f A) E p) (sD (Hw c.K) (rB c.K (Q7 m) f) G) (iJ a7 m f r):=⟨Js DK (tG h s) Fb.p hs,by
 intro O g i σ H Y pv Q S b q;obtain⟨⟨w,fs⟩,h1,b⟩:=t4 b;obtain⟨tb,V,b⟩:=t4 b;obtain⟨l,u,b⟩:=t4 b;obtain⟨k,o,K⟩:=t4 b;have e3:=wI u;subst e3;obtain⟨v,R,L,_,hR,C',t,W,R',rfl,C,c2,F⟩:=S.slot m _ (dh h1);have ec:=T.eq C;subst ec;obtain⟨x,Rf,l1,l2,l3,l4⟩:=F.look V;cases l2 with
 |own P D =>
  rename_i a Z;refine⟨_,L,v,C',t,W,_,rfl,c2,T.cl,n,l1,Fb.t O g i σ H Y k _ S o λy N fr M=>?_⟩
  have B:=M.dt S.dm;generalize k.d=kk at K B;cases B with
  |int j =>
   have X:=K;obtain⟨d,h5,X⟩:=t4 X;cases X;obtain⟨v,u,o⟩:=D.aG h5;exact .inl ⟨a,Z,j,v,rfl,rfl,N5.of (fr _ _ P),u,q v N fr (Dt.same (nL.trans (T8 fr)) o)⟩
  |_=>exact nE K⟩
end
section
variable{K:y7}
set_option tactic.hygienic true in
def DS.adopt(S:DS K O q u B H L)(m:v8 H i0)(i:Nat)(r:∀b∈j8,H b=J)(x:∀b∈j8,∃R:Cl,i0 b=U R.1):
  DS K O q (j8.map U++u) B i0 L/\∀c:Nat->List Addr,(∀i b,b∈c i->U b∈u)->(∀i j b,b∈c i->b∈c j->i=j)->(∀(i:Nat) (pv:PV),L[i]? = U (U pv)->cP K O u H B[i]? (c i) pv) ->
   ∃a:Nat->List Addr,(∀i b,b∈a i->U b∈j8.map U++u)/\(∀i j b,b∈a i->b∈a j->i=j)/\(∀(i:Nat) (pv:PV),L[i]? = U (U pv)->cP K O (j8.map U++u) i0 B[i]? (a i) pv)/\(∀b∈j8,b∈a i)/\∀b∈c i,b∈a i:=by
 have s:∀b∈j8,U b∉u:=λb d z=>by obtain⟨_,o,z⟩:=S.new b z;rw[r b d]at z;exact nE z
 have l:∀c:Nat->List Addr,(∀i b,b∈c i->U b∈u)->(∀i j b,b∈c i->b∈c j->i=j)->(∀i pv,L[i]? = U (U pv)->cP K O u H B[i]? (c i) pv) ->
   ∃a:Nat->List Addr,(∀i b,b∈a i->U b∈j8.map U++u)/\(∀i j b,b∈a i->b∈a j->i=j)/\(∀i pv,L[i]? = U (U pv)->cP K O (j8.map U++u) i0 B[i]? (a i) pv)/\(∀b∈j8,b∈a i)/\∀b∈c i,b∈a i:=λc f h p=>by
  refine⟨λj=>if j=i then j8++c j else c j,λj b d=>?_,λj k b g e=>?_,λj pv t=>(p j pv t).AS (lL m r) (λb _ o z=>m _ _ z) λb z=>?_,λb d=>by dsimp only;rw[t2 rfl];exact U7 _ d,λb d=>by dsimp only;rw[t2 rfl];exact L9 _ d⟩
  . dsimp only at d;split at d
    . rcases List.mem_append.mp d with z|z
      exact U7 _ (mem_map.mpr ⟨b,z,rfl⟩);exact L9 _ (f j b z)
    exact L9 _ (f j b d)
  . dsimp only at g e;split at g
    . rename_i n;split at e;rename_i σ;rw[n,σ]
      . rcases List.mem_append.mp g with z|z
        exact absurd (f k b e) (s b z);exact h j k b z e
    . split at e
      . rcases List.mem_append.mp e with z|z
        exact absurd (f j b g) (s b z);exact h j k b g z
      exact h j k b g e
  dsimp only;split;exact L9 _ z;exact z
 obtain⟨c,f,h,p⟩:=S.iU;obtain⟨a,v,k2,w,_⟩:=l c f h p;refine⟨⟨S.ls,S.same.trans m,λb d=>?_,S.fx,a,v,k2,w⟩,l⟩
 rcases List.mem_append.mp d with z|z
 obtain⟨y,n,σ⟩:=mem_map.mp z;cases σ;exact⟨S.same.free (r b n),x b n⟩;exact⟨(S.new b z).1,let ⟨o,z⟩:=(S.new b z).2;⟨o,m _ _ z⟩⟩
end
noncomputable def ig:PV->Option PF
 | .dat d=>U (.dat d)
 | .own l=>U (.own l)
 | .ob _ (.dct es)=>U (.dct es)
 |_=>J
def jG(pv:PV):Option PF:=U (.dat pv.d)
noncomputable def Y6(nm:Str)(i:Nat)(f:Str)(kp:PV->Option PF)(F:DV):DO:=λds=>(F ds).bind λpv=>(kp pv).bind λp=>(gI nm i ds).bind λx=>if x.2.length<900 then U (.next (ds.set i (U (.ob x.1 (.ins nm (Q0 f p x.2))))))else J
def R1.len(h:R1 g q H j9 i4 O):j9.length=i4.length:=by
 induction h with
 |nil=>rfl
 |dat _ _ a=>simp_all
 |own _ _ _ _ a=>simp_all
 |dct _ _ _ _ a=>simp_all
section
def Ib(D:ry H u O)(r:RX g O u H q a8 i6)(h:ig i6=U l5\/jG i6=U l5):∃Rf,(∀b∈Rf,H b=J)/\(∀b∈Rf,∃f:Cl,q b=U f.1)/\uT g (B7 q (Rf.map U++u) O) q a8 l5 Rf:=by
 rcases h with h|h
 . cases i6 with
   |dat d=>cases h;exact⟨[],λb e=>absurd e B9,λb e=>absurd e B9,.dat r⟩
   |own l =>
    cases h;obtain⟨a,k,rfl,n,K,r⟩:=r;refine⟨[a],λb e=>?_,λb e=>?_,.own K r⟩;rw[mem_singleton.mp e];exact n;rw[mem_singleton.mp e];exact⟨Cl.l k,K⟩
   |ob w c =>
    cases c with
    |dct o =>
     cases h;obtain⟨a,R,rfl,_,K,i,rfl,j,m⟩:=r;refine⟨[a],K,λb e=>?_,.dct j m⟩;rw[mem_singleton.mp e];exact⟨Cl.d i,j⟩
    |ins _ _=>exact nE h
    |seq _ _=>exact nE h
 cases h;exact⟨[],λb e=>absurd e B9,λb e=>absurd e B9,.dat (r.dt D)⟩
def RQ{f:Str}{kp:PV->Option PF}(T:eh c.K a7 z)(n:aI c.K z f)(h:PE c E (Q7 m))(hk:∀pv t,kp pv=U t->ig pv=U t\/jG pv=U t)(Y:PX c Uf e G r)(hs:autoParam (cw e (U (.Attribute E f A)) p.line c.env=pure U') t8):P5 c (.Assign [.Attribute E f A] e p) (ZC c.K (Q7 m) G f) (Y6 a7 m f kp r):=⟨a0k h Y.p hs,by
 intro O g as σ H ds D F S a q;obtain⟨pv,h1,a⟩:=t4 a;obtain⟨t,h2,a⟩:=t4 a;obtain⟨⟨w,fs⟩,I,a⟩:=t4 a;obtain⟨hl,a⟩:=J9 a;cases a;refine Y.t O g as σ H ds pv _ S h1 λy H1 s r1=>?_
 obtain⟨Rf,M,k2,k3⟩:=Ib (S.dm) r1 (hk pv t h2);obtain⟨S1,ad⟩:=S.adopt s m M k2;obtain⟨rg,N,B,l⟩:=S.iU;obtain⟨rg',g1,g2,W,g4,g5⟩:=ad rg N B l;obtain⟨v,R,K,ew,hR,L,x,Z,R',rfl,V,o,c3⟩:=W m _ (dh I);have ec:=T.eq V;subst ec;obtain⟨v0,R0,j,ew0,Q,C0,dx0,fv0,R0',rfl,c10,P,d⟩:=l m _ (dh I);rw[K]at j;cases j;have k:=s _ _ P;rw[o]at k;cases k;have dj:∀b∈Rf,b∉R0':=λb X C=>by obtain⟨u,_,C⟩:=d.at b C;rw[M b X]at C;exact nE C
 obtain⟨R2,p1,p2⟩:=(d.same (lL s M) λb _ E C=>s _ _ C).put (f:=f) k3 dj;refine⟨_,K,v,L,x,Z,rfl,o,T.cl,n,by rw[d.len];exact pJ,q (Rf.map U++as) σ _ ?_⟩
 have nv:∀b∈R2,b≠v:=λb X C=>by subst C;obtain⟨u,i,C⟩:=p1.at b X;rw[o]at C;cases C;rcases i with ⟨_,i⟩|⟨_,i⟩<;>cases i
 have hv:=hR v C9;refine S1.BM (u:=Cl.i L x (dg f y Z)) (dh I) g1 g2 W hv λsm=>⟨v,v::R2,K,ew,λb X=>?_,L,x,_,R2,rfl,V,O4,p1.same sm λb X E C=>by rw[J6 (nv b X)];exact C⟩
 rcases List.mem_cons.mp X with rfl|X
 exact hv
 . rcases p2 b X with C|C
   exact g4 b C
   . exact g5 b (Q b (C4 _ C))⟩
noncomputable def cM(nm:Str)(i:Nat)(f:Str)(Fk Fv:DV):DO:=λds=>(Fv ds).bind λpv=>(Fk ds).bind λk=>(gI nm i ds).bind λx=>(D9 f x.2).bind λp=>(tH p).bind λl=>match k.d with
 | .int k=>(jy l.length k).bind λj=>U (.next (ds.set i (U (.ob x.1 (.ins nm (Q0 f (.own (l.set j pv.d)) x.2))))))
 |_=>J
noncomputable def nq(nm:Str)(i:Nat)(f:Str)(F:DV):DO:=λds=>(F ds).bind λpv=>(gI nm i ds).bind λx=>(D9 f x.2).bind λp=>(tH p).bind λl=>if l.length<1000000 then U (.next (ds.set i (U (.ob x.1 (.ins nm (Q0 f (.own (l++[pv.d])) x.2))))))else J
def DS.UY{t:PF}{u:Cl}(S:DS g O q j5 B H L)(hd:L[m]? = U (U (.ob k7 (.ins o i4))))(I:D9 a7 i4=U l5)(s:B[m]? = U (U (.ref T)))(l:H T=U (.ins c9 i3 j9))(N:j9.lookup a7=U (.ref z))(v:∀d,l5≠.dat d)(X:∀{Hv':Hp},v8 (B7 H j5 O) Hv'->uT g Hv' (upd H z u.1) (.ref z) t [z]):DS g O q j5 B (upd H z u.1) (L.set m (U (.ob k7 (.ins o (Q0 a7 t i4))))):=by
 obtain⟨rg,E,G,x⟩:=S.iU;obtain⟨v0,R0,c,i,h,Z,C,M,e,rfl,n,K,j⟩:=x m _ hd;rw[s]at c;cases c;rw[l]at K;cases K;obtain⟨x0,R,A,P,Q,F⟩:=j.look I;rw[N]at A;cases A;have p:R=[z]:=by
  cases P with
  |dat _=>exact absurd rfl (v _)
  |own _ _=>rfl
  |dct _ _=>rfl
 subst p;have w:=Q z C9;have Y:T≠z:=λa=>by subst a;obtain⟨u',k,a⟩:=j.at T w;rw[l]at a;cases a;rcases k with ⟨_,k⟩|⟨_,k⟩<;>cases k
 refine S.BM hd E G x (h z (C4 _ w)) λsm=>⟨T,T::e,s,i,h,c9,i3,j9,e,rfl,n,by rw[J6 Y];exact l,F sm (λb hb D f a=>?_) (X sm)⟩;rw[J6 (λa=>D (by rw[a];exact C9))];exact a
set_option tactic.hygienic true in
def RP {f:Str} (T:eh c.K a7 z) (n:aI c.K z f) (ho:PE c E (Q7 m)) (Z:PX c Uf b7 G d6) (I:PX c Uf e c6 r) (y:autoParam (aU E f c.env (eval E c.env)=eval E c.env) t8) (ha:autoParam (∀v,assign (.Subscript (.Attribute E f A) b7 c8) c.env v=(do
   let ov <- holding [v] (eval (.Attribute E f A) c.env)
   let iv <- holding [v,ov] (eval b7 c.env)
   dS c8
   holding [v,ov,iv] (setItem ov iv v)
   release [v,ov,iv] [])) X0)
  (hs:autoParam (uD [.Subscript (.Attribute E f A) b7 c8] e p.line c.env=pure U') t8) (hw:autoParam (uC [.Subscript (.Attribute E f A) b7 c8] e c.env=pure J) t8)
  (h1:autoParam ((hE [.Subscript (.Attribute E f A) b7 c8] c.env).map (·.2)=[assign (.Subscript (.Attribute E f A) b7 c8) c.env]) t8) :
  P5 c (.Assign [.Subscript (.Attribute E f A) b7 c8] e p) (iC c6 (Ke (rB c.K (Q7 m) f) G BQ)) (cM a7 m f d6 r):=⟨xH I.p (CU (tG ho y) Z.p set_list ha) hs hw h1,by
 intro O g B o H L D F S X q;obtain⟨pv,e1,X⟩:=t4 X;obtain⟨kv,e2,X⟩:=t4 X;obtain⟨⟨w,fs⟩,P,X⟩:=t4 X;obtain⟨k,Q,X⟩:=t4 X;obtain⟨l,e5,h⟩:=t4 X;have e6:=wI e5;subst e6;split at h
 . rename_i kk b;obtain⟨j,e7,h⟩:=t4 h;cases h;refine I.t O g B o H L pv _ S e1 λv H1 s1 r1=>?_
   have s:=S.grow s1;obtain⟨v0,R,V,_,hR,C',dx,fv,R',rfl,c1,M,c3⟩:=s.slot m _ (dh P);have ec:=T.eq c1;subst ec;obtain⟨x,Rf,Y,l2,l3,l4⟩:=c3.look Q;cases l2 with
   |own y1 W =>
    rename_i a xs;refine⟨_,V,v0,C',dx,fv,_,rfl,M,T.cl,n,Y,?_⟩;refine Z.t O g B o H1 L kv _ s e2 λw' H2 i r2=>?_;have N:=r2.dt s.dm;rw[b]at N;cases N;refine⟨a,xs,kk,j,rfl,rfl,i _ _ y1,by rw[W.length];exact e7,q B o _ ?_⟩;exact(s.grow i).UY (u:=Cl.l _) (dh P) Q V (i _ _ M) Y (λd C=>by cases C) λsm=>.own O4 (((W.same (T8 i)).set j ((r1.grow i).dt S.dm)).same sm)
 . exact nE h⟩
set_option tactic.hygienic true in
def RR {f:Str} {cpos:Pos} (T:eh c.K a7 z) (n:aI c.K z f) (ho:PE c E (Q7 m)) (B:PX c Uf e G r) (te:autoParam (aU E f c.env (eval E c.env)=eval E c.env) t8) (k:autoParam (w4 [e] c.env=(U',eval e c.env)::w4 [] c.env) t8) (g:autoParam (aU (.Attribute E f A) "append" c.env (eval (.Attribute E f A) c.env)=eval (.Attribute E f A) c.env) t8) (i:autoParam (((H9 cpos (w4 [e] c.env)).all (λx=>!x.1)&&(cq cpos (eJ [] c.env)).all (λx=>x.1.isSome)
   && decide ([e].length+([]:List aZ).length+(if ([]:List aZ).isEmpty then 0 else 1)<30))=Uf) t8)
  (X:autoParam ((c8.endLine==cpos.line)=Uf) t8) (b:autoParam ((H9 cpos (w4 [] c.env)).any (·.1)=U') t8)
  (hs:autoParam (cw (.Call (.Attribute (.Attribute E f A) "append" c8) [e] [] cpos) J p.line c.env=pure U') t8) :
  P5 c (.Expr (.Call (.Attribute (.Attribute E f A) "append" c8) [e] [] cpos) p) (vg (Hf c.K "list" zH (rB c.K (Q7 m) f) (jl G nY))) (nq a7 m f r):=
 ⟨qw (xK rp Qg Qf Ba (tG ho te) (iW B.p qy k) g i X k b) hs,by
 intro O j N W H ds D C S h q;obtain⟨pv,e1,h⟩:=t4 h;obtain⟨⟨w,fs⟩,F,h⟩:=t4 h;obtain⟨K,I,h⟩:=t4 h;obtain⟨l,e5,y⟩:=t4 h;have e6:=wI e5;subst e6;obtain⟨hl,y⟩:=J9 y;cases y;obtain⟨v0,R,L,_,hR,C',Z,fv,R',rfl,Y,o,c3⟩:=S.slot m _ (dh F);have ec:=T.eq Y;subst ec;obtain⟨x,Rf,V,l2,l3,l4⟩:=c3.look I;cases l2 with
 |own P M =>
  rename_i a Q;refine⟨_,L,v0,C',Z,fv,_,rfl,o,T.cl,n,V,.inl ⟨rfl,Q,N5.of P⟩,?_⟩;refine B.t O j N W H ds pv _ S e1 λv H1 s r1=>?_
  have:=M.length;refine⟨a,Q,v,rfl,rfl,s _ _ P,M8 B4 (pF F3),q N W _ ?_⟩;exact(S.grow s).UY (u:=Cl.l _) (dh F) I L (s _ _ o) V (λd t=>by cases t) λsm=>.own O4 (((M.same (T8 s)).append (.cons (r1.dt S.dm) .nil)).same sm)⟩
end
def lG(K:y7)(f:List PV->Option (PV×Ds)):Sp:=λvs H Q _=>∃(O:List Addr) (E1:Hp) (as:As) (args:List PV) (pv:PV) (ds':Ds),
 DS K O E1 as (vs.map U) H (args.map U)/\f args=U (pv,ds')/\∀as' Hm H' v,DS K O E1 as' (vs.map U) Hm ds'->v8 Hm H'->RX K O as' Hm H' v pv->Q v H'
noncomputable def dJ(t:Nat->Addr):Nat->List PV->List PV
 |_,[]=>[]
 |i,.ob _ c::r=>.ob (U (t i)) c::dJ t (i+1) r
 |i,x::r=>x::dJ t (i+1) r
noncomputable def T9(t:Nat->Addr):Nat->List PV->Ds->Ds
 |_,[],_=>[]
 |i,.ob _ _::a,U (.ob w c)::r=>(if w=U (t i)then U (.ob J c)else J)::T9 t (i+1) a r
 |i,_::a,_::r=>J::T9 t (i+1) a r
 |i,_::a,[]=>J::T9 t (i+1) a []
noncomputable def mK(args:List PV)(t:Nat->Addr):Out->Option (PV×Ds)
 | .retO pv ds=>U (pv,T9 t 0 args ds)
 | .next ds=>U (.dat .none,T9 t 0 args ds)
 |_=>J
noncomputable def qJ(n N:Nat)(G:DO):List PV->Option (PV×Ds):=λargs=>if args.length=n then
 (open Classical in if h:∃r,∀t,(G ((dJ t 0 args).map U++C2 (N-n) J)).bind (mK args t)=U r then U h.choose else J)else J
def ow{r:PV×Ds}(b:m6.length=m)(h:∀t,(b4 ((dJ t 0 m6).map U++C2 (d5-m) J)).bind (mK m6 t)=U r):qJ m d5 b4 m6=U r:=by
 delta qJ;rw[t2 b];have a:∃r,∀t,(b4 ((dJ t 0 m6).map U++C2 (d5-m) J)).bind (mK m6 t)=U r:=⟨r,h⟩;rw[dif_pos a];have:=a.choose_spec λ_=>0;rw[h λ_=>0]at this;exact this.symm
set_option tactic.hygienic true in
def Im{r:PV×Ds}(h:qJ m d5 b4 m6=U r):m6.length=m/\∀t,(b4 ((dJ t 0 m6).map U++C2 (d5-m) J)).bind (mK m6 t)=U r:=by
 unfold qJ at h;split at h;rename_i a;split at h;rename_i b;cases h;exact⟨a,b.choose_spec⟩;exact nE h;exact nE h
theorem Cp(t:Nat->Addr):∀(args:List PV) (i k:Nat),(dJ t i args)[k]? = (args[k]?).map λpv=>match pv with
  | .ob _ c=>.ob (U (t (i+k))) c
  |pv=>pv
 | [],i,k=>by simp[dJ]
 |x::r,i,0=>by cases x<;>simp[dJ]
 |x::r,i,k+1=>by
  have:=Cp t r (i+1) k;rw[show i+1+k=i+(k+1)from FR _ _ _]at this
  cases x<;>(assumption)
set_option tactic.hygienic true in
theorem wW(t:Nat->Addr):∀(args:List PV) (i k:Nat) (ds:Ds) (pv:PV),(T9 t i args ds)[k]? = U (U pv)->∃c w b,pv=.ob J c/\args[k]? = U (.ob w b)/\ds[k]? = U (U (.ob (U (t (i+k))) c))
 | [],i,k,ds,pv,h=>by simp[T9]at h
 |x::a,i,0,[],pv,h=>by cases x<;>simp[T9]at h
 |x::a,i,k+1,[],pv,h=>by
  have d:(T9 t (i+1) a [])[k]? = U (U pv):=by cases x<;>simpa [T9]using h
  obtain⟨c,w,b,_,_,h⟩:=wW t a (i+1) k [] pv d;simp at h
 |x::a,i,0,y::r,pv,h=>by
  cases x with
  |ob e b =>
   cases y with
   |none=>simp[T9]at h
   |some y =>
    cases y with
    |ob w c =>
     simp only[T9]at h;split at h;rename_i j;cases h;exact⟨c,e,b,rfl,rfl,by simp[j]⟩;cases h
    |dat _=>simp[T9]at h
    |own _=>simp[T9]at h
  |dat _=>simp[T9]at h
  |own _=>simp[T9]at h
 |x::a,i,k+1,y::r,pv,h=>by
  have d:(T9 t (i+1) a r)[k]? = U (U pv):=by
   cases x with
   |ob e b =>
    cases y with
    |none=>assumption
    |some y=>cases y<;>simpa [T9]using h
   |dat _=>assumption
   |own _=>assumption
  obtain⟨c,w,b,f,g,l⟩:=wW t a (i+1) k r pv d;exact⟨c,w,b,f,by assumption,by rw[sq,l,show i+1+k=i+(k+1)from FR _ _ _]⟩
theorem kK(t:Nat->Addr):∀(args:List PV) (i:Nat) (ds:Ds),(T9 t i args ds).length=args.length
 | [],_,_=>by simp[T9]
 |x::a,i,[]=>by cases x<;>simp[T9,kK t a]
 |x::a,i,y::r=>by
  cases x with
  |ob w c =>
   cases y with
   |none=>simp[T9,kK t a]
   |some y=>cases y<;>simp[T9,kK t a]
  |dat _=>simp[T9,kK t a]
  |own _=>simp[T9,kK t a]
section
variable{K:y7}
def DS.slots(S:DS K O q u B H L){b:St}{ds':Ds}(l:b.length=ds'.length)(h:∀(i:Nat) (pv:PV),ds'[i]? = U (U pv)->∃a,L[i]? = U (U a)/\∀c,cP K O u H B[i]? c a->cP K O u H b[i]? c pv):DS K O q u b H ds':=by
 obtain⟨c,j,e,k⟩:=S.iU;refine⟨l,S.same,S.new,S.fx,c,j,e,λi pv f=>?_⟩;obtain⟨a,d,g⟩:=h i pv f;exact g _ (k i a d)
end
section
variable{w:E3}{K:y7}{mg:Str->Option t5}
def addrOf:Option V->Addr
 |some (.ref a)=>a
 |_=>(0:Nat)
set_option tactic.hygienic true in
def DS.Zq{N:List Str}(S:DS K O q u (M.map U) H (m6.map U)):
  DS K O q u (L2.start N M) H ((dJ (λi=>addrOf M[i]?) 0 m6).map U++C2 (N.length-m6.length) J):=by
 have m:M.length=m6.length:=by have:=S.ls;simpa using this
 have lt:(dJ (λi=>addrOf M[i]?) 0 m6).length=m6.length:=by
  have:∀a i t,(dJ t i a).length=a.length:=by
   intro a;induction a with
   |nil=>intro i t;rfl
   |cons x r p=>intro i t;cases x<;>simp[dJ,p]
  exact this _ _ _
 refine S.slots (by delta L2.start;simp[lt,m]) λi pv b=>?_;rw[Po]at b;split at b
 . rename_i z;rw[O1,Cp,Option.map_map]at b;have f:i<m6.length:=by simpa [lt]using z
   have e:i<M.length:=by lia
   rw[K7 f]at b;have k:(L2.start N M)[i]? = (M.map U)[i]?:=by delta L2.start;rw[iy (by simpa using e)]
   have s:(m6.map U)[i]? = U (U m6[i]):=by rw[O1,K7 f];rfl
   refine⟨m6[i],s,λy h=>?_⟩
   rw[k];simp only[qX,Function.comp,OT]at b;generalize m6[i]=x at b h;cases x with
   |dat d=>simp only at b;rw[<-b];exact h
   |own l=>simp only at b;rw[<-b];exact h
   |ob w c =>
    rw[<-b];obtain⟨v,R,g,A,o,n⟩:=h;refine⟨v,R,g,.inr ?_,o,n⟩;rw[O1]at g;rw[K7 e]at g;have j:M[i]=.ref v:=by simpa using g
    rw[qS,K7 e,j];rfl
 have:=pq b;simp[OX]at this
set_option tactic.hygienic true in
def uR.okO {N:List Str} (F:uR K o a7 j6 z d8) (S:kR N d9 (N7 j6)) (hN:d9.length<=N.length) (u:∀(j:t5) (A:Z0) (outer:List Env) (s:v7) (H:Hp) (E:XK),O9 m (A.deeper (fP a7 (N7 j6) (hz s) z j)) ->
   ∃t,mQ (qk sV b5 w K mg a6 N a7 (N7 j6) z j A outer s H E).AZ (cH j6) t b4):bz b5 w K mg a6 sV (m+1) z d8 d9 (lG K (qJ d9.length N.length b4)):=by
 have ln:∀g H Q E,lG K (qJ d9.length N.length b4) g H Q E->g.length=d9.length:=λg H Q E h=>by obtain⟨O,d,as,q,pv,Z,D,I,X⟩:=h;have:=D.ls;have hl:=(Im I).1;simp at this;simp[*]
 refine F.ok S ln λj A outer s H g Q E hr h=>?_
 obtain⟨O,d,as,q,pv,Z,D,I,X⟩:=h;obtain⟨t,ht⟩:=u j A outer s H E hr;refine⟨t,ht.p,?_⟩;obtain⟨hl,I⟩:=Im I;have W:=I λi=>addrOf g[i]?
 obtain⟨P,W,C⟩:=t4 W;have S1:=DS.Zq (N:=N) D;rw[hl]at S1;have:g.length=d9.length:=by have:=D.ls;simp at this;simp[*]
 have L:∀a l T b,DS K O d a l T b->DS K O d a (g.map U) T (T9 (λi=>addrOf g[i]?) 0 q b):=λa l T b S2=>by
  refine S2.slots (by rw[kK,E7];simp[*]) λi pv hd=>?_;obtain⟨c,w0,c0,rfl,h4,h5⟩:=wW _ _ _ _ _ _ hd;refine⟨_,h5,λrg hs=>?_⟩
  obtain⟨v,R,z1,z2,z3,z4⟩:=hs;refine⟨v,R,?_,.inl rfl,z3,z4⟩;have n:addrOf g[0+i]? = v:=by
   rcases z2 with x|x
   exact nS x;exact X8 x
  rw[qS]at n;obtain⟨v',_,B,_⟩:=D.slot i (.ob w0 c0) (by rw[O1,h4];rfl)
  rw[B];rw[O1]at B;cases e:g[i]? with
  |none=>rw[e]at B;exact nE B
  |some o =>
   rw[e]at B n;have y1':o=.ref v':=by simpa using B
   rw[y1']at n;have Y:v'=v:=n;rw[Y]
 refine ht.t O d as (L2.start N g) H _ _ P S1 W ?_;cases P with
 |next b=>cases C;exact λa l V S'=>X a V V _ (L _ _ _ _ S') (v8.refl _) Dt.non
 |retO pv' b=>cases C;exact λa l T V v S' s r=>X a T V v (L _ _ _ _ S') s r
 |ret pv'=>exact nE C
 |brk b=>exact nE C
 |cont b=>exact nE C
 |up o=>exact nE C
end
inductive AV where
 |d (x:f7)
 |s (i:Nat)
variable{m4:Ds->Option (List AV)}
inductive By(K:y7)(Hv:Hp)(σ:St):List V->List AV->Prop
 |nil:By K Hv σ [] []
 |d {v x vs l}:Dt K Hv v x->By K Hv σ vs l->By K Hv σ (v::vs) (.d x::l)
 |s {v i vs l}:σ[i]? = U (U v)->By K Hv σ vs l->By K Hv σ (v::vs) (.s i::l)
def TAO(K:y7)(t:TA)(F:Ds->Option (List AV)):Prop:=
 ∀(O:List Addr) (E1:Hp) (as:As) (σ:St) (H:Hp) (ds:Ds) (l:List AV) (Q:List V->Hp->Prop),DS K O E1 as σ H ds->F ds=U l->(∀vs H',v8 H H'->By K (B7 H' as O) σ vs l->Q vs H')->t σ H Q
structure uh(X:Cx)(es:List Expr)(t:TA)(F:Ds->Option (List AV)):Prop where
 p:PA X es t
 t:TAO X.K t F
noncomputable def fk:Ds->Option (List AV):=λ_=>U []
noncomputable def P6(F:DV)(G:Ds->Option (List AV)):Ds->Option (List AV):=λds=>(F ds).bind λx=>(G ds).bind λl=>U (.d x.d::l)
noncomputable def ie(i:Nat)(G:Ds->Option (List AV)):Ds->Option (List AV):=λds=>match ds[i]? with
 |some (U (.ob _ _))=>(G ds).bind λl=>U (.s i::l)
 |_=>J
section
def Xy:uh c [] nY fk:=⟨qy,by intro O a d e H X l Q S b q;cases b;exact q [] H (v8.refl H) .nil⟩
def Sy(h:PX c Uf e G r)(k:uh c Z N m4)(hs:autoParam (w4 (e::Z) c.env=(U',eval e c.env)::w4 Z c.env) t8):uh c (e::Z) (jl G N) (P6 r m4):=⟨iW h.p k.p hs,by
 intro O a j f H i l Q S b q;obtain⟨x,s,b⟩:=t4 b;obtain⟨m,y,b⟩:=t4 b;cases b;refine h.t O a j f H i x _ S s λv n g u=>?_;refine k.t O a j f n i m _ (S.grow g) y λo w X t=>?_
 exact q (v::o) w (g.trans X) (.d ((u.grow X).dt (S.dm)) t)⟩
set_option tactic.hygienic true in
def Sw(i:Nat)(h:PE c e (Q7 i))(k:uh c Z N m4)(hs:autoParam (w4 (e::Z) c.env=(U',eval e c.env)::w4 Z c.env) t8):uh c (e::Z) (jl (Q7 i) N) (ie i m4):=⟨iW h k.p hs,by
 intro O b y n H u l Q S a q;unfold ie at a;split at a;rename_i w X f;obtain⟨m,r,a⟩:=t4 a;cases a;obtain⟨v,R,d,_⟩:=S.slot i _ f;refine⟨_,d,?_⟩;refine k.t O b y n H u m _ S r λg x j o=>?_;exact q (_::g) x j (.s d o)
 . exact nE a⟩
end
noncomputable def sk(ds:Ds):List AV->Option (List PV)
 | []=>U []
 | .d x::l=>(sk ds l).bind λr=>U (.dat x::r)
 | .s i::l=>match ds[i]? with
  |some (U (.ob _ c))=>(sk ds l).bind λr=>U (.ob J c::r)
  |_=>J
noncomputable def V1:List AV->List Nat
 | []=>[]
 | .d _::l=>V1 l
 | .s i::l=>i::V1 l
noncomputable def JF:Option PV->Option (Option PV)->Option PV
 |some (.ob _ c),U (U (.ob w _))=>U (.ob w c)
 |_,_=>J
set_option tactic.hygienic true in
def MF{x:Option PV}{o:Option (Option PV)}(h:JF x o=U i6):∃w c b a,o=U (U (.ob w a))/\x=U (.ob b c)/\i6=.ob w c:=by
 unfold JF at h;split at h;rename_i b c w a;cases h;exact⟨w,c,b,a,rfl,rfl,rfl⟩;exact nE h
noncomputable def gF:List AV->Ds->Ds->Ds
 | .s i::l,x::r,ds=>gF l r (ds.set i (JF x ds[i]?))
 | .d _::l,_::r,ds=>gF l r ds
 |_,_,ds=>ds
noncomputable def jv:List AV->Nat->Option Nat
 | [],_=>J
 | .d _::l,j=>(jv l j).map (· + 1)
 | .s i::l,j=>if i=j then U 0 else(jv l j).map (· + 1)
set_option tactic.hygienic true in
theorem lH:∀{l:List AV} {j k:Nat},jv l j=U k->l[k]? = U (.s j)
 | [],j,k,h=>nE h
 | .d x::l,j,k,h=>by simp only[jv,Gf]at h;obtain⟨m,a,rfl⟩:=h;rw[sq];exact lH a
 | .s i::l,j,k,h=>by
  simp only[jv]at h;split at h;rename_i e;cases h;rw[e];rfl;simp only[Gf]at h;obtain⟨m,a,rfl⟩:=h;rw[sq];exact lH a
theorem cK:∀{l:List AV} {j:Nat},j∈V1 l ↔ ∃k:Nat,l[k]? = U (AV.s j)
 | [],j=>by simp[V1]
 | .d x::l,j=>by
  rw[V1,cK];constructor;rintro⟨k,h⟩;exact⟨k+1,by assumption⟩
  . rintro⟨k,h⟩;cases k with
    |zero=>simp at h
    |succ k=>exact⟨k,by assumption⟩
 | .s i::l,j=>by
  rw[V1,T4,cK];constructor;rintro(h|⟨k,h⟩);exact⟨0,by rw[h];rfl⟩;exact⟨k+1,by assumption⟩
  . rintro⟨k,h⟩;cases k with
    |zero =>
     have a:i=j:=by simpa using h
     exact .inl a.symm
    |succ k=>exact .inr ⟨k,by assumption⟩
theorem kD:∀{l:List AV} {j k:Nat},(V1 l).Nodup->l[k]? = U (.s j)->jv l j=U k
 | [],j,k,_,h=>by simp at h
 | .d x::l,j,k,n,h=>by
  cases k with
  |zero=>simp at h
  |succ k =>
   simp only[jv,kD (l:=l) n h,qX]
 | .s i::l,j,k,n,h=>by
  rw[V1,Ow]at n;cases k with
  |zero =>
   have b:i=j:=by simpa using h
   simp[jv,b]
  |succ k =>
   have a:i≠j:=λz=>n.1 (cK.mpr ⟨k,by rw[z];exact h⟩);simp only[jv,s9 a,kD n.2 h,qX]
set_option tactic.hygienic true in
def a1P{l:List AV}(o:By g H B M l)(h:sk L l=U m6):M.length=l.length/\m6.length=l.length/\∀(k:Nat) (pv:PV),m6[k]? = U pv ->
  (∃x v,l[k]? = U (AV.d x)/\pv=.dat x/\M[k]? = U v/\Dt g H v x)\/∃i w c v,l[k]? = U (AV.s i)/\L[i]? = U (U (.ob w c))/\pv=.ob J c/\M[k]? = U v/\B[i]? = U (U v):=by
 induction o generalizing m6 with
 |nil =>
  cases h;exact⟨rfl,rfl,λk pv h=>nE h⟩
 |d e t i =>
  obtain⟨r,f,h⟩:=t4 h;cases h;obtain⟨b,K,a⟩:=i f;refine⟨D3 (· + 1) b,D3 (· + 1) K,λk pv h=>?_⟩
  cases k with
  |zero=>exact .inl ⟨_,_,rfl,(X8 h).symm,rfl,e⟩
  |succ k=>exact a k pv h
 |s e t i =>
  rw[sk]at h;split at h
  . rename_i w c n;obtain⟨r,f,h⟩:=t4 h;cases h;obtain⟨b,K,a⟩:=i f;refine⟨D3 (· + 1) b,D3 (· + 1) K,λk pv h=>?_⟩
    cases k with
    |zero=>exact .inr ⟨_,w,c,_,rfl,n,(X8 h).symm,rfl,e⟩
    |succ k=>exact a k pv h
  exact nE h
theorem wF:∀{l:List AV} {ds' ds:Ds},(gF l ds' ds).length=ds.length
 | [],_,_=>by simp[gF]
 | .d _::l,x::r,ds=>by rw[gF];exact wF
 | .d _::l,[],ds=>by simp[gF]
 | .s i::l,[],ds=>by simp[gF]
 | .s i::l,x::r,ds=>by rw[gF,wF,OA]
theorem wG:∀{l:List AV} {ds' ds:Ds} {j:Nat} {pv:PV},(V1 l).Nodup->ds'.length=l.length->(gF l ds' ds)[j]? = U (U pv) ->
  (j∉V1 l/\ds[j]? = U (U pv))\/∃(k:Nat) (w:Option Addr) (c:OD) (f:Option Addr) (e:OD),l[k]? = U (AV.s j)/\ds[j]? = U (U (.ob w e))/\ds'[k]? = U (U (.ob f c))/\pv=.ob w c
 | [],_,ds,j,pv,_,_,h=>.inl ⟨by simp[V1],by assumption⟩
 | .d x::l,[],ds,j,pv,n,hl,h=>by simp at hl
 | .s x::l,[],ds,j,pv,n,hl,h=>by simp at hl
 | .d x::l,y::r,ds,j,pv,n,hl,h=>by
  rcases wG (l:=l) n (by simpa using hl) h with h|⟨k,w,c,f,e,g,b,o,m⟩
  exact .inl h;exact .inr ⟨k+1,w,c,f,e,by assumption,b,by assumption,m⟩
 | .s i::l,y::r,ds,j,pv,n,hl,h=>by
  rw[V1,Ow]at n;rcases wG n.2 (by simpa using hl) h with ⟨g,b⟩|⟨k,v,q,f,e,g,b,o,m⟩
  by_cases a:i=j;subst a;rw[zh,t2 rfl]at b;obtain⟨_,b⟩:=J9 b;obtain⟨w,c,f,e,t,p,u⟩:=MF (X8 b);exact .inr ⟨0,w,c,f,e,rfl,t,by rw[p];rfl,u⟩;rw[ix a]at b;exact .inl ⟨by rw[V1,T4];exact λz=>z.elim (λz=>a z.symm) g,b⟩;have a:i≠j:=λz=>n.1 (cK.mpr ⟨k,by rw[z];exact g⟩);rw[ix a]at b;exact .inr ⟨k+1,v,q,f,e,by assumption,b,by assumption,m⟩
def Np(h:∀b,(b∈O\/U b∈u)↔(b∈j8\/U b∈j5)):B7 H u O=B7 H j5 j8:=by
 funext b
 delta B7
 simp_all
section
variable{K:y7}
set_option tactic.hygienic true in
def DS.VJ(S:DS K O q u B H L){l:List AV}(ha:By K (B7 H u O) B M l)(hp:sk L l=U m6)(hn:(V1 l).Nodup):
  ∃Oc Hc ac,DS K Oc Hc ac (M.map U) H (m6.map U)/\∀f X ds',DS K Oc Hc f (M.map U) X ds'->∃as2,DS K O q as2 B X (gF l ds' L)/\∀H' v pv,v8 X H'->RX K Oc f X H' v pv->RX K O as2 X H' v pv:=by
 obtain⟨rg,r1,r2,r3⟩:=S.iU;obtain⟨l1,l2,l3⟩:=a1P ha hp;have C:∀b,b∈(V1 l).flatMap rg ↔ ∃i∈V1 l,b∈rg i:=λb=>OJ;generalize hR:(V1 l).flatMap rg=RI at C;generalize hT:(u.filterMap id).filter (λb=>decide (b∉RI))=E1
 have n:∀b,b∈E1↔U b∈u/\b∉RI:=λb=>by rw[<-hT,Ov,zl,uH];simp
 have g:∀b,b∈RI->U b∈u:=λb F=>by obtain⟨i,_,h⟩:=(C b).mp F;exact r1 i b h
 have as:∀(R:List Addr) b,U b∈R.map U↔b∈R:=λR b=>by simp
 have G:∀b o,B7 H (RI.map U) [] b=U o↔b∉RI/\H b=U o:=λb o=>by rw[F4,as];simp
 have e0:∀H,B7 H (RI.map U) (O++E1)=B7 H u O:=λH=>Np λb=>by
  rw[as,jU,n];constructor;rintro((h|⟨h,_⟩)|h);exact .inl h;exact .inr h;exact .inr (g b h);rintro(h|h);exact .inl (.inl h);by_cases c:b∈RI;exact .inr c;exact .inl (.inr ⟨h,c⟩)
 refine⟨O++E1,B7 H (RI.map U) [],RI.map U,⟨?_,B5,λa h=>?_,λa h=>?_,λk=>match l[k]? with|some (.s i)=>rg i|_=>[],λk b h=>?_,λk k' b h A=>?_,λk pv h=>?_⟩,?_⟩;simp[l1,l2];rw[as]at h;exact⟨by delta B7;rw[t2 (.inr ((as _ _).mpr h))],(S.new a (g a h)).2⟩
 . rcases List.mem_append.mp h with h|h
   obtain⟨o,z⟩:=S.fx a h;exact⟨o,(G a o).mpr ⟨λσ=>S.nO (g a σ) h,S.same _ _ z⟩⟩;obtain⟨m,p⟩:=(n a).mp h;obtain⟨_,I,z⟩:=S.new a m;exact⟨_,(G a _).mpr ⟨p,z⟩⟩
 dsimp only at h;split at h;rename_i i ds;rw[as,C];exact⟨i,cK.mpr ⟨k,ds⟩,h⟩;simp at h;dsimp only at h A;split at h;rename_i i ds;split at A;rename_i i' hi';have:=r2 i i' b h A;subst this;have q1:=kD hn ds;rw[kD hn hi']at q1;exact(X8 q1).symm;simp at A;simp at h
 . rw[O1]at h;cases t:m6[k]? with
   |none=>rw[t]at h;exact nE h
   |some pv0 =>
    rw[t]at h;have A:pv0=pv:=by simpa using h
    subst A;rcases l3 k pv0 t with ⟨x,v,D,rfl,z3,z4⟩|⟨i,w,c,v,D,z2,rfl,z3,z4⟩
    exact⟨v,by rw[O1,z3];rfl,by rw[e0];exact z4⟩
    . dsimp only;rw[D];obtain⟨v',R,Q,y2,Y,Z⟩:=r3 i _ z2;rw[z4]at Q;have W:v=.ref v':=by simpa using Q
      subst W;exact⟨v',R,by rw[O1,z3];rfl,.inl rfl,Y,by rw[e0];exact Z⟩
 intro f X ds' P;obtain⟨rg',q1,q2,q3⟩:=P.iU;have hl':ds'.length=l.length:=by have:=P.ls;simp at this;lia
 have na:∀b,U b∈f->b∉O/\b∉E1/\q b=J:=λb F=>by
  have z:=(P.new b F).1;refine⟨λσ=>?_,λσ=>?_,?_⟩;obtain⟨o,y⟩:=S.fx b σ;rw[(G b o).mpr ⟨λq'=>S.nO (g b q') σ,S.same _ _ y⟩]at z;exact nS z;obtain⟨m,p⟩:=(n b).mp σ;obtain⟨_,I,y⟩:=S.new b m;rw[(G b _).mpr ⟨p,y⟩]at z;exact nS z
  . cases y:q b with
    |none=>rfl
    |some o =>
     rw[(G b o).mpr ⟨λq'=>?_,S.same _ _ y⟩]at z;exact nS z;rw[(S.new b (g b q')).1]at y;exact nE y
 have e1:∀H xs,B7 H (xs++f) (O++E1)=B7 H (xs++(f++E1.map U)) O:=λH xs=>Np λb=>by
  rw[jU,jU,jU,jU,as];constructor;rintro((h|h)|h|h);exact .inl h;exact .inr (.inr (.inr h));exact .inr (.inl h);exact .inr (.inr (.inl h));rintro(h|h|h|h);exact .inl (.inl h);exact .inr (.inl h);exact .inr (.inr h);exact .inl (.inr h)
 have e2:∀H:Hp,B7 H f (O++E1)=B7 H (f++E1.map U) O:=λH=>e1 H []
 have sm:v8 (B7 H u O) (B7 X (f++E1.map U) O):=fM λb o m p T=>by
  have F:=λz=>p (g b z);refine⟨m,λz=>?_,P.same _ _ ((G b o).mpr ⟨F,T⟩)⟩
  rcases List.mem_append.mp z with z|z
  have:=(P.new b z).1;rw[(G b o).mpr ⟨F,T⟩]at this;exact nS this;exact p ((n b).mp ((as _ _).mp z)).1
 refine⟨f++E1.map U,⟨by rw[wF];exact S.ls,λb o h=>P.same _ _ ((G b o).mpr ⟨λq'=>?_,S.same _ _ h⟩),λb h=>?_,S.fx,λj=>match jv l j with|some k=>rg' k|none=>rg j,λj b h=>?_,λj N b h A=>?_,λj pv h=>?_⟩,λH' v pv s r=>?_⟩;rw[(S.new b (g b q')).1]at h;exact nE h
 . rcases List.mem_append.mp h with h|h
   exact⟨(na b h).2.2,(P.new b h).2⟩;obtain⟨m,p⟩:=(n b).mp ((as _ _).mp h);obtain⟨z,I,y⟩:=S.new b m;exact⟨z,I,P.same _ _ ((G b _).mpr ⟨p,y⟩)⟩
 dsimp only at h;split at h;exact U7 _ (q1 _ b h);rename_i hj;refine L9 _ ((as _ _).mpr ((n b).mpr ⟨r1 j b h,λz=>?_⟩));obtain⟨i,ds,z⟩:=(C b).mp z;have:=r2 i j b z h;subst this;obtain⟨k,t⟩:=cK.mp ds;rw[kD hn t]at hj;exact nS hj
 . have no:∀(j N k),jv l j=U k->jv l N=J->b∈rg' k->b∈rg N->False:=λj N k hj hj' F hb'=>by
     have z:=q1 k b F;have:b∉RI:=λz=>by obtain⟨i,ds,z⟩:=(C b).mp z;have:=r2 i N b z hb';subst this;obtain⟨k,t⟩:=cK.mp ds;rw[kD hn t]at hj';exact nS hj'
     exact(na b z).2.1 ((n b).mpr ⟨r1 N b hb',this⟩)
   dsimp only at h A;split at h;rename_i k t;split at A;rename_i k' E;have:=q2 k k' b h A;subst this;have D:=lH t;rw[lH E]at D;cases D;rfl;rename_i E;exact(no j N k t E h A).elim;rename_i t;split at A;rename_i k' E;exact(no N j k' E t A h).elim;exact r2 j N b h A
 . rcases wG hn hl' h with ⟨m,p⟩|⟨k,w,c,w0,c0,m,p,T,rfl⟩
   . have:jv l j=J:=by
       cases z:jv l j with
       |none=>rfl
       |some k=>exact absurd (cK.mpr ⟨k,lH z⟩) m
     dsimp only;rw[this];refine(r3 j pv p).AS sm (λb F o z=>P.same _ _ ((G b o).mpr ⟨λσ=>?_,z⟩)) λb z=>z;obtain⟨i,ds,y⟩:=(C b).mp σ;have e:=r2 i j b y F;subst e;exact m ds
   . dsimp only;rw[kD hn m];obtain⟨v',R,Q,y2,Y,Z⟩:=q3 k _ T;obtain⟨v0,R0,x1,x2,_⟩:=r3 j _ p;have t:k<m6.length:=by rw[l2];exact(List.getElem?_eq_some_iff.mp m).1
     rcases l3 k _ (K7 t)with ⟨x,v,D,_⟩|⟨i,w',c',v,D,z2,z3,z4,z5⟩
     rw[m]at D;cases D
     . rw[m]at D;cases D;rw[O1,z4]at Q;have W:v=.ref v':=by simpa using Q
       subst W;rw[z5]at x1;have x1':v'=v0:=by simpa using x1
       subst x1';exact⟨v',R,z5,x2,Y,by rw[<-e2];exact Z⟩
 . cases pv with
   |dat d =>
    have r':Dt K (B7 H' f (O++E1)) v d:=r;rw[e2]at r';exact r'
   |own l =>
    obtain⟨a,xs,Q,y2,Y,Z⟩:=r;refine⟨a,xs,Q,y2,Y,?_⟩;have:=e1 H' [U a];rw[show(U a::(f++E1.map U))=[U a]++(f++E1.map U)from rfl,<-this];exact Z
   |ob w c =>
    obtain⟨o,R,Q,y2,Y,Z⟩:=r;refine⟨o,R,Q,y2,Y,?_⟩;rw[<-e1 H' (R.map U)];exact Z
end
def TXO(K:y7)(te:TE)(F:Ds->Option (PV×Ds)):Prop:=
 ∀(O:List Addr) (E1:Hp) (as:As) (σ:St) (H:Hp) (ds:Ds) (pv:PV) (ds':Ds) (Q:VK),DS K O E1 as σ H ds->F ds=U (pv,ds')->(∀as' Hm H' v,DS K O E1 as' σ Hm ds'->v8 Hm H'->RX K O as' Hm H' v pv->Q v H')->te σ H Q
structure wg(X:Cx)(e:Expr)(te:TE)(F:Ds->Option (PV×Ds)):Prop where
 p:PE X e te
 t:TXO X.K te F
noncomputable def jF(f:List PV->Option (PV×Ds))(Fl:Ds->Option (List AV)):Ds->Option (PV×Ds):=λds=>(Fl ds).bind λl=>if (V1 l).Nodup then(sk ds l).bind λargs=>(f args).bind λr=>U (r.1,gF l r.2 ds)else J
section
def QH{f':List PV->Option (PV×Ds)}(z:uh c Z N m4):TXO c.K (rC (lG c.K f') [] g8 N) (jF f' m4):=by
 intro O b I p H s pv o Q S a q;obtain⟨l,D,a⟩:=t4 a;obtain⟨r,a⟩:=J9 a;obtain⟨X,y,a⟩:=t4 a;obtain⟨⟨d,j⟩,w,a⟩:=t4 a;cases a;refine z.t O b I p H s l _ S D λL M m u=>?_;obtain⟨F,A,k,C,back⟩:=(S.grow m).VJ u y r;rw[bw];refine⟨F,A,k,X,d,j,C,w,λe i h v G g B=>?_⟩;obtain⟨f,n,x⟩:=back e i j G;exact q f i h v n g (x h v d g B)
def Ru{f':List PV->Option (PV×Ds)}(G:bz c.prog c.w c.K c.mg c.base i9 m z d8 P (lG c.K f'))(l:O9 m c.A)(n:Gl c o)(h:c.mg o=U (.ref z))(i:hP c.K (.ref z)=Uf)(X:Binds c.K d8 P [])(g:Passes i9 c g8)(d:uh c (e::Z) N m4)(b:autoParam ((o==("__debug__" : Str))=U') H0)(j:autoParam (w4 (e::Z) c.env=(U',eval e c.env)::w4 Z c.env) t8)(a:autoParam ((H9 A (w4 Z c.env)).any (·.1)=U') t8):
  wg c (.Call (.Name o p) (e::Z) [] A) (rC (lG c.K f') [] g8 N) (jF f' m4):=⟨HF G l n h i X .nil g d.p b j a,QH d⟩
noncomputable def P4(nm m:Str)(i:Nat)(f:List PV->Option (PV×Ds))(Fl:Ds->Option (List AV)):Ds->Option (PV×Ds):=λds=>(gI nm i ds).bind λx=>match D9 m x.2 with
 |none=>jF f (ie i Fl) ds
 |some _=>J
def QG{f':List PV->Option (PV×Ds)}(T:eh c.K o z)(I:uh c Z N m4):TXO c.K (ni z a7 (lG c.K f') [] g8 (Q7 d5) N) (P4 o a7 d5 f' m4):=by
 intro O X Y F H ds pv ds' Q S a q;obtain⟨⟨w,fs⟩,W,a⟩:=t4 a;have n:=dh W;have b:=a;obtain⟨v,R,u,_,hR,C',dx,A,R',rfl,P,C,x⟩:=S.slot d5 _ n;have ec:=T.eq P;subst ec;cases hl:D9 a7 fs with
 |some _=>simp_all
 |none =>
  rw[hl]at b;refine⟨_,u,v,dx,A,rfl,C,x.a0P hl,?_⟩;obtain⟨l,h,a⟩:=t4 b;unfold ie at h;rw[n]at h;obtain⟨L,g,f⟩:=t4 h;cases f;obtain⟨hn,a⟩:=J9 a;obtain⟨d,h2,a⟩:=t4 a;obtain⟨⟨e,y⟩,h3,a⟩:=t4 a;cases a;refine I.t O X Y F H ds L _ S g λvs H1 D r1=>?_;obtain⟨V,Hc,B,Sc,back⟩:=(S.grow D).VJ (.s u r1) h2 hn;rw[bw];refine⟨V,Hc,B,d,e,y,Sc,h3,λj p m v S' r M=>?_⟩;obtain⟨k,t,G⟩:=back j p y S';exact q k p m v t r (G m v e r M)
def kC {f':List PV->Option (PV × Ds)} {X:Str} {pl:Sem Bool} (o:eh c.K a7 T) (r:PE c E (Q7 d5)) (l:Meth c.K T X z) (G:bz c.prog c.w c.K c.mg c.base i9 m z d8 P (lG c.K f')) (n:O9 m c.A) (q:Binds c.K d8 P []) (j:Passes i9 c g8) (g:uh c (e::Z) N m4) (a:autoParam (w4 (e::Z) c.env=(U',eval e c.env)::w4 Z c.env) t8) (b:autoParam ((H9 p (w4 Z c.env)).any (·.1)=U') t8) (h:autoParam (eval (.Call (.Attribute E X A) (e::Z) [] p) c.env=(do
   let ov <- eval E c.env
   dS A.atName
   let (z,first) <- holding [ov] (jQ ov X pl)
   callWith p z first (H9 p (w4 (e::Z) c.env)) (cq p (eJ [] c.env)))) t8) :
  wg c (.Call (.Attribute E X A) (e::Z) [] p) (ni T X (lG c.K f') [] g8 (Q7 d5) N) (P4 a7 X d5 f' m4):=⟨HD r o.cl l G n q .nil j g.p a b h,QG o g⟩
def WQ {n:Str} (d:eh c.K a7 T) (l:PX c I E G r) (s:Meth c.K T n z) (o:bz c.prog c.w c.K c.mg c.base i9 m z d8 P (G4 c.K i7)) (u:O9 m c.A) (v:Binds c.K d8 P []) (t:Passes i9 c g8) (i:et c I (e::Z) N Y) (a:autoParam (w4 (e::Z) c.env=(U',eval e c.env)::w4 Z c.env) t8) (X:autoParam ((H9 p (w4 Z c.env)).any (·.1)=U') t8) (q:autoParam (eval (.Call (.Attribute E n A) (e::Z) [] p) c.env=(do
   let ov <- eval E c.env
   dS A.atName
   let (z,first) <- holding [ov] (jQ ov n m7)
   callWith p z first (H9 p (w4 (e::Z) c.env)) (cq p (eJ [] c.env)))) t8) :
  PX c I (.Call (.Attribute E n A) (e::Z) [] p) (ni T n (G4 c.K i7) [] g8 G N) (S3 a7 n i7 r Y):=⟨HD l.p d.cl s o u v .nil t i.p a X q,Hd d l i⟩
def Ry {g:Str} (b:eh c.K a7 T) (X:PX c I e G r) (j:Meth c.K T g z) (o:bz c.prog c.w c.K c.mg c.base i9 m z d8 P (G4 c.K i7)) (l:O9 m c.A) (n:Binds c.K d8 P []) (i:Passes i9 c g8) (h:autoParam (eval (.Call (.Attribute e g A) [] [] p) c.env=(do
   let ov <- eval e c.env
   dS A.atName
   let (z,first) <- holding [ov] (jQ ov g m7)
   callWith p z first (H9 p (w4 [] c.env)) (cq p (eJ [] c.env)))) t8) :
  PX c I (.Call (.Attribute e g A) [] [] p) (ni T g (G4 c.K i7) [] g8 G nY) (S3 a7 g i7 r u5):=⟨Sq X.p b.cl j o l n .nil i h,Hd b X HG⟩
noncomputable def Q1(F:Ds->Option (PV×Ds)):DO:=λds=>(F ds).bind λr=>U (.next r.2)
noncomputable def lO:DO:=λds=>U (.retO (.dat .none) ds)
def LW{FO:Ds->Option (PV×Ds)}(b:wg c e G FO)(hs:autoParam (cw e J p.line c.env=pure U') t8):P5 c (.Expr e p) (vg G) (Q1 FO):=⟨qw b.p hs,by intro O a l f H j D o S h q;obtain⟨⟨pv,X⟩,g,h⟩:=t4 h;cases h;exact b.t O a l f H j pv X _ S g λi m r v k d n=>q _ _ _ (k.grow d)⟩
def LU:P5 c (.Return J p) Vb lO:=⟨Xl,by intro O a b X H d D o S h q;cases h;exact q b X H H _ S (v8.refl H) Dt.non⟩
noncomputable def JL:PV×Ds->Option OD
 |(.dat .none,U (.ob _ c)::_)=>U c
 |_=>J
set_option tactic.hygienic true in
def MO{r:PV×Ds}{c:OD}(h:JL r=U c):∃w d,r=(.dat .none,U (.ob w c)::d):=by
 unfold JL at h;split at h;rename_i w a d;cases h;exact⟨w,d,rfl⟩;exact nE h
noncomputable def rR(nm:Str)(f:List PV->Option (PV×Ds))(Fl:DL):DV:=λds=>(Fl ds).bind λl=>(f (.ob J (.ins nm [])::l.map .dat)).bind λr=>(JL r).bind λc=>U (.ob J c)
set_option tactic.hygienic true in
def WR{f':List PV->Option (PV×Ds)}(C:eh c.K o T)(M:Mk c.K T z)(G:bz c.prog c.w c.K c.mg c.base i9 m z d8 P (lG c.K f'))(hr:O9 (m+1) c.A)(hg:Gl c o)(hm:c.mg o=U (.ref T))(r:Binds c.K d8 P [])(hx:Passes i9 c g8)(ha:et c Uf (e::Z) N Y)(hdb:autoParam ((o==("__debug__" : Str))=U') H0)(he:autoParam (w4 (e::Z) c.env=(U',eval e c.env)::w4 Z c.env) t8)(hpl:autoParam ((H9 A (w4 Z c.env)).any (·.1)=U') t8):
  PX c Uf (.Call (.Name o p) (e::Z) [] A) (Vf T (lG c.K f') [] g8 N) (rR o f' Y):=⟨Xu M G hr hg hm r .nil hx ha.p hdb he hpl,by
 intro O D as σ H ds pv Q S k q;obtain⟨l,x,k⟩:=t4 k;obtain⟨r0,h2,k⟩:=t4 k;obtain⟨X,h3,k⟩:=t4 k;cases k;obtain⟨w,dr,rfl⟩:=MO h3;refine ha.t O D as σ H ds l _ S x λvs g K r1=>λf j hz hdx hne=>?_
 have S1:=S.grow K;have nas:∀b,U b∈as->∃u,g b=U u:=λb r=>let ⟨_,u,y⟩:=S1.new b r;⟨_,y⟩
 generalize hT:as.filterMap id=RT;have n:∀b,b∈RT↔U b∈as:=λb=>by rw[<-hT,zl];simp
 have I:v8 g (upd g j (.own f)):=v8.new hdx;have B:upd g j (.own f) f=J:=by rw[J6 (λy=>hne y.symm)];exact hz
 have sz:v8 (upd g j (.own f)) (upd (upd g j (.own f)) f (.ins T j [])):=v8.new B;have nz:∀b u,g b=U u->b≠f:=λb u h y=>by rw[y,hz]at h;exact nE h
 refine⟨O++RT,upd g j (.own f),[U f],_,_,_,?_,h2,λas' Hm H' v S' s' r'=>?_⟩
 . have hl:=r1.length;refine⟨by simp[hl],sz,λa h=>?_,λa h=>?_,λm=>if m=0 then[f]else[],λm b h=>?_,λm k' b h L=>?_,λm pv h=>?_⟩
   . have:a=f:=by simpa using h
     subst this;exact⟨B,Cl.i T j [],O4⟩
   . rcases List.mem_append.mp h with h|h
     obtain⟨u,y⟩:=S1.fx a h;exact⟨u,I _ _ (S1.same _ _ y)⟩;obtain⟨u,y⟩:=nas a ((n a).mp h);exact⟨u,I _ _ y⟩
   dsimp only at h;split at h;rw[mem_singleton.mp h];exact C9;simp at h;dsimp only at h L;split at h;split at L;rename_i s F;rw[s,F];simp at L;simp at h
   . cases m with
     |zero =>
      have L:PV.ob J (OD.ins o [])=pv:=by simpa using h
      rw[<-L];exact⟨f,[f],rfl,.inl rfl,λb r=>r,T,j,[],[],rfl,C.ns,O4,.nil⟩
     |succ m =>
      simp only[C6,sq,fz,O1,Gf,Function.comp,OT]at h;obtain⟨d,h3,rfl⟩:=h;obtain⟨v,y1,V⟩:=r1.get h3;refine⟨v,by simp[y1],V.same (fM λb i s F E=>⟨λy=>?_,λy=>?_,sz _ _ (I _ _ E)⟩)⟩
      . rcases List.mem_append.mp y with y|y
        exact s y;exact F ((n b).mp y)
      . have:b=f:=by simpa using y
        exact nz b i E this
 . obtain⟨v',R,y1,_,V,y3⟩:=S'.slot 0 (.ob w X) rfl;have t:f=v':=by simpa using y1
   subst t;have ev:v=.non:=by cases r';rfl
   refine⟨ev,q _ H' (K.trans ((I.trans S'.same).trans s')) ⟨f,R,rfl,.inl rfl,λb r=>?_,y3.same (fM λb i s F E=>⟨λy=>s (U7 _ y),λy=>?_,s' _ _ E⟩) λb _ i y=>s' _ _ y⟩⟩;have:=(S'.new b (V b r)).1;exact K.free (I.free this)
   . rcases List.mem_append.mp y with y|y
     obtain⟨b',q1,q2⟩:=mem_map.mp y;cases q2;exact F (V b q1)
     . exact s (L9 _ ((n b).mpr y))⟩
end
def RC{f:Str}(a:c.K=g)(T:eh g a7 z)(n:aI g z f)(h:PX c I e G r)(b:autoParam (aU e f c.env (eval e c.env)=eval e c.env) t8):PX c I (.Attribute e f p) (rB g G f) (G7 a7 f r):=by subst a;exact WU T n h b
def Rx{f:Str}(a:c.K=g)(T:eh g a7 z)(n:aI g z f)(h:PE c e (Q7 m))(b:autoParam (aU e f c.env (eval e c.env)=eval e c.env) t8):PX c I (.Attribute e f p) (rB g (Q7 m) f) (O0 a7 m f):=by subst a;exact WO T n h b
def WN{f:Str}(X:c.K=g)(T:eh g a7 z)(n:aI g z f)(h:PE c e (Q7 m))(d:PX c I E G r)(a:autoParam (aU e f c.env (eval e c.env)=eval e c.env) t8)(hs:autoParam (qN E) vH):PX c I (.Subscript (.Attribute e f A) E p) (sD (Hw g) (rB g (Q7 m) f) G) (iJ a7 m f r):=by subst X;exact ZX T n h d a hs
def wD {k:Str} {pl:Sem Bool} (j:c.K=g) (t:eh g a7 z) (h:PX c I E G r) (i:Meth g z k T) (o:bz c.prog c.w g c.mg c.base i9 m T d8 P (G4 g i7)) (n:O9 m c.A) (C:Binds g d8 P []) (d:Passes i9 c g8) (l:et c I (e::Z) N Y) (b:autoParam (w4 (e::Z) c.env=(U',eval e c.env)::w4 Z c.env) t8) (a:autoParam ((H9 p (w4 Z c.env)).any (·.1)=U') t8) (X:autoParam (eval (.Call (.Attribute E k A) (e::Z) [] p) c.env=(do
   let ov <- eval E c.env
   dS A.atName
   let (f,first) <- holding [ov] (jQ ov k pl)
   callWith p f first (H9 p (w4 (e::Z) c.env)) (cq p (eJ [] c.env)))) t8) :
  PX c I (.Call (.Attribute E k A) (e::Z) [] p) (ni z k (G4 g i7) [] g8 G N) (S3 a7 k i7 r Y):=by subst j;exact WQ t h i o n C d l b a X
def LI {k:Str} {pl:Sem Bool} (o:c.K=g) (E:eh g a7 z) (X:PX c I e G r) (d:Meth g z k T) (C:bz c.prog c.w g c.mg c.base i9 m T d8 P (G4 g i7)) (h:O9 m c.A) (i:Binds g d8 P []) (b:Passes i9 c g8) (a:autoParam (eval (.Call (.Attribute e k A) [] [] p) c.env=(do
   let ov <- eval e c.env
   dS A.atName
   let (f,first) <- holding [ov] (jQ ov k pl)
   callWith p f first (H9 p (w4 [] c.env)) (cq p (eJ [] c.env)))) t8) :
  PX c I (.Call (.Attribute e k A) [] [] p) (ni z k (G4 g i7) [] g8 G nY) (S3 a7 k i7 r u5):=by subst o;exact Ry E X d C h i b a
def JI(Fc:DB)(G:DO):Ds->Nat:=λds=>open Classical in if h:∃m,∃o,O3 Fc G m ds=U o then h.choose else 0
set_option tactic.hygienic true in
def Gy:∀{m:Nat} {ds:Ds} {o:Out},O3 a9 b4 m ds=U o->O3 a9 b4 (m+1) ds=U o:=by
 intro l_;induction l_ with
 |zero =>
  intro ds o h;exact nE h
 |succ m ih_ =>
  intro ds o h;rw[O3]at h ⊢;obtain⟨b,c,h⟩:=t4 h;rw[c];cases b with
  |false=>exact h
  |true =>
   obtain⟨r,d,h⟩:=t4 h;rw[d];cases r with
   |next a=>exact ih_ h
   |cont a=>exact ih_ h
   |brk a=>exact h
   |ret pv=>exact h
   |up x=>exact h
   |retO pv a=>exact h
def AK{o:Out}(h:O3 a9 b4 m L=U o)(n:Nat):O3 a9 b4 (m+n) L=U o:=by
 induction n with
 |zero=>exact h
 |succ n a=>exact Gy a
def Kc{o:Out}(h:O3 a9 b4 m L=U o):lN (JI a9 b4) a9 b4 L=U o:=by have a:∃m,∃o,O3 a9 b4 m L=U o:=⟨m,o,h⟩;delta lN JI;rw[dif_pos a];obtain⟨d,c⟩:=a.choose_spec;rw[c];have b:=AK h a.choose;rw[qU]at b;rw[(AK c m)]at b;exact b
def mul_list{u:Tok}(j:y.heap.IsList z h8.toArray)(g : -(2 ^ 63:Int)<=a2)(n:a2<2 ^ 63)(hsz:h8.length*a2.toNat<=100000)(h:Q (.ref (hz y)) {y with heap:=y.heap.push {cls:=yF "list",data:=Data.seq (C2 a2.toNat h8).flatten.toArray}}):wpAny (model b5 i8) D (aK .Mult (.ref z) (.int a2 u)) Q b9 y:=by
 obtain⟨⟨e,d,b,f⟩,a,c,k,i⟩:=id j;subst c i;have:h8.toArray.size*a2.toNat<=100000:=by omega
 refine wpAny_binaryOp_repeat_ref f5 ⟨_,a,rfl⟩ (λm=>typeIs_int m a2 u) noFill_list_mul F.fills_int_mul F.slot_int_rmul repeat_list F.slot_int_index.lookup
  (me F.slot_int_rmul (typeIs_int y a2 u) F.entry_int_rmul (F.args_int_rmul_2 _ _) (lm_int_rmul_list_any a2 u z h8.toArray k d f)
   ⟨a,rfl,⟨_,a,rfl⟩,me F.slot_list_mul ⟨_,a,rfl⟩ F.entry_list_mul (F.args_list_mul_2 _ _)
    (lm_list_mul_any z h8.toArray k d f a2 u (by simp[Builtin.List.listFitsIndex];exact⟨v5,v5⟩) u3 (by simp[Gm,F0];exact pJ))
    ⟨a,?_⟩⟩)
 rw[listMul_foldl_if];exact h
def Je(K:y7):R2:=λx y H Q=>∃a xs j,x=.ref a/\y=.int j/\N5 K H a xs/\(-(2 ^ 62)<j/\j<2 ^ 62)/\xs.length*j.toNat<=100000/\∀p,H p=J->Q (.ref p) (upd H p (.lst (C2 j.toNat xs).flatten))
def QC(h:Vals M h8):∀n,Vals (C2 n M).flatten (C2 n h8).flatten:=by
 intro l_;induction l_ with
 |zero =>
  exact .nil
 |succ n ih_ =>
  exact h.append (ih_)
def XA:V3 c (aK .Mult) (Je c.K):=by
 intro b s k H x y v u Q I g f h;obtain⟨a,n,j,rfl,rfl,i,l,X,q⟩:=h;cases g;obtain⟨t,rfl⟩:=f;obtain⟨d,r,e,m⟩:=I.list i;refine mul_list e.isList u3 u3 (by rw[<-r.length];exact X) ?_;refine⟨.ref _,_,I.a0Y (QC r _) ?_,rfl,q _ I.fresh⟩;rw[List.length_flatten,OW,List.sum_replicate_nat,uu];exact C3 X (pF f5)
noncomputable def fw:f7->f7->Option PV
 | .list l,.int j=>if (0<=j/\j.toNat<=100000)/\l.length*j.toNat<=100000 then U (.own (C2 j.toNat l).flatten)else J
 |_,_=>J
def Yp(h:C7 g H M S):∀n,C7 g H (C2 n M).flatten (C2 n S).flatten:=by
 intro l_;induction l_ with
 |zero =>
  exact .nil
 |succ n ih_ =>
  exact h.append (ih_)
set_option tactic.hygienic true in
def YL:dB g (Je g) fw:=by
 intro O o H x y d e pv Q D k i c q;cases k with
 |lst h f =>
  cases i with
  |int j =>
   rename_i a n l;have b:(if (0<=j/\j.toNat<=100000)/\l.length*j.toNat<=100000 then U (PV.own (C2 j.toNat l).flatten)else J)=U pv:=c;obtain⟨m,b⟩:=J9 b;cases b;exact⟨a,n,j,rfl,rfl,B5.seq h,by omega,by rw[f.length];exact m.2,λp K=>q _ _ (v8.new K) (jr K (Yp f _))⟩
  |_=>exact nE c
 |_=>exact nE c
def Rq(K:y7):R2:=λx y H Q=>(mX λi j=>.bl (decide (i<j))) x y H Q\/ZM K x y H Q
def a0F(a:c.A.units+64<S7):V3 c (X5 .Lt) (Rq c.K):=Jv.or (a0G u3)
noncomputable def Aa(a b:f7):Option PV:=
 match a with
 | .int i=>match b with
  | .int j=>U (.dat (.bool (decide (i<j))))
  |_=>J
 | .tuple l=>match b with
  | .tuple m=>(intsOf l).bind λx=>(intsOf m).map λy=>.dat (.bool (HT.lexLt x y))
  |_=>J
 |_=>J
def a2k:dB g (Rq g) Aa:=by
 intro O p H x y d e pv Q D h i a q;cases h with
 |int=>cases i with
  |int=>cases a;exact .inl ⟨_,_,rfl,rfl,q _ H (v8.refl H) (Dt.bl _)⟩
  |_=>cases a
 |tup k n=>cases i with
  |tup b K =>
   have⟨_,u,a⟩:=Option.bind_eq_some_iff.1 a;have⟨_,v,a⟩:=Option.map_eq_some_iff.1 a;cases a;cases n.ints u;cases K.ints v;exact .inr ⟨_,_,_,_,rfl,rfl,B5.fj k,B5.fj b,q _ H (v8.refl H) (Dt.bl _)⟩
  |_=>cases a
 |_=>cases a
def kz(l:List d3):List (Str×d3):=l.map λx=>(md,x)
def a2O(l:List d3):(kz l).map (·.2)=l:=by delta kz;rw[fz];exact List.map_id l
def TAF(K:y7)(t:TA)(F:Ds->Option (List PF)):Prop:=
 ∀(O:List Addr) (E1:Hp) (as:As) (σ:St) (H:Hp) (ds:Ds) (fs:List PF) (Q:List V->Hp->Prop),DS K O E1 as σ H ds->F ds=U fs->(∀vs H' R,v8 H H'->(∀b∈R,H b=J)->R1 K (B7 H' (R.map U++as) O) H' (kz vs) (kz fs) R->Q vs H')->t σ H Q
structure PAF(X:Cx)(es:List Expr)(t:TA)(F:Ds->Option (List PF)):Prop where
 p:PA X es t
 t:TAF X.K t F
def R1.pos(t:R1 g q H j9 i4 O):∀{k:Nat},i4[k]? = U (o,.own S) ->
  ∃a xs,j9[k]? = U (o,.ref a)/\H a=U (.lst xs)/\a∈O/\∀{Hv' H':Hp} {m:List f7} {ys:List V},v8 q Hv'->(∀b∈O,b≠a->∀R,H b=U R->H' b=U R)->H' a=U (.lst ys)->C7 g Hv' ys m->R1 g Hv' H' j9 (i4.set k (o,.own m)) O:=by
 induction t with
 |nil=>intro k h;simp at h
 | @dat y x d j9 i4 O F t C =>
  intro k h;cases k with
  |zero=>simp at h
  |succ k =>
   obtain⟨a,xs,u,s,f,r⟩:=C (by simpa using h);exact⟨a,xs,by simpa using u,s,f,λe c j K=>.dat (F.same e) (r e c j K)⟩
 | @own y w B E j9 i4 O v A i t C =>
  intro k h;cases k with
  |zero =>
   have G:(y,PF.own E)=(o,PF.own S):=by simpa using h
   cases G;exact⟨w,B,rfl,v,C9,λe c j K=>.own j K i (t.same e λb p=>c b (C4 _ p) λz=>i (z▸p))⟩
  |succ k =>
   obtain⟨a,xs,u,s,f,r⟩:=C (by simpa using h);exact⟨a,xs,by simpa using u,s,C4 _ f,λe c j K=>.own (c w C9 (λz=>i (z▸f)) _ v) (A.same e) i (r e (λb p=>c b (C4 _ p)) j K)⟩
 | @dct y w D I j9 i4 O v A i t C =>
  intro k h;cases k with
  |zero=>simp at h
  |succ k =>
   obtain⟨a,xs,u,s,f,r⟩:=C (by simpa using h);exact⟨a,xs,by simpa using u,s,C4 _ f,λe c j K=>.dct (c w C9 (λz=>i (z▸f)) _ v) (A.same e) i (r e (λb p=>c b (C4 _ p)) j K)⟩
section
variable{j}
end
def R1.snoc(h:uT g q H a8 l5 O)(t:R1 g q H j9 i4 j8)(d:∀b∈O,b∉j8):∃R',R1 g q H (j9++[(o,a8)]) (i4++[(o,l5)]) R'/\∀b,b∈R'↔b∈O\/b∈j8:=by
 induction t with
 |nil=>exact⟨O++[],R1.cons h (λb _=>by simp) .nil,λb=>by simp⟩
 |dat j t f =>
  obtain⟨R',e,c⟩:=f d;exact⟨R',.dat j e,c⟩
 | @own n a s l j9 i4 j8 i k m t f =>
  obtain⟨R',e,c⟩:=f λb K z=>d b K (C4 _ z);refine⟨a::R',.own i k (λz=>?_) e,λb=>?_⟩
  . rcases(c a).mp z with z|z
    exact d a z C9;exact m z
  rw[T4,T4,c];constructor;rintro(z|z|z);exact .inr (.inl z);exact .inl z;exact .inr (.inr z);rintro(z|z|z);exact .inr (.inl z);exact .inl z;exact .inr (.inr z)
 | @dct n a r u j9 i4 j8 i k m t f =>
  obtain⟨R',e,c⟩:=f λb K z=>d b K (C4 _ z);refine⟨a::R',.dct i k (λz=>?_) e,λb=>?_⟩
  . rcases(c a).mp z with z|z
    exact d a z C9;exact m z
  rw[T4,T4,c];constructor;rintro(z|z|z);exact .inr (.inl z);exact .inl z;exact .inr (.inr z);rintro(z|z|z);exact .inr (.inl z);exact .inl z;exact .inr (.inr z)
noncomputable def yr(gt:f7->Option (List f7))(Fe:DV)(ds:Ds):List f7->Option (List PF)
 | []=>U []
 |x::r=>(gt x).bind λbs=>(Fe (Q3 bs++ds)).bind λy=>(ig y).bind λp=>(yr gt Fe ds r).bind λl=>U (p::l)
noncomputable def lQ(Fi:DL)(gt:f7->Option (List f7))(Fe:DV):DV:=λds=>(Fi ds).bind λitems=>if items.length<=1000000 then(yr gt Fe ds items).bind λl=>U (.ob J (.seq Uf (kz l)))else J
def Ij(h:∀b,U b∈u↔U b∈j5):B7 H u O=B7 H j5 O:=by
 funext b
 delta B7
 simp_all
def RD{pos:Pos}(hc:c.calm=Uf)(B:kq c P d9 e8)(hi:gD c Uf E b7 j7 Y)(go:kb P.length j1)(hg:∀cl C fp s H pins,PG (Y2 c P d9 e8 cl C fp s H pins) E j1)(V:sO c.K P.length j1 l9)(he:∀cl C fp s H pins,PX (Y2 c P d9 e8 cl C fp s H pins) Uf e c6 r)(hs:autoParam (∀x,eM b7 c.env x=pure x) X0):PX c Uf (.ListComp e [⟨E,b7,[],0⟩] e8 pos) (hZ P j7 j1 xt c6) (lQ Y l9 r):=⟨HE hc B hi.p go hg (λ_ _ _ _ _ _=>wH) (λ_ _ _ _ _ _=>(he _ _ _ _ _ _).p) hs,by
 intro O k j σ H ds pv Q S v q;obtain⟨a,h1,v⟩:=t4 v;obtain⟨hn,v⟩:=J9 v;obtain⟨l,h2,v⟩:=t4 v;cases v;refine hi.t O k j σ H ds a _ S h1 λJff H1 G it=>?_;have S1:=S.grow G;refine⟨a.length,λi ys g=>i<=a.length/\v8 H1 g/\∃R T l2,R1 c.K (B7 g (R.map U++j) O) g (kz ys) (kz T) R/\(∀b∈R,H1 b=J)/\yr l9 r ds (a.drop i)=U l2/\T++l2=l,pF hn,⟨eX _,v8.refl _,[],[],l,.nil,λb X=>absurd X B9,h2,rfl⟩,?_⟩
 rintro i ys g ⟨hi',w,R,T,l2,d1,N,f,t⟩;have Z:∀b∈R,∃u:Cl,g b=U u.1:=λb X=>by
  obtain⟨u,z|z,y⟩:=d1.at b X;exact⟨⟨u,.inl z⟩,y⟩;exact⟨⟨u,.inr (.inl z)⟩,y⟩
 obtain⟨S2,_⟩:=S1.adopt w 0 N Z;obtain⟨go',st',yl'⟩:=it g (B5.trans w) i;by_cases h:i<a.length
 . refine .inr ⟨go' h,h,λx n y=>?_⟩
   obtain⟨A,d,ed,dt⟩:=yl' x n y h;have dx:=dt (R.map U++j) (λb X=>⟨by
     rcases List.mem_append.mp X with z|z
     . obtain⟨b',z1,I⟩:=mem_map.mp z;cases I;delta B7;rw[N b z1];split<;>rfl
     . delta B7;rw[t2 (.inr z)],let ⟨_,z⟩:=(S2.new b X).2;⟨_,z⟩⟩) λb X=>by
    obtain⟨o,z⟩:=S.fx b X;refine⟨o,F4.mpr ⟨by simp,λI=>?_,S1.same _ _ z⟩⟩;rw[(S.new b I).1]at z;exact nE z
   have ed':a.drop i=d::a.drop (i+1):=by
    rw[rq h];have:a[i]=d:=by have z:=K7 h;rw[ed]at z;exact(X8 z).symm
    rw[this]
   rw[ed']at f;obtain⟨F,h3,f⟩:=t4 f;obtain⟨yv,h5,f⟩:=t4 f;obtain⟨p,h7,f⟩:=t4 f;obtain⟨l3,h6,f⟩:=t4 f;cases f;refine V O (R.map U++j) n x d σ F _ dx h3 λvs dv lv=>?_;have S4:=(S2.grow A).pre dv;refine((he [] 0 [] c.W6 c.E1 []).t) O k _ _ n _ yv _ S4 h5 λu M e6 r6=>?_
   obtain⟨Rf,k1,k2,k3⟩:=Ib (S4.dm) r6 (.inl h7);have hh:∀W,B7 W (Rf.map U++(C2 F.length J++(R.map U++j))) O=B7 W (Rf.map U++(R.map U++j)) O:=λW=>Ij λb=>by
    simp only[jU];constructor;rintro(z|z|z);exact .inl z;exact absurd z nJ;exact .inr z;rintro(z|z);exact .inl z;exact .inr (.inr z)
   have k3':uT c.K (B7 M (Rf.map U++(R.map U++j)) O) M u p Rf:=by rw[<-hh];exact k3
   have dj:∀b∈Rf,b∉R:=λb X z=>by obtain⟨o,y⟩:=Z b z;have:=A _ _ y;rw[k1 b X]at this;exact nE this
   obtain⟨R',f1,f2⟩:=R1.snoc k3' (d1.same (lL (A.trans e6) λb X=>A.free (k1 b X)) λb X o z=>e6 _ _ (A _ _ z)) dj;refine⟨h,(w.trans A).trans e6,R',T++[p],l3,?_,λb X=>?_,h6,by rw[<-t];simp⟩
   . have:B7 M (Rf.map U++(R.map U++j)) O=B7 M (R'.map U++j) O:=Ij λb=>by
       have m:∀(L:List Addr),U b∈L.map U↔b∈L:=λL=>by simp
       simp only[jU,m,f2];constructor;rintro(z|z|z);exact .inl (.inl z);exact .inl (.inr z);exact .inr z;rintro((z|z)|z);exact .inl z;exact .inr (.inl z);exact .inr (.inr z)
     rw[<-this];unfold kz at f1 ⊢;rw[cy,cy];exact f1
   . rcases(f2 b).mp X with z|z
     exact w.free (A.free (k1 b z));exact N b z
 . have hi2:i=a.length:=by lia
   subst hi2;rw[FC]at f;cases f;rw[bw]at t;subst t;refine .inl ⟨st' F3,λp D=>?_⟩;refine q _ _ ((G.trans w).trans (v8.new D)) ⟨p,p::R,rfl,.inl rfl,λb X=>?_,kz ys,R,rfl,λz=>?_,by rw[a2O];exact O4,d1.same (fM λb o z1 I z3=>⟨z1,λz=>?_,v8.new D _ _ z3⟩) λb _ o z=>v8.new D _ _ z⟩
   . rcases List.mem_cons.mp X with rfl|X
     exact G.free (w.free D);exact G.free (N b X)
   obtain⟨u,y⟩:=Z p z;rw[D]at y;exact nE y
   . rcases List.mem_cons.mp z with z|z
     cases z;rw[D]at z3;exact nE z3
     . exact I z⟩
def DS.wr(l:DS g O q j5 B H L)(hd:L[m]? = U (U (.ob k7 (.seq Uf i4))))(M:i4[d5]? = U (o,.own S)):
  ∃v vs a xs,B[m]? = U (U (.ref v))/\H v=U (.lst vs)/\vs[d5]? = U (.ref a)/\vs.length=i4.length/\H a=U (.lst xs)/\C7 g (B7 H j5 O) xs S/\∀{A:Hp} {ys:List V} {w:List f7},v8 H A->C7 g (B7 A j5 O) ys w->DS g O q j5 B (upd A a (.lst ys)) (L.set m (U (.ob k7 (.seq Uf (i4.set d5 (o,.own w)))))):=by
 have c:∀{d:List (Str×V)} {a:Addr},d[d5]? = U (o,.ref a)->(d.map (·.2))[d5]? = U (.ref a):=λ{d a} z=>by rw[O1,z];rfl
 have k:∀{G:Hp} {d:List (Str×V)} {i4:List (Str×PF)} {R:List Addr} {d5:Nat} {a:Addr} {xs:List V} {S:List f7},R1 g G H d i4 R->i4[d5]? = U (o,.own S)->d[d5]? = U (o,.ref a)->H a=U (.lst xs)->C7 g G xs S:=by
  intro G d i4 R d5 a xs S h;induction h generalizing d5 with
  |nil=>intro z;simp at z
  |dat hd t j =>
   intro e c f;cases d5 with
   |zero=>simp at e
   |succ d5=>exact j (by simpa using e) (by simpa using c) f
  |own X s x t j =>
   intro e c f;cases d5 with
   |zero =>
    obtain⟨_,rfl⟩:=e;obtain⟨_,rfl⟩:=c;rw[X]at f;cases f;exact s
   |succ d5=>exact j (by simpa using e) (by simpa using c) f
  |dct X s x t j =>
   intro e c f;cases d5 with
   |zero=>simp at e
   |succ d5=>exact j (by simpa using e) (by simpa using c) f
 obtain⟨v,R,N,ew,hR,d,R',rfl,nv,s,x⟩:=l.slot m _ hd;obtain⟨a,xs,I,p2,p3,_⟩:=x.pos M;refine⟨v,d.map (·.2),a,xs,N,s,c I,by rw[E7,x.len],p2,k x M I p2,λ{A ys w} P dy=>?_⟩
 have Y:=l.grow P;obtain⟨rg,r1,r2,Q⟩:=Y.iU;obtain⟨v',R2,D,E,y,i,r,rfl,K,p,F⟩:=Q m _ hd;rw[N]at D;cases D;have T:=P _ _ s;rw[p]at T;obtain⟨C,xs',q1,q2,Z,q4⟩:=F.pos M;have ea:C=a:=by have z:=c q1;rw[HO.lst.inj (X8 T),c I]at z;cases z;rfl
 subst ea;have ne:v≠C:=λz=>K (z▸Z);exact Y.BM (u:=Cl.l ys) hd r1 r2 Q (y C (C4 _ Z)) λsm=>⟨v,v::r,N,E,y,i,r,rfl,K,by rw[J6 ne];exact p,q4 sm (λb _ nb n z=>by rw[J6 nb];exact z) O4 (dy.same sm)⟩
noncomputable def zN(i:Nat)(k:Int)(ds:Ds):Option (Option Addr×List (Str×PF)×Str×Nat×List f7):=match ds[i]? with
 |some (U (.ob w (.seq Uf fs)))=>(jy fs.length k).bind λr=>match fs[r]? with
  |some (n,.own l)=>U (w,fs,n,r,l)
  |_=>J
 |_=>J
set_option tactic.hygienic true in
def SE(h:zN m a2 L=U (k7,i4,o,d5,S)):L[m]? = U (U (.ob k7 (.seq Uf i4)))/\jy i4.length a2=U d5/\i4[d5]? = U (o,.own S):=by
 unfold zN at h;split at h;rename_i f c b;obtain⟨g,d,h⟩:=t4 h;split at h;rename_i e j a;cases h;exact⟨b,d,a⟩;exact nE h;exact nE h
noncomputable def vB(i:Nat)(Fr Fk Fv:DV):DO:=λds=>(Fv ds).bind λpv=>(Fr ds).bind λr=>(Fk ds).bind λk=>match r.d,k.d with
 | .int r,.int k=>(zN i r ds).bind λx=>(jy x.2.2.2.2.length k).bind λj=>U (.next (ds.set i (U (.ob x.1 (.seq Uf (x.2.1.set x.2.2.2.1 (x.2.2.1,.own (x.2.2.2.2.set j pv.d))))))))
 |_,_=>J
section
set_option tactic.hygienic true in
def RM {k:Expr} {tk:TE} {Fk F:DV} (ho:PE c E (Q7 m)) (o:PX c Uf b7 c6 d6) (M:PX c Uf k tk Fk) (L:PX c Uf e G F) (hx:autoParam (qN b7) vH) (ha:autoParam (∀v,assign (.Subscript (.Subscript E b7 c8) k A) c.env v=(do
   let f <- holding [v] (eval (.Subscript E b7 c8) c.env)
   let iv <- holding [v,f] (eval k c.env)
   dS A
   holding [v,f,iv] (setItem f iv v)
   release [v,f,iv] [])) X0)
  (hs:autoParam (uD [.Subscript (.Subscript E b7 c8) k A] e p.line c.env=pure U') t8) (N:autoParam (uC [.Subscript (.Subscript E b7 c8) k A] e c.env=pure J) t8)
  (h1:autoParam ((hE [.Subscript (.Subscript E b7 c8) k A] c.env).map (·.2)=[assign (.Subscript (.Subscript E b7 c8) k A) c.env]) t8) :
  P5 c (.Assign [.Subscript (.Subscript E b7 c8) k A] e p) (iC G (Ke (sD (Hw c.K) (Q7 m) c6) tk BQ)) (vB m d6 Fk F):=⟨xH L.p (CU (Js DK ho o.p hx) M.p set_list ha) hs N h1,by
 intro O X s h H B D q0 S b q;obtain⟨pv,e1,b⟩:=t4 b;obtain⟨rv,Q,b⟩:=t4 b;obtain⟨kv,e3,b⟩:=t4 b;split at b;rename_i rr kk z u;obtain⟨⟨w,fs,n,r',l⟩,Y,b⟩:=t4 b;obtain⟨j,e5,b⟩:=t4 b;cases b;obtain⟨hd,i,x⟩:=SE Y;refine L.t O X s h H B pv _ S e1 λv T R r1=>?_;have g:=S.grow R;obtain⟨f,P,a,W,z1,z2,z3,V,z5,I,wr⟩:=g.wr hd x;refine⟨_,z1,?_⟩;refine o.t O X s h T B rv _ g Q λy H2 d r2=>?_;have C:=r2.dt g.dm;rw[z]at C;cases C;refine .inl ⟨f,P,rr,.ref a,rfl,rfl,N5.of (d _ _ z2),by delta aG;rw[V,i];exact z3,?_⟩;refine M.t O X s h H2 B kv _ (g.grow d) e3 λy' H3 t Z=>?_;have r:=Z.dt (g.grow d).dm;rw[u]at r;cases r;refine⟨a,W,kk,j,rfl,rfl,t _ _ (d _ _ z5),by rw[I.length];exact e5,q s h _ ?_⟩;exact wr (d.trans t) ((I.same (T8 (d.trans t))).set j ((r1.grow (d.trans t)).dt S.dm))
 . exact nE b⟩
end
def vP(k:ReadsAll a6 h8 S O)(e:S[m]? = U e9):∃v bs,h8[m]? = U v/\Reads a6 v e9 bs:=by
 induction S generalizing h8 O m with
 |nil=>exact nE e
 |cons _ _ i=>cases k with
  |cons r t=>cases m with
   |zero=>cases e;exact⟨_,_,rfl,r⟩
   |succ m=>exact(i t e :)
def Hx(K:y7):V->List V->Hp->VK->Prop:=λx vs H Q=>∃(p:Addr) (xs:List V) (l:List f7) (y:V) (d:f7) (j:Nat),x=.ref p/\vs=[y]/\N5 K H p xs/\C7 K H xs l/\Dt K H y d/\gu l=Uf/\d.canLay0=Uf/\d.depth<=10/\l.length<=1000000/\(l.findIdx? λe=>V8 e d)=U j/\Q (.int j) H
def yw(h:gu S=Uf):∀{m:Nat} {e:f7},S[m]? = U e->e.canLay0=Uf:=by
 induction S with
 |nil=>intro m e z;simp at z
 |cons x S a =>
  rw[gu,rf]at h;intro m e z;cases m with
  |zero=>simp at z;rw[<-z];exact h.1
  |succ m=>exact a h.2 (by simpa using z)
def MM(hu:c.A.units+64<S7):VU c "list.index" (Hx c.K):=by
 intro L s σ H x vs v us Q I rx rv h;obtain⟨p,xs,l,y,d,j,rfl,rfl,hq,D,hy,z,C,c3,hz,R,q⟩:=h;cases rx;obtain⟨u,rfl,ru⟩:=vals1 rv;obtain⟨b,N,S,_⟩:=I.list hq;obtain⟨as,M⟩:=I.readsAll D N z;obtain⟨bs,rb⟩:=I.reads hy ru C;obtain⟨⟨cls,P,G,sl⟩,O,V,n,hd⟩:=id S.isList;subst V hd;have g:b.length=l.length:=by rw[<-N.length,D.length]
 obtain⟨W,h2,h3⟩:=List.findIdx?_eq_some_iff_getElem.mp R
 classical
 let e:=λv=>decide (∃a o,Reads s.heap v a o/\a.canLay0=Uf/\V8 a d=Uf)
 have w:∀(m:Nat) f,e b[m]=V8 (l[m]'u3) d:=λm f=>by
  have X:m<l.length:=by lia
  have B:=K7 X;obtain⟨Y,o,i,k⟩:=vP M B;rw[K7 f]at i;cases i;cases hb:V8 l[m] d with
  |true=>exact iq ⟨_,_,k,(yw z B),hb⟩
  |false =>
   refine Z9 λ⟨a,T,Z,z4,E⟩=>?_;rw[(Z.unique _ _ k).1,hb]at E;exact nT E
 refine me zt ⟨_,O,rfl⟩ Qe (Qh _ _)
  (Qd p b.toArray n P sl u e j (by simpa [g]using W) u3 ?_ ?_) ⟨O,λy' t=>?_,?_⟩
 show e b[j]=Uf;rw[w];exact h2;intro m f r;show e b[m]=U';rw[w m U1];simpa using h3 m r
 . obtain⟨m,f,rfl⟩:=List.getElem_of_mem (by simpa using t)
   have X:m<l.length:=by lia
   obtain⟨Y,o,i,k⟩:=vP M (K7 X);rw[K7 f]at i;cases i;rw[w m f];exact SeqAt.eqAt_reads _ _ _ _ _ _ _ _ k rb (yw z (K7 X)) C (by lia)
 exact⟨.int _,H,I.tok _,⟨_,rfl⟩,q⟩
noncomputable def Ai:f7->FV
 | .list l,[d]=>if gu l=Uf/\d.canLay0=Uf/\d.depth<=10/\l.length<=1000000 then(l.findIdx? λe=>V8 e d).bind λj=>U (.dat (.int (j:Nat)))else J
 |_,_=>J
def Itv(K:y7)(a:Addr)(n:Nat):It:=
 ⟨λi H=>∃xs,N5 K H a xs/\xs.length=n/\i<n,λi H x H'=>H'=H/\∀xs,N5 K H a xs->xs.length=n->xs[n-1-i]? = U x,λi _=>n<=i⟩
def QK(a it:Addr)(n:Nat):Turn b5 i8 g e (Itv g a n) [it] it (λi h=>h.IsRevIter it a (((n-i:Nat):Int)-1)) where
 mem:=F7
 obj:=λi h f b j=>by
  have w:b=it:=by simpa using j
  subst w;obtain⟨o,w,c,d⟩:=f;exact⟨o,w,λv z=>by simp_all⟩
 keep:=λi h r f k=>f.at λo w=>k it F7 o w
 item:=by
  intro X N F L G i P s O H E I q f x;subst N F L;obtain⟨M,hq,hn,hi⟩:=x;obtain⟨its,Z,p,hz⟩:=I.list hq;have Q:M[n-1-i]? = U (M[n-1-i]'u3):=K7 _;obtain⟨u,R,Y⟩:=Z.get Q;obtain⟨C,y,f2,B,A,D⟩:=q it F7;have l:s.heap.IsRevIter it a ((n-1-i:Nat)):=by rw[show((n-1-i:Nat):Int)=((n-i:Nat))-1 by lia];exact f
  refine wpAny_pyNext_rev_item l p.isList (by simpa using R) λr m S=>?_;have V:Inv X P O H {s with heap:=r}:=I.turned (λb o j w=>(S.2 b j).trans w) C y B A D
  have t:r.IsRevIter it a (((n-(i+1):Nat))-1):=by rw[show n-(i+1)=n-1-i by lia];exact m
  obtain⟨o,w,c,d⟩:=id m;exact⟨u,rfl,BU w c d f5 ⟨_,H,V,Y,⟨rfl,λys hy _=>by rw[I.wN hy hq];exact Q⟩,t,λb j=>(q b j).1⟩⟩
 done:=by
  intro X N F L G i P s O H E I q f x;have:n<=i:=x;obtain⟨C,y,f2,B,A,D⟩:=q it F7;have l:s.heap.IsRevIter it a (-1):=by rw[show(-1:Int)=((n-i:Nat))-1 by simp[*]];exact f
  exact wpAny_pyNext_rev_end (I.ok.hd G) l λr T=>⟨rfl,I.turned (λb o j w=>T b o j w) C y B A D⟩
 self:=λ_ _ _ _ _ f h=>Pk f h
def a1o(K:y7)(ta:TA):TI:=λσ H R=>ta σ H λvs H1=>∃a xs,vs=[.ref a]/\N5 K H1 a xs/\R (Itv K a xs.length) H1
def a0o(t:Gl c "reversed")(m:c.mg "reversed" = J)(n:PA c [E] N)(hs:autoParam (w4 [E] c.env=[(U',eval E c.env)]) t8):PI c e (.Call (.Name "reversed" p) [E] [] A) (a1o c.K N):=by
 intro X s u H R I h;refine Call_ (gO I t m PyProof.Rows.boot_reversed (pX (G3 (n A X s u H _ I h) λB f ⟨C,k,d,j,z⟩=>?_) hs rfl))
 obtain⟨b,l,x,hq,q⟩:=z;subst x;cases j with
 |cons r a =>
  cases a;cases r;obtain⟨y,v,w,D⟩:=d.list hq;refine call_reversed_list w.isList (Pk ⟨_,W2 _ rfl,rfl,rfl⟩ ?_);refine⟨f.heap.objs.size,[f.heap.objs.size],_,_,k,rfl,d.kept λb o x=>L6 _ x,QK b _ l.length,⟨_,W2 _ rfl,rfl,?_⟩,λb i=>?_,q⟩;simp[revObj,v.length]
  . have x:b=f.heap.objs.size:=by simpa using i
    subst x;exact d.wU F3 (d.J7.fresh F3)
noncomputable def tA:List f7->Option (List f7)
 | [.list l]=>U l.reverse
 |_=>J
set_option tactic.hygienic true in
def Xr{K':y7}(M:c.K=K')(G:Gl c "reversed")(F:c.mg "reversed" = J)(m:et c I [E] N Y)(hs:autoParam (w4 [E] c.env=[(U',eval E c.env)]) t8):gD c I e (.Call (.Name "reversed" p) [E] [] A) (a1o K' N) (E9 tA Y):=by
 subst M;refine⟨a0o G F m.p hs,?_⟩;intro O f K L H o j R S X q;obtain⟨l,C,X⟩:=t4 X;refine m.t O f K L H o l _ S C λZ D T z=>?_;unfold tA at X;split at X
 . rename_i l';cases X;cases z with
   |cons r V =>
    cases V;cases r with
    |lst g s =>
     rename_i b h;have Q:=s.length;refine⟨b,h,rfl,B5.seq g,q _ D T λt u i=>?_⟩;have a:=u.seq (vz.seq g);rw[FX];refine⟨λk=>⟨h,a,rfl,by simp[*]⟩,λk=>by show h.length<=i;simp[*],λx n y k=>?_⟩;obtain⟨B,y⟩:=y;subst B;obtain⟨d,P,w⟩:=s.get' (y h a rfl);refine⟨v8.refl _,d,?_,λvb v _=>qD w u (v8.refl _) v⟩;rw[List.getElem?_reverse k,<-Q];exact P
 exact nE X
abbrev fV(h:Heap)(z TI TO:Addr)(f0:t5)(f1:Bool):Prop:=
 h.get? z=U {cls:=.type "zip",dict:=J,data:=.fields #[f0,.bool f1,.bool U',.ref TI,.ref TO],slots:=#[]}
section
variable{prog:M3}{w:E3}
def Qz{M:Model}{A:Option Obj->v7->Prop}(h:A (y.heap.get? z) y):wpAny M D (loadIfAlive z) A Q y:=λ_ _ _=>h
def xM{A:Bool->v7->Prop}(hz:fV y.heap z c9 i3 (af T) I)(b:∃o,y.heap.get? T=U o)(d:∀h',fV h' z c9 i3 (af T) Uf->oR z y.heap h'->A U' {y with heap:=h'}):wpAny (model prog w) D (Builtin.SmallTypes.ownedTupleIsFree (.ref z)) A Q y:=by
 obtain⟨o,b⟩:=b;refine u7 (Z8 hz rfl rfl ?_);show wpAny _ _ (loadIfAlive T >>= _) _ _ _
 refine u7 (Qz ?_);rw[b];refine u7 (Z8 hz rfl rfl ?_);cases I with
 |true=>exact A3 (d _ hz (Heap.SameBut.refl ..))
 |false=>exact u7 (pe hz F7 λh' a c=>A3 (d h' a c))
def KC {l:Addr} {k2:Nat} {ys:Array t5} (A:gZ z c9 i3 j2 j3 j4 l) (hz:fV y.heap z c9 i3 (af T) I) (P:∃o,y.heap.get? T=U o) (n:V4 y.heap c9 (.ref j2) (.ref j3)) (M:y.heap.IsListIter j2 j4 d5) (E:y.heap.IsListIter j3 l k2) (p:y.heap.IsList j4 b8) (B:y.heap.IsList l ys) (L:b8[d5]? = U b6) (O:ys[k2]? = U j0) (H:∀h',fV h' z c9 i3 (af T) Uf->h'.IsListIter j2 j4 (d5 + 1)->h'.IsListIter j3 l (k2 + 1)->V4 h' y.heap.objs.size b6 j0->h'.objs.size=y.heap.objs.size + 1 ->
   (∀c o,c≠z->c≠j2->c≠j3->y.heap.get? c=U o->h'.get? c=U o)->Q (.ref y.heap.objs.size) {y with heap:=h'}) :
  wpAny (model prog w) D (Builtin.«zip.__next__» ⟨[.ref z],[]⟩) (λu s'=>∃v,u=.done (.ret v)/\Q v s') b9 y:=by
 show wpAny _ _ (field (.ref z) 2 >>= _) _ _ _;refine u7 (Z8 hz rfl rfl ?_);refine u7 (Z8 hz rfl rfl ?_);refine u7 (fU n rfl ?_);refine u7 (xM hz P λG i a=>?_);refine u7 ?_;refine u7 (u7 (gr ?_));refine u7 (Gg (M.extBut a.extBut A.i1z) (p.extBut a.extBut A.l1z) L λF j b=>A3 ?_);refine A3 ?_;refine u7 (u7 (gr ?_));refine u7 (Gg ((E.extBut a.extBut A.i2z).extBut b.extBut A.i12.symm) ((B.extBut a.extBut A.l2z).extBut b.extBut A.l2i1) O λf h d=>A3 ?_);refine A3 (A3 ?_);show wpAny _ _ (newTuple [b6,j0] >>= _) _ _ _
 refine u7 (Fd (A3 ⟨_,rfl,?_⟩));have g:f.objs.size=y.heap.objs.size:=by rw[d.1,b.1,a.1]
 have N:∀c o,c≠z->c≠j2->c≠j3->y.heap.get? c=U o->f.get? c=U o:=λc o C t q e=>d.extBut _ _ q (b.extBut _ _ t (a.extBut _ _ C e));have k:V4 (f.push {cls:=.type "tuple",data:=.seq #[b6,j0]}) f.objs.size b6 j0:=W2 _ rfl;rw[g]at k;rw[g];exact H _ (L6 _ (d.extBut _ _ A.i2z.symm (b.extBut _ _ A.i1z.symm i))) ((j.extBut d.extBut A.i12).at λo e=>L6 _ e) (h.at λo e=>L6 _ e) k (by rw[iu,g]) λc o C t q e=>L6 _ (N c o C t q e)
def Gw{p:Addr}{E:Fin->v7->Prop}(u:D.handled=J)(A:gZ z c9 i3 j2 j3 j4 p)(hz:fV y.heap z c9 i3 (af T) I)(q:∃o,y.heap.get? T=U o)(f:V4 y.heap c9 (.ref j2) (.ref j3))(r:y.heap.IsListIter j2 j4 m)(h:y.heap.IsList j4 b8)(i:b8[m]? = J)(t:∀h' e,(∀c o,c≠z->c≠j2->y.heap.get? c=U o->h'.get? c=U o)->(∃o,h'.get? e=U o/\o.cls=.type "StopIteration")->Q (.ref e) {y with heap:=h'}):
  wpAny (model prog w) D (Builtin.«zip.__next__» ⟨[.ref z],[]⟩) E Q y:=by
 show wpAny _ _ (field (.ref z) 2 >>= _) _ _ _;refine u7 (Z8 hz rfl rfl ?_);refine u7 (Z8 hz rfl rfl ?_);refine u7 (fU f rfl ?_);refine u7 (xM hz q λk g a=>?_);refine u7 ?_;refine u7 (u7 (gr ?_));refine u7 (PB u (r.extBut a.extBut A.i1z) (h.extBut a.extBut A.l1z) i λd e b v=>?_);exact t d e (λc o s n x=>b _ _ n (a.extBut _ _ s x)) v
def JG {s:v7} {b:Addr} {ys:Array t5} {x y:t5} (A:gZ z c9 i3 j2 j3 j4 b) (hz:fV s.heap z c9 i3 (af T) I) (v:∃o,s.heap.get? T=U o) (e:V4 s.heap c9 (.ref j2) (.ref j3)) (n:s.heap.IsListIter j2 j4 m) (j:s.heap.IsListIter j3 b d5) (f:s.heap.IsList j4 b8) (h:s.heap.IsList b ys) (l:b8[m]? = U x) (u:ys[d5]? = U y) (i:∀h',fV h' z c9 i3 (af T) Uf->h'.IsListIter j2 j4 (m + 1)->h'.IsListIter j3 b (d5 + 1)->V4 h' s.heap.objs.size x y->h'.objs.size=s.heap.objs.size + 1 ->
   (∀c o,c≠z->c≠j2->c≠j3->s.heap.get? c=U o->h'.get? c=U o)->l8 (U (.ref s.heap.objs.size)) {s with heap:=h'}):wpAny (model prog w) D (oH (.ref z)) l8 Q s:=by
 have a:s.TypeIs (.ref z) "zip":=⟨_,hz,rfl⟩;exact u7 (qV (nu a mq
  (lq mq a zd
   (KC A hz v e n j f h l u λh' t E q B p r=>A3 (i h' t E q B p r)) (zj _))))
def Dk{n:Addr}(r:D.handled=J)(A:gZ z c9 i3 j2 j3 j4 n)(hz:fV y.heap z c9 i3 (af T) I)(p:∃o,y.heap.get? T=U o)(b:V4 y.heap c9 (.ref j2) (.ref j3))(q:y.heap.IsListIter j2 j4 m)(d:y.heap.IsList j4 b8)(E:b8[m]? = J)(j:∀h',(∀c o,c≠z->c≠j2->y.heap.get? c=U o->h'.get? c=U o)->l8 J {y with heap:=h'}):wpAny (model prog w) D (oH (.ref z)) l8 Q y:=by
 have a:y.TypeIs (.ref z) "zip":=⟨_,hz,rfl⟩;refine u7 (qV (nu a mq
  (lq mq a zd (Gw r A hz p b q d E λh' e i t=>?_) (zj _))))
 obtain⟨o,k,h⟩:=t;refine u7 (FF ⟨o,k,h⟩ EZ ?_);exact A3 (j _ i)
end
def wx:um (.type "zip") "__getattr__" = pure J:=by rw[typeLookup_type,Px];kernel_rfl
def Qv:um (.type "zip") "keys" = pure J:=by rw[typeLookup_type,Px];kernel_rfl
def Eg:entryFor table "zip.__getattribute__" = U Builtin.«object.__getattribute__»:=
 entryFor_alias (id':="object.__getattribute__") (by kernel_rfl) A9 A9 (by kernel_rfl)
def Ti(z TI TO:Addr)(h:t5)(f:Bool)(name:Str)(u:Tok)(c:um (.type "zip") name=pure J)(a:(["__module__","__name__","__qualname__","__doc__","__annotations__"]:List Str).contains name=U')(hsz:name.length+100<=F0:=by size_fits):
  Meets (Builtin.«object.__getattribute__» ⟨[.ref z,.str name u],[]⟩) (λA R s=>fV s.heap z TI TO h f/\raisesAttr (.ref z) name A R s):=
 Meets.of_wp λe w A R s b=>by
  obtain⟨j,g,d,i,l⟩:=s;obtain⟨k,b⟩:=b;repeat (any_goals (first|assumption|wp_step))
  simp only[a];repeat (any_goals (first|assumption|wp_step))
  exact wpAny_raiseAttrError b.1 b.2 (attrMsg_fits A9 hsz)
section
variable{prog:M3}{w:E3}
def Gv(j:fV y.heap z T c9 b6 I)(l:D.handled=J)(h:∀h' f,(∀b o,y.heap.get? b=U o->h'.get? b=U o)->l8 J {y with heap:=h',toks:=f}):wpAny (model prog w) D (getAttr? (.ref z) "keys") l8 Q y:=by
 obtain⟨n,g,d,f,p⟩:=y;have i:∀c,(⟨n,g,d,c,p⟩:v7).TypeIs (.ref z) "zip":=λ_=>⟨_,j,rfl⟩
 have:=sub_AttributeError;have:=F.slot_zip_getattribute.lookup;have:=F.slot_zip_getattribute.bind (.ref z);have:=wx;repeat (any_goals (first|assumption|exact i _|((with_reducible show wpAny _ _ (call (Value.builtin "zip.__getattribute__") _ _) _ _ _);refine me F.slot_zip_getattribute (i _) Eg (F.args_zip_getattribute_2 _ _) (Ti z T c9 b6 _ "keys" _ Qv A9) ⟨j,l,λh' c e a=>?_⟩)|wp_step))
 obtain⟨q,t,r⟩:=a.there;show wpAny _ _ (getattributeRaised _ _ _ _ _ _ _) _ _ _
 repeat (any_goals (first|assumption|wp_step))
 exact h _ _ a.keeps
end
set_option backward.match.sparseCases true
def kE:plainId "dict.update.loop" = Uf:=by decide +kernel
def kM:entryFor table "dict.update.loop" = U Builtin.«dict.update.loop»:=entryFor_of_fast (by kernel_rfl)
section
variable{prog:M3}{w:E3}{κ:Type}[DecidableEq κ]{knd:HeapKind prog w κ}
def tm{X:List (κ×Addr×t5)}(d:(X.map (·.1)).Nodup){x:κ×Addr×t5}(b:X[m]? = U x):storedH (X.take m) x.1 x.2.1 x.2.2=X.take (m+1):=by
 have e:atKey (X.take m) x.1=J:=atKey_none_of_get λi p a=>by
  rw[List.getElem?_take]at a;obtain⟨f,a⟩:=J9 a;have:=idxH_unique d a b
  simp_all
 rw[storedH_new e];obtain⟨c,rfl⟩:=List.getElem?_eq_some_iff.mp b;rw[List.take_succ,K7 c];rfl
def Cn{A:Z0}{E:t5->v7->Prop}{s:v7}{d T z:Addr}{x:κ×Addr×t5}{a:List (κ×Addr×t5)}{i:Int}{res:t5}{Q:Fin->v7->Prop}(j:knd.room A)(f:V4 s.heap T (.ref x.2.1) x.2.2)(m:knd.is s.heap x.1 x.2.1)(hd:s.heap.DictOfH knd d a)(hsz:a.length<=F0)(g:∀h' h,h'.DictOfH knd d (storedH a x.1 x.2.1 x.2.2)->oR d s.heap h'->Q (.again (.builtin "dict.update.loop" ⟨[.ref d,.ref z,af (i+1),res],[]⟩)) {s with heap:=h',toks:=h}):
  wpAny (model prog w) A (holding [.ref T] (do
   let pair <- (Builtin.Dict.pairItems (.ref T)).tryCatch λe=>do
    if !(<- isInstance e (.type "TypeError"))then throw e
    rule "dict.update.element-no-sequence"
    raiseError "TypeError" s!"cannot convert dictionary update sequence element #{i} to a sequence"
   match pair with
   | [k,v]=>holding [k,v] (dictSet d k v)
   |l =>
    rule "dict.update.element-length"
    raiseError "ValueError" s!"dictionary update sequence element #{i} has length {l.length}; 2 is required") >>= λ_=>again (.builtin "dict.update.loop" ⟨[.ref d,.ref z,af (i+1),res],[]⟩)) Q E s:=by refine u7 (gr (u7 (wpAny_tryCatch ?_)));refine u7 (uw ⟨_,f,rfl⟩ ?_);refine u7 (fU f rfl (A3 ?_));refine gr (wpAny_dictSet_heap j m hd λh' b c=>A3 (g h' _ b c))
structure Zs(knd:HeapKind prog w κ)(h0:Heap)(X:List (κ×Addr×t5))(z TI TO i1 i2 l1 l2 d:Addr):Prop where
 D:gZ z TI TO i1 i2 l1 l2
 dz:d≠z
 Iy:d≠i1
 NO:d≠i2
 dTI:d≠TI
 dTO:d≠TO
 pTI:V4 h0 TI (.ref i1) (.ref i2)
 pl1:h0.IsList l1 (X.map λx=>ba x.2.1).toArray
 pl2:h0.IsList l2 (X.map λx=>x.2.2).toArray
 key:∀x∈X,∃o,h0.get? x.2.1=U o/\∀h:Heap,h.get? x.2.1=U o->knd.is h x.1 x.2.1
 ka:∀x∈X,x.2.1≠z/\x.2.1≠TO/\x.2.1≠i1/\x.2.1≠i2/\x.2.1≠d
 l1d:l1≠d
 l2d:l2≠d
 nd:(X.map (·.1)).Nodup
 sz:X.length<=F0
def Kp(z TO i1 i2 d:Addr)(h h':Heap):Prop:=∀c o,c≠z->c≠TO->c≠i1->c≠i2->c≠d->h.get? c=U o->h'.get? c=U o
def QE{X:List (κ×Addr×t5)}{d:Addr}(hu:knd.room D.in1)(hh:D.in1.handled=J)(Z:Zs knd a6 X z T c9 i3 j2 j3 j4 d):
  ∀(k j:Nat) (s:v7) (i:Int) (A:Addr) (f1:Bool),X.length-j=k->j<=X.length->Kp z c9 i3 j2 d a6 s.heap->fV s.heap z T c9 (af A) f1->(∃o,s.heap.get? A=U o)->A≠z/\A≠i3/\A≠j2/\A≠d->d<(hz s) ->
   s.heap.IsListIter i3 j3 j->s.heap.IsListIter j2 j4 j->s.heap.DictOfH knd d (X.take j) ->
   (∀h' tk,h'.DictOfH knd d X->Kp z c9 i3 j2 d s.heap h'->n9 (.ok (.ret b6)) {s with heap:=h',toks:=tk}) ->
   codeAny (model prog w) D (.builtin "dict.update.loop" ⟨[.ref d,.ref z,af i,b6],[]⟩) n9 s:=by
 have F:∀{h:Heap},Kp z c9 i3 j2 d a6 h->V4 h T (.ref i3) (.ref j2):=λk=>k _ _ Z.D.TIz Z.D.TITO Z.D.TIi1 Z.D.TIi2 Z.dTI.symm Z.pTI;have I:∀{h:Heap},Kp z c9 i3 j2 d a6 h->h.IsList j3 (X.map λx=>ba x.2.1).toArray:=λk=>Z.pl1.at λo e=>k _ _ Z.D.l1z Z.D.l1TO Z.D.l1i1 Z.D.l1i2 Z.l1d e;have kl2:∀{h:Heap},Kp z c9 i3 j2 d a6 h->h.IsList j4 (X.map λx=>x.2.2).toArray:=λk=>Z.pl2.at λo e=>k _ _ Z.D.l2z Z.D.l2TO Z.D.l2i1 Z.D.l2i2 Z.l2d e
 intro k;induction k with
 |zero =>
  intro j s i A f1 hk hj t hz B b N h1 h2 hd hR;have e:j=X.length:=by lia
  subst e;refine Fm kM ?_;refine u7 (Dk hh Z.D hz B (F t) h1 (I t) B9 λh' q=>?_);refine u7 (A3 (A3 (hR h' s.toks ?_ λc o m C l r p e=>q c o m l e)));rw[OI]at hd;obtain⟨o,es,ep,e1,e2,e3,e4,e5,e6⟩:=hd;exact⟨o,es,ep,q _ _ Z.dz Z.Iy e1,e2,e3,e4,λx g=>by obtain⟨o',H,q2⟩:=Z.key x g;obtain⟨n,u,E,L,O⟩:=Z.ka x g;exact q2 _ (q _ _ n E (t _ _ n u E L O H)),e6⟩
 |succ k ih =>
  intro j s i A f1 hk hj t hz B b N h1 h2 hd hR;have f:j<X.length:=by lia
  have g:=K7 f;refine Fm kM ?_;refine u7 (JG Z.D hz B (F t) h1 h2 (I t) (kl2 t) (x:=.ref X[j].2.1) (y:=X[j].2.2) (by simp[f]) (by simp[f]) λh1' z1 b1 b2 p1 mV q=>?_);have K:=rd f;have v:=λc o m C l r p e=>q c o m l r (t c o m C l r p e)
  have hd1:h1'.DictOfH knd d (X.take j):=by
   obtain⟨o,es,ep,e1,e2,e3,e4,e5,e6⟩:=hd;exact⟨o,es,ep,q _ _ Z.dz Z.Iy Z.NO e1,e2,e3,e4,λx g=>by have g:=Pj g;obtain⟨o',H,q2⟩:=Z.key x g;obtain⟨n,u,E,L,O⟩:=Z.ka x g;exact q2 _ (v _ _ n u E L O H),e6⟩
  refine Cn hu p1 ?_ hd1 (by rw[uF];have:=Z.sz;lia) λh2' tk M a=>?_;obtain⟨o',H,q2⟩:=Z.key _ K;obtain⟨n,u,E,L,O⟩:=Z.ka _ K;exact q2 _ (v _ _ n u E L O H);rw[tm Z.nd g]at M;refine⟨EU kE _,ih (j+1) _ (i+1) A Uf u3 f ?_ ?_ ?_ b ?_ ?_ ?_ M λh' tk' n u=>hR h' tk' n ?_⟩;exact λc o m C l r p e=>a.extBut _ _ p (v c o m C l r p e);exact a.extBut _ _ Z.dz.symm z1;obtain⟨o,B⟩:=B;exact⟨o,a.extBut _ _ b.2.2.2 (q _ _ b.1 b.2.1 b.2.2.1 B)⟩;show d<h2'.objs.size;rw[a.1,mV];exact oZ N;exact b1.extBut a.extBut Z.Iy.symm;exact b2.extBut a.extBut Z.NO.symm;exact λc o m C l r p e=>u c o m C l r p (a.extBut _ _ p (q c o m l r e))
def KQ{s:v7}{X:List (κ×Addr×t5)}{d:Addr}(hu:knd.room D.in1)(hh:D.in1.handled=J)(Z:Zs knd a6 X z T c9 i3 j2 j3 j4 d){res:t5}(F:Kp z c9 i3 j2 d a6 s.heap)(hz:IsZip s.heap z T c9 .none)(E:V4 s.heap c9 b6 j0)(L:s.heap.IsListIter i3 j3 0)(h2:s.heap.IsListIter j2 j4 0)(hd:s.heap.DictOfH knd d [])(hR:∀h' tk,h'.DictOfH knd d X->Kp z c9 i3 j2 d s.heap h'->n9 (.ok (.ret res)) {s with heap:=h',toks:=tk}):
  codeAny (model prog w) D (.builtin "dict.update.loop" ⟨[.ref d,.ref z,af 0,res],[]⟩) n9 s:=by
 have B:=F _ _ Z.D.TIz Z.D.TITO Z.D.TIi1 Z.D.TIi2 Z.dTI.symm Z.pTI;have p:=Z.pl1.at λo e=>F _ _ Z.D.l1z Z.D.l1TO Z.D.l1i1 Z.D.l1i2 Z.l1d e;have C:=Z.pl2.at λo e=>F _ _ Z.D.l2z Z.D.l2TO Z.D.l2i1 Z.D.l2i2 Z.l2d e
 have m:d<s.heap.objs.size:=by obtain⟨o,_,_,e,_⟩:=hd;exact G8 e
 refine Fm kM ?_;by_cases hX:X=[];subst hX;refine u7 (wpAny_pyNext_zip_end hh Z.D hz B E L h2 p C (.inl rfl) λh' n=>?_);refine u7 (A3 (A3 (hR h' s.toks ?_ λc o k h i j l e=>n c o k h i j e)));obtain⟨o,M,ep,e1,e2,e3,I,e5,e6⟩:=hd;exact⟨o,M,ep,n _ _ Z.dz Z.dTO Z.Iy Z.NO e1,e2,e3,I,λx q=>by simp at q,e6⟩
 . have g:=List.length_pos_iff.mpr hX;have q:=K7 g;have r:=rd g;refine u7 (wpAny_pyNext_zip_item Z.D hz B E L h2 p C (x:=.ref X[0].2.1) (y:=X[0].2.2) (by simp[g]) (by simp[g]) λG z1 t1 b1 b2 p1 mV n=>?_);have u:=λc o k h i j l e=>n c o k h i j (F c o k h i j l e)
   have hd1:G.DictOfH knd d (X.take 0):=by obtain⟨o,M,ep,e1,e2,e3,I,e5,e6⟩:=hd;exact⟨o,M,ep,n _ _ Z.dz Z.dTO Z.Iy Z.NO e1,e2,e3,I,λx q=>by simp at q,e6⟩
   refine Cn hu p1 ?_ hd1 (eX _) λh2' tk v f=>?_;obtain⟨o',q1,q2⟩:=Z.key _ r;obtain⟨K,H,a3,a4,a5⟩:=Z.ka _ r;exact q2 _ (u _ _ K H a3 a4 a5 q1);rw[tm Z.nd q]at v;have lt:∀{c:Addr} {o:Obj},s.heap.get? c=U o->s.heap.objs.size≠c:=λe=>fS (G8 e);refine⟨EU kE _,QE hu hh Z (X.length-1) 1 _ (0+1) s.heap.objs.size U' rfl g ?_ ?_ ?_ ⟨lt hz,?_,?_,fS m⟩ ?_ ?_ ?_ v λh' N K H=>hR h' N K ?_⟩;exact λc o k h i j l e=>f.extBut _ _ l (u c o k h i j l e);exact f.extBut _ _ Z.dz.symm z1;exact⟨_,f.extBut _ _ (fS m) p1⟩;obtain⟨t,e⟩:=L;exact lt e.1;obtain⟨t,e⟩:=h2;exact lt e.1;show d<h2'.objs.size;rw[f.1,mV];exact oZ m;exact b1.extBut f.extBut Z.Iy.symm;exact b2.extBut f.extBut Z.NO.symm;exact λc o k h i j l e=>H c o k h i j l (f.extBut _ _ l (n c o k h i j e))
def BJ{X:List (κ×Addr×t5)}(O:knd.room D.in1.in1)(n:D.in1.in1.handled=J)(Z:Zs knd y.heap X z T c9 i3 j2 j3 j4 y.heap.objs.size)(hz:IsZip y.heap z T c9 .none)(l:V4 y.heap c9 b6 j0)(L:y.heap.IsListIter i3 j3 0)(C:y.heap.IsListIter j2 j4 0)(h:∀h' p,h'.DictOfH knd y.heap.objs.size X->Kp z c9 i3 j2 y.heap.objs.size y.heap h'->Q (.ref y.heap.objs.size) {y with heap:=h',toks:=p}):
  wpAny (model prog w) D (call (.type "dict") [.ref z]) Q b9 y:=by
 refine callType_codes (Q₁:=λobj i=>obj=.ref y.heap.objs.size/\i={y with heap:=y.heap.push {cls:=.type "dict",data:=.dict #[]}}) F.kt_called_dict (F.kt_typeCall_dict_1 _) F.entry_dict_init (kt_code_dict_new _ ⟨rfl,rfl⟩) ?_;rintro obj i ⟨rfl,rfl⟩;have d:(y.heap.push {cls:=.type "dict",data:=.dict #[]}).DictOfH knd y.heap.objs.size []:=Heap.DictOfH.new y.heap;have f:∀{c:Addr} {o:Obj},y.heap.get? c=U o->(y.heap.push {cls:=.type "dict",data:=.dict #[]}).get? c=U o:=λe=>L6 _ e;refine⟨d.typeIs,F.args_dict_init_2 _ _,?_⟩;refine u7 ?_;refine u7 (wpAny_notOrdered_dict d.typeIs ?_);refine A3 ?_;refine u7 (uw ⟨_,f hz,rfl⟩ ?_);refine u7 (Gv (f hz) n λh' p g=>?_);refine u7 (oK ?_);refine u7 (FE (g _ _ (f hz)) (A3 ?_));refine⟨EU kE _,KQ O n Z (λc o _ _ _ _ _ e=>g _ _ (f e)) (g _ _ (f hz)) (g _ _ (f l)) (L.at λo e=>g _ _ (f e)) (C.at λo e=>g _ _ (f e)) ?_ λk j A t=>⟨rfl,h k j A λc o N v B K u e=>t c o N v B K u (g _ _ (f e))⟩⟩;obtain⟨o,M,P,H,r,R,E,S,G⟩:=d;exact⟨o,M,P,g _ _ H,r,R,E,λx I=>by simp at I,G⟩
set_option backward.match.sparseCases false
end
noncomputable def asK:f7->Option Key
 | .int i=>U (.inl i)
 | .str x=>U (.inr x)
 |_=>J
noncomputable def kO:List f7->Option (List Key)
 | []=>U []
 |d::r=>(asK d).bind λk=>(kO r).bind λks=>U (k::ks)
noncomputable def pR:f7->Option (List Key)
 | .dict [(.list l,.none)]=>kO l
 |_=>J
noncomputable def lU:List f7->Option (List (List Key))
 | []=>U []
 |d::r=>(pR d).bind λk=>(lU r).bind λks=>U (k::ks)
def oC(k:List Key):kO (k.map cj)=U k:=by
 induction k with
 |nil=>rfl
 |cons a k h=>cases a<;>exact D3 (yI · λs=>U (_::s)) h
theorem C7.kO{K:y7}{H:Hp}{l:List f7}:∀{vs:List V} {k:List Key},C7 K H vs l->L2.kO l=U k->vs=k.map kV:=by
 induction l with
 |nil=>intro _ _ h e;cases h;cases e;rfl
 |cons d l i =>
  intro _ _ h e;cases h with
  |cons h t =>
  obtain⟨a,b,e⟩:=t4 e;obtain⟨d,c,e⟩:=t4 e;cases e;rw[i t c];cases h<;>first|(cases b;rfl)|exact nE b
theorem Dt.pR{K:y7}{H:Hp}{v:V}{d:f7}{k:List Key}(h:Dt K H v d)(e:L2.pR d=U k):∃a,v=.ref a/\H a=U (.tup (k.map kV)):=by
 cases h with
 |key h =>
  cases(oC _).symm.trans e;exact⟨_,rfl,h⟩
 |_=>exact nE e
theorem C7.lU{K:y7}{H:Hp}{l:List f7}:∀{vs:List V} {ks:List (List Key)},C7 K H vs l->L2.lU l=U ks->∃as:List Addr,vs=as.map V.ref/\Paired (λa k=>H a=U (.tup (k.map kV))) as ks:=by
 induction l with
 |nil=>intro _ _ h e;cases h;cases e;exact⟨[],rfl,.nil⟩
 |cons d l i =>
  intro _ _ h e;cases h with
  |cons h t =>
  obtain⟨k,b,e⟩:=t4 e;obtain⟨f,d,e⟩:=t4 e;cases e;obtain⟨a,rfl,g⟩:=h.pR b;obtain⟨as,rfl,c⟩:=i t d;exact⟨a::as,rfl,.cons g c⟩
noncomputable def X3(Fl:DL):DV:=λds=>(Fl ds).bind λl=>(kO l).bind λk=>if l.length<=1000000 then U (.dat (N3 k))else J
def WM{x1}(h:et c I Z N Y):PX c I (.Tuple Z x1 p) (QQ N) (X3 Y):=⟨Mh h.p,by
 intro O b n f H s pv Q S a q;obtain⟨l,o,a⟩:=t4 a;obtain⟨k,m,a⟩:=t4 a;obtain⟨j,a⟩:=J9 a;cases a;refine h.t O b n f H s l _ S o λv u e r=>⟨by rw[r.length];exact pF j,λX d=>q _ _ (e.trans (v8.new d)) ?_⟩
 obtain⟨g,i⟩:=(S.grow e).dm.fresh d;rw[r.kO m];exact Dt.key (F4.mpr ⟨g,i,O4⟩)⟩
noncomputable def un:f7->f7
 | .dict [(.list l,.none)]=>.tuple l
 |d=>d
theorem Ay{K:y7}{H:Hp}:∀k:List Key,C7 K H (k.map kV) (k.map cj)
 | []=>.nil
 | .inl i::k=>.cons (.int i) (Ay k)
 | .inr i::k=>.cons (.str i) (Ay k)
theorem Dt.un{K:y7}{H:Hp}{v:V}{d:f7}(h:Dt K H v d):Dt K H v (un d):=by
 cases h with
 |key h=>exact .tup (W4.of h) (Ay _)
 |non=>exact .non
 |bl b=>exact .bl b
 |int i=>exact .int i
 |str x=>exact .str x
 |tup h t=>exact .tup h t
 |lst h t=>exact .lst h t
 |exc c n e a t=>exact .exc c n e a t
 |fn h=>exact .fn h
 |ins e a f t=>exact .ins e a f t
 |dct e a t=>exact .dct e a t
 |dtt e a f t=>exact .dtt e a f t
theorem C7.un{K:y7}{H:Hp}{vs:List V}{l:List f7}(h:C7 K H vs l):C7 K H vs (l.map L2.un):=by
 induction l generalizing vs with
 |nil=>exact h
 |cons _ _ i=>cases h with
  |cons a t=>exact .cons a.un (i t)
def x3(ks:List (List Key))(as:List Addr)(vs:List t5)(g:as.length=ks.length)(h:vs.length=ks.length):
  (ks.zip (as.zip vs)).map (λx=>x.1)=ks/\(ks.zip (as.zip vs)).map (λx=>ba x.2.1)=as.map ba/\(ks.zip (as.zip vs)).map (λx=>x.2.2)=vs/\(ks.zip (as.zip vs)).length=ks.length:=by
 induction ks generalizing as vs with
 |nil=>exact⟨rfl,by cases as<;>trivial,by cases vs<;>trivial,rfl⟩
 |cons k ks i=>cases as with
  |nil=>cases g
  |cons a as=>cases vs with
   |nil=>cases h
   |cons v vs =>
    obtain⟨b,e,d,c⟩:=i as vs (yO g) (yO h);exact⟨D3 (k::·) b,D3 (_::·) e,D3 (v::·) d,D3 (· + 1) c⟩
def YV(vs:List t5)(p:Paired r4 O r9):∀x∈r9.zip (O.zip vs),r4 x.2.1 x.1:=by
 induction p generalizing vs with
 |nil=>intro _ h;cases h
 |cons r t i=>cases vs with
  |nil=>intro _ h;cases h
  |cons v vs =>
   intro x h;rcases List.mem_cons.1 h with rfl|h
   exact r;exact i vs x h
def VX{S:Addr->List Key->Prop}(f:∀a k,r4 a k->S a k)(p:Paired r4 O r9)(v:Vals M h8)(h:M.length=r9.length):
  Paired (λ(p:List Key×V) (q:List Key×Addr×t5)=>p.1=q.1/\S q.2.1 p.1/\RelV p.2 q.2.2) (r9.zip M) (r9.zip (O.zip h8)):=by
 induction p generalizing M h8 with
 |nil=>exact .nil
 |cons r t i=>cases v with
  |nil=>cases h
  |cons a b=>exact .cons ⟨rfl,f _ _ r,a⟩ (i b (yO h))
def KO:∀{as:List Addr} {us:List t5},Vals (as.map V.ref) us->us=as.map ba:=by
 intro l_;induction l_ with
 |nil =>
  intro _ r;cases r;rfl
 |cons a as ih_ =>
  intro _ r;cases r with
  |cons h t=>rw[C6,<-ih_ t];exact D3 (·::_) h
def Jt{b:Type}{R:d3->b->Prop}{l:List d3}{m:List b}(h:Paired R l m):l.length=m.length:=by
 induction h with
 |nil=>rfl
 |cons _ _ i=>exact D3 (· + 1) i
def CK(K:y7):List V->Hp->VK->Prop:=λvs H Q=>∃(p1 p2:Addr) (as:List Addr) (ys:List V) (ks:List (List Key)),vs=[.ref p1,.ref p2]/\N5 K H p1 (as.map V.ref)/\N5 K H p2 ys /\
 Paired (λa k=>H a=U (.tup (k.map kV))) as ks/\ks.Nodup/\ys.length=ks.length/\∀p,H p=J->Q (.ref p) (upd H p (.dT (ks.zip ys)))
def Kq{Q:VK}(hu:c.A.units+2<S7)(hh:c.A.handled=J)(I:Inv c c7 B H y)(rv:Vals M h8)(h:CK c.K M H Q):
  wpAny (model c.prog c.w) c.A (call (.type "zip") h8) (λz s1=>wpAny (model c.prog c.w) c.A (call (.type "dict") [z]) (EP c c7 B Q) c.xe s1) c.xe y:=by
 obtain⟨Y,T,O,ys,C,rfl,hs1,W,hk,hn,R,q⟩:=h;cases rv with
 |cons r1 rr =>
 cases rr with
 |cons r2 rr =>
 cases rr;cases r1;cases r2;obtain⟨its1,ri1,t,z1⟩:=I.list hs1;obtain⟨d,G,m,z2⟩:=I.list W;have e1:=KO ri1;subst e1;have la:=Jt hk;have lv:d.length=C.length:=by rw[<-G.length,R]
 obtain⟨x1,x2,x3',x4⟩:=x3 C O d la lv;have E:∀x∈C.zip (O.zip d),∃o,y.heap.get? x.2.1=U o/\∀h:Heap,h.get? x.2.1=U o->(oJ (aQ c.prog c.w)).is h x.1 x.2.1:=λx s=>by
  have s:=YV d hk x s;obtain⟨_,its,r,o,v,F,n,g3⟩:=(show X4 c.prog c.w H y.heap x.2.1 (.tup (x.1.map kV))from I.J7 _ _ s);exact⟨o,v,λh e=>⟨o,its.toArray,n,e,F,g3,by simpa using Bj r⟩⟩
 have N:Y<y.heap.objs.size:=by obtain⟨o,e,_⟩:=t.isList;exact G8 e
 have w:T<y.heap.objs.size:=by obtain⟨o,e,_⟩:=m.isList;exact G8 e
 have ls:∀{X:Nat} j,X<y.heap.objs.size->X≠y.heap.objs.size+j:=λj h=>by exact R8 (M8 v5 (jW _ _))
 have l:∀{X:Nat},X<y.heap.objs.size->X≠y.heap.objs.size:=λh=>by exact R8 v5
 have g:∀{i j:Nat},i≠j->y.heap.objs.size+i≠y.heap.objs.size+j:=λh=>by simp[*]
 have L:∀{j:Nat},j≠0->y.heap.objs.size≠y.heap.objs.size+j:=λh=>by simp[*]
 refine call_zip_2 t.isList m.isList λσ hz Bl Ik i1 i2 p P=>?_
 have D:gZ (y.heap.objs.size+4) (y.heap.objs.size+2) (y.heap.objs.size+3) y.heap.objs.size (y.heap.objs.size+1) Y T:=
  ⟨g f5,g f5,L f5,g f5,g f5,(L f5).symm,g f5,(L f5).symm,g f5,L f5,ls _ N,ls _ N,l N,ls _ N,ls _ w,ls _ w,l w,ls _ w⟩
 have Z:Zs (oJ (aQ c.prog c.w)) σ (C.zip (O.zip d)) (y.heap.objs.size+4) (y.heap.objs.size+2) (y.heap.objs.size+3) y.heap.objs.size (y.heap.objs.size+1) Y T σ.objs.size:=by
  rw[p];refine⟨D,g f5,(L f5).symm,g f5,g f5,g f5,Bl,?_,?_,λx s=>?_,λx s=>?_,ls _ N,ls _ w,?_,?_⟩;rw[x2];exact t.isList.at λo e=>P _ _ e;rw[x3'];exact m.isList.at λo e=>P _ _ e;obtain⟨o,v,F⟩:=E x s;exact⟨o,P _ _ v,F⟩;obtain⟨o,v,_⟩:=E x s;have:=G8 v;exact⟨ls _ this,ls _ this,l this,ls _ this,ls _ this⟩;rw[x1];exact hn;rw[x4,<-la];simpa using z1
 refine BJ (show c.A.in1.in1.units<S7 from hu) hh Z hz Ik i1 i2 λh' tk hd kp=>?_
 have keep:∀b u,y.heap.get? b=U u->h'.get? b=U u:=λb u e=>by have:=G8 e;exact kp b u (ls _ this) (ls _ this) (l this) (ls _ this) (by show b≠σ.objs.size;rw[p];exact ls _ this) (P _ _ e)
 have hp:y.heap.objs.size<=σ.objs.size:=by rw[p];simp[*]
 have f:=I.J7.fresh hp;refine⟨.ref σ.objs.size,_,I.laid keep hp ?_,rfl,q _ f⟩;obtain⟨o,es,ep,v,F,g3,g4,g5,g6⟩:=hd;refine⟨?_,?_,C.zip (O.zip d),VX (S:=λa k=>upd H σ.objs.size (HO.dT (C.zip ys)) a=U (HO.tup (List.map kV k))) (λa k e=>?_) hk G R,o,es,ep,v,F,g3,g4,g6⟩;rw[List.length_zip,R,Nat.min_self,<-R];exact z2;have:=I.big;exact beq_eq_false_iff_ne.mpr (fS (M8 this hp));rw[J6 (ay e f)];exact e
def Ss{X:Pos}(m:c.A.units+2<S7)(r:c.A.handled=J)(u:Gl c "dict")(y:c.mg "dict" = J)(x:eL "dict" = U (.type "dict"))(g:Gl c "zip")(l:c.mg "zip" = J)(k:eL "zip" = U (.type "zip"))(o:PA c [e,E] N)(v:autoParam (w4 [.Call (.Name "zip" A) [e,E] [] X] c.env=(U',eval (.Call (.Name "zip" A) [e,E] [] X) c.env)::w4 [] c.env) t8)(j:autoParam ((H9 c8 (w4 [] c.env)).any (·.1)=U') t8)(i:autoParam (w4 [e,E] c.env=(U',eval e c.env)::w4 [E] c.env) t8)(d:autoParam ((H9 X (w4 [E] c.env)).any (·.1)=U') t8)(F:autoParam (H9 c8 (w4 [] c.env)=[]) t8):
  PE c (.Call (.Name "dict" p) [.Call (.Name "zip" A) [e,E] [] X] [] c8) (xu (CK c.K) N):=by
 intro a s B H Q I h;refine rm (gO I u y x ?_ f5 f5);refine pX ?_ v j;refine zm (rm (gO I g l k ?_ f5 f5));refine pX (G3 (o X a s B H _ I h) λM G ⟨L,D,C,q,n⟩=>?_) i d;exact G3 (Kq m r C q n) λz b w=>FJ w
def a1b{H2:Hp}{a:Bool}(S:DS g O q u B H L)(e:v8 H i0)(k:v8 i0 H2):∀b o,B7 i0 (aw I u) O b=U o->¬Cell o->B7 H2 (aw a u) O b=U o:=by
 intro b o K l;obtain⟨i,_,f⟩:=F4.mp K;refine F4.mpr ⟨i,λz=>?_,k _ _ f⟩;obtain⟨_,c,h⟩:=S.new b (qr z);have:=e _ _ h;rw[f]at this;have d:=c.2;rw[<-X8 this]at d;exact l d
noncomputable def VF:FV
 | [.list a,.list b]=>(lU a).bind λks=>if ks.Nodup/\b.length=ks.length/\lW b=Uf then U (.dat (wZ ks b))else J
 |_=>J
def yp(Fl:DL):DV:=λds=>(Fl ds).bind VF
set_option tactic.hygienic true in
def RA{K':y7}{X:Pos}(R:c.K=K')(hu:c.A.units+2<S7)(B:c.A.handled=J)(P:Gl c "dict")(L:c.mg "dict" = J)(i:eL "dict" = U (.type "dict"))(m:Gl c "zip")(u:c.mg "zip" = J)(s:eL "zip" = U (.type "zip"))(w:et c U' [e,E] N Y)(t:autoParam (w4 [.Call (.Name "zip" A) [e,E] [] X] c.env=(U',eval (.Call (.Name "zip" A) [e,E] [] X) c.env)::w4 [] c.env) t8)(g:autoParam ((H9 c8 (w4 [] c.env)).any (·.1)=U') t8)(k:autoParam (w4 [e,E] c.env=(U',eval e c.env)::w4 [E] c.env) t8)(f:autoParam ((H9 X (w4 [E] c.env)).any (·.1)=U') t8)(hn:autoParam (H9 c8 (w4 [] c.env)=[]) t8):
  PX c I (.Call (.Name "dict" p) [.Call (.Name "zip" A) [e,E] [] X] [] c8) (xu (CK K') N) (yp Y):=by
 subst R;refine⟨Ss hu B P L i m u s w.p t g k f hn,?_⟩;intro O b as V H ds pv Q S d q;obtain⟨l,h1,d⟩:=t4 d;refine w.t O b as V H ds l _ S h1 λvs H1 j y=>?_;unfold VF at d;split at d
 . rename_i la lb;obtain⟨D,h2,d⟩:=t4 d;obtain⟨F,d⟩:=J9 d;obtain⟨T,z,Z⟩:=F;cases d;cases y with
   |cons o h =>
   cases h with
   |cons r h =>
   cases h;cases o with
   |lst a G =>
   cases r with
   |lst C v =>
   obtain⟨bs,rfl,M⟩:=(G.same B5).lU h2;have x:=v.length;refine⟨_,_,bs,_,D,rfl,B5.seq a,B5.seq C,M,T,x.trans z,λp n=>q _ _ (j.trans (v8.new n)) ?_⟩;obtain⟨o,r⟩:=(S.grow j).dm.fresh n;exact Dt.dtt (F4.mpr ⟨o,r,O4⟩) (x.trans z).symm rfl (C7.lf (a1b S j (v8.new n)) v Z)
 exact nE d
noncomputable def uf:List f7->Option (List (List Key))
 | []=>U []
 | .tuple l::r=>(kO l).bind λk=>(uf r).bind λks=>U (k::ks)
 |_=>J
def yz(ks:List (List Key)):uf (ks.map λk=>.tuple (k.map cj))=U ks:=by
 induction ks with
 |nil=>rfl
 |cons k s h =>
  change (kO _).bind _=_;rw[oC];exact D3 (yI · λs=>U (k::s)) h
noncomputable def mJ(d:f7)(k:List Key):Option (Option f7):=match d with
 | .dict [(.list l,.list vs)]=>(uf l).bind λks=>U (((ks.zip vs).find? λp=>decide (p.1=k)).map (·.2))
 |_=>J
theorem Ha{K:y7}{H:Hp}(k:List Key):∀{ks:List (List Key)} {vs:List V} {l:List f7},C7 K H vs l ->
  (jj (ks.zip vs) k=J/\((ks.zip l).find? λp=>decide (p.1=k)).map (·.2)=J)\/∃v d,jj (ks.zip vs) k=U v/\((ks.zip l).find? λp=>decide (p.1=k)).map (·.2)=U d/\Dt K H v d
 | [],_,_,_=>.inl ⟨rfl,rfl⟩
 |_::_,_,_,.nil=>.inl ⟨rfl,rfl⟩
 |k'::ks,_,_,.cons (x:=x) (d:=d) h t=>by
  by_cases e:k'=k;exact .inr ⟨x,d,wz e,by simp[e],h⟩;rw[lr,lr,wA e,Ou];simp only[Z9 e];exact Ha k t
set_option tactic.hygienic true in
theorem Dt.mJ{K:y7}{H:Hp}{x:V}{d:f7}{k:List Key}{r:Option f7}(h:Dt K H x d)(e:L2.mJ d k=U r):
  ∃a b,x=.ref a/\H a=U (.dT b)/\((jj b k=J/\r=J)\/∃v d',jj b k=U v/\r=U d'/\Dt K H v d'):=by
 cases h with
 |dtt c g f t =>
  rename_i a b i j l;change (uf _).bind _=_ at e;rw[yz]at e;replace e:=X8 e;refine⟨a,b,rfl,c,?_⟩;rw[f,<-e];exact Ha k t
 |dct c g t=>exact nE e
 |key h=>exact nE e
 |_=>exact nE e
noncomputable def jE(Fo Fi:DV):DV:=λds=>(Fo ds).bind λx=>(Fi ds).bind λy=>(pR y.d).bind λk=>(mJ x.d k).bind λr=>r.bind λd=>U (.dat d)
noncomputable def jd(Fo Fi Fx:DV):DV:=λds=>(Fo ds).bind λx=>(Fi ds).bind λy=>(Fx ds).bind λz=>(pR y.d).bind λk=>(mJ x.d k).bind λr=>U (.dat (r.getD z.d))
def RB(F:c.A.units+1<S7)(m:PX c I e G r)(l:PX c I E c6 d6)(hs:autoParam (UK E) vH):PX c I (.Subscript e E p) (Vg G c6) (jE r d6):=⟨Xw F m.p l.p hs,by
 intro O i w n H u pv Q S X q;obtain⟨x,L,X⟩:=t4 X;obtain⟨y,M,X⟩:=t4 X;obtain⟨k,o,X⟩:=t4 X;obtain⟨W,B,X⟩:=t4 X;obtain⟨d,g,X⟩:=t4 X;cases X;refine m.t O i w n H u x _ S L λv C j P=>?_;refine l.t O i w n C u y _ (S.grow j) M λT R s A=>?_
 obtain⟨b,rfl,t⟩:=(A.dt (S.grow j).dm).pR o;obtain⟨a,h,rfl,z,f⟩:=((P.grow s).dt S.dm).mJ B;rcases f with ⟨_,f⟩|⟨D,V,f,N,K⟩
 . simp_all
 . rw[N]at g;cases g;exact⟨a,D,rfl,.inr ⟨h,k,b,.inl (F4.mp z).2.2,rfl,(F4.mp t).2.2,f.symm⟩,q _ _ (j.trans s) K⟩⟩
def LK{tx:TE}{Fx:DV}(V:c.A.units+1<S7)(o:PX c I e G r)(f:PX c I E c6 d6)(F:PX c I b7 tx Fx)(m:M2 c e "get" p E b7 A:=by exact⟨rfl,rfl,rfl,rfl⟩):PX c I (.Call (.Attribute e "get" p) [E,b7] [] A) (Lf G c6 tx) (jd r d6 Fx):=⟨Su V o.p f.p F.p m,by
 intro O X C s H w pv Q S d q;obtain⟨x,h1,d⟩:=t4 d;obtain⟨y,h2,d⟩:=t4 d;obtain⟨z,B,d⟩:=t4 d;obtain⟨k,Y,d⟩:=t4 d;obtain⟨fr,K,d⟩:=t4 d;cases d;refine o.t O X C s H w x _ S h1 λv R h M=>?_;obtain⟨a,u,rfl,N,_⟩:=(M.dt S.dm).mJ K;refine⟨a,rfl,.inr ⟨u,.inl (F4.mp N).2.2⟩,?_⟩;refine f.t O X C s R w y _ (S.grow h) h2 λv2 Z l W=>?_;refine F.t O X C s Z w z _ ((S.grow h).grow l) B λv3 H3 n P=>?_
 obtain⟨b,rfl,L⟩:=((W.grow n).dt (S.grow h).dm).pR Y;obtain⟨a',g,i,t,j⟩:=(((M.grow l).grow n).dt S.dm).mJ K;cases i;rcases j with ⟨j,D⟩|⟨T,d',j,D,g4⟩
 refine⟨J,.inr ⟨g,k,b,.inl (F4.mp t).2.2,rfl,(F4.mp L).2.2,j.symm⟩,q _ _ ((h.trans l).trans n) ?_⟩;rw[D];exact(P.dt ((S.grow h).grow l).dm)
 . refine⟨U T,.inr ⟨g,k,b,.inl (F4.mp t).2.2,rfl,(F4.mp L).2.2,j.symm⟩,q _ _ ((h.trans l).trans n) ?_⟩;rw[D];exact g4⟩
noncomputable def kH:f7->FV
 | .list l,[d]=>Ai (.list (l.map un)) [un d]
 |_,_=>J
set_option tactic.hygienic true in
def LJ {K':y7} (V:c.A.units + 64 < S7) (w:c.K=K') (u:PX c I E G r) (B:et c I [e] N Y) (h:autoParam (aU E "index" c.env (eval E c.env)=eval E c.env) t8) (k:autoParam (((H9 A (w4 [e] c.env)).all (λx=>!x.1)&&(cq A (eJ [] c.env)).all (λx=>x.1.isSome)
   && decide ([e].length+([]:List aZ).length+(if ([]:List aZ).isEmpty then 0 else 1)<30))=Uf) t8)
  (i:autoParam ((p.endLine==A.line)=Uf) t8) (hs:autoParam (w4 [e] c.env=(U',eval e c.env)::w4 [] c.env) t8) (X:autoParam ((H9 A (w4 [] c.env)).any (·.1)=U') t8) :
  PX c I (.Call (.Attribute E "index" p) [e] [] A) (Hf K' "list" (Hx K') G N) (rQ kH r Y):=by
 subst w;refine⟨xK rp zt Qa (MM V) u.p B.p h k i hs X,?_⟩;intro O g o z H C pv Q S b q;obtain⟨x,h1,b⟩:=t4 b;obtain⟨l,h2,b⟩:=t4 b;refine u.t O g o z H C x _ S h1 λv R t r1=>?_;have D:=r1.dt S.dm;generalize x.d=xd at b D;unfold kH at b;split at b
 . rename_i M d;obtain⟨n,b⟩:=J9 b;obtain⟨j,L,b⟩:=t4 b;cases b;cases D with
   |lst m ht =>
    rename_i a T;refine⟨.inl ⟨rfl,_,B5.seq m⟩,?_⟩;refine B.t O g o z R C _ _ (S.grow t) h2 λvs Z s f=>?_
    cases f with
    |cons y P =>
     cases P;exact⟨a,T,M.map un,_,un d,j,rfl,rfl,s.seq (B5.seq m),((ht.same B5).same s).un,(y.same B5).un,n.1,n.2.1,n.2.2.1,n.2.2.2,L,q _ Z (t.trans s) (Dt.int _)⟩
 exact nE b
def LQ{pos:Pos}(u:c.N.Nodup)(X:c.N[m]? = U o)(F:Loc c.env.scope o)(K:c.calm=Uf)(B:kq c P d9 e8)(l:gD c Uf E b7 j7 Y)(f:kb P.length j1)(g:∀cl C fp s H pins,PG (Y2 c P d9 e8 cl C fp s H pins) E j1)(b:sO c.K P.length j1 l9)(k:∀cl C fp s H pins,PX (Y2 c P d9 e8 cl C fp s H pins) Uf e G r)(d:autoParam (cw (.ListComp e [⟨E,b7,[],0⟩] e8 p) (U (.Name o A)) pos.line c.env=pure Uf) t8)(I:autoParam (c.fn o=Uf\/c.env.scope.names.lookup o=U .local) dR)(hs:autoParam (∀o,eM b7 c.env o=pure o) X0):P5 c (.Assign [.Name o A] (.ListComp e [⟨E,b7,[],0⟩] e8 p) pos) (iC (hZ P j7 j1 xt G) (Y7 m)) (R9 m (lQ Y l9 r)):=
 ⟨zJ u X F K B l.p f g (λ_ _ _ _ _ _=>wH) (λ_ _ _ _ _ _=>(k _ _ _ _ _ _).p) d I hs,by
 intro O a y w H j D L S h q;obtain⟨pv,e1,h⟩:=t4 h;cases h;refine((RD (pos:=p) K B l f g b k hs).t) O a y w H j pv _ S e1 λv t i x=>?_
 obtain⟨n,z⟩:=S.store i m x;exact q _ _ _ z⟩
def O9.u1(r:O9 m D):D.units+1<S7:=by have:=r.un;lia
def O9.u2(r:O9 m D):D.units+2<S7:=by have:=r.un;lia
end L2
namespace Sx
variable{n j m:Nat}{p s x:Int}{w f:Nat->Int}{Z:Bool}{Y X:Nat->Nat}{S:Nat->Nat->Int}
def sm:Nat->(Nat->Int)->Int
 | 0,_=>0
 |n+1,f=>sm n f+f n
def A6(h:∀i,i<n->f i=w i):sm n f=sm n w:=by
 induction n with
 |zero=>rfl
 |succ n a=>rw[sm,sm,a λi b=>h i eS,h n B4]
def iT(h:∀i,i<n->f i=0):sm n f=0:=by
 induction n with
 |zero=>rfl
 |succ n a=>rw[sm,a λi b=>h i eS,h n B4];rfl
def jn(n:Nat)(f g:Nat->Int):sm n (λi=>f i+g i)=sm n f+sm n g:=by
 induction n with
 |zero=>rfl
 |succ n a=>rw[sm,sm,sm,a];lia
def L0(n:Nat)(a:Int)(f:Nat->Int):sm n (λi=>a*f i)=a*sm n f:=by
 induction n with
 |zero=>rw[sm,sm,V9]
 |succ n b=>rw[sm,sm,b,jT]
def Hk(n:Nat)(a:Int)(f:Nat->Int):sm n (λi=>f i*a)=sm n f*a:=by rw[K8,<-L0];exact A6 λi _=>K8 _ _
def W8{k:Nat}(a:k<n)(h:∀i,i<n->i≠k->f i=0):sm n f=f k:=by
 induction n with
 |zero=>simp_all
 |succ n d =>
  rw[sm];by_cases c:k=n;subst c;rw[iT λi b=>h i eS (R8 v5)];simp[*];rw[d (pa (ri v5) v5) λi b a=>h i eS a,h n B4 λz=>c z.symm];simp[*]
def Zt(a:j+1<n)(h:∀i,i<n->i≠j->i≠j+1->f i=0):sm n f=f j+f (j+1):=by
 induction n with
 |zero=>simp_all
 |succ n g =>
  rw[sm];by_cases c:j+1=n;subst c;rw[W8 B4 λi b a=>h i eS a (R8 v5)];rw[g (pa (ri v5) v5) λi b d e=>h i eS d e,h n B4 u3 λz=>c z.symm];simp[*]
def qt(n m:Nat)(f:Nat->Nat->Int):sm n (λi=>sm m λj=>f i j)=sm m λj=>sm n λi=>f i j:=by
 induction n with
 |zero=>rw[sm];exact(iT λ_ _=>rfl).symm
 |succ n a =>
  rw[sm,a,<-jn];rfl
def jm(n:Nat)(f g:Nat->Int):sm n (λi=>f i-g i)=sm n f-sm n g:=by
 have e:(λi=>f i-g i)=λi=>f i+(-1)*g i:=by funext i;lia
 rw[e,jn,L0];lia
def xw(f:Nat->Int)(a:j<n):sm n f=f j+sm n λi=>if i=j then 0 else f i:=by
 have:sm n f=sm n λi=>(if i=j then f j else 0)+(if i=j then 0 else f i):=A6 λi _=>by
  by_cases c:i=j;rw[t2 c,t2 c,c];simp[*];rw[s9 c,s9 c];simp[*]
 rw[this,jn,W8 a λi _ h=>by rw[s9 h],t2 rfl]
def skip(j c:Nat):Nat:=if c<j then c else c+1
noncomputable def det:Nat->(Nat->Nat->Int)->Int
 | 0,_=>1
 |n+1,M=>sm (n+1) λj=>(-1) ^ j*M j 0*det n λc r=>M (skip j c) (r+1)
def Wz(a:j<n+1)(b:m<n):skip j m<n+1:=by delta skip;split<;>lia
def Wy:skip j n≠j:=by delta skip;split<;>lia
def Z2:∀{n:Nat} {M a:Nat->Nat->Int},(∀c r,c<n->r<n->M c r=a c r)->det n M=det n a:=by
 intro l_;induction l_ with
 |zero =>
  intro _ _ _;exact rfl
 |succ n ih_ =>
  intro M a h;refine A6 λj b=>?_;rw[h j 0 b B4,ih_ λc r d e=>h _ _ (Wz b d) B4]
def G9(M:Nat->Nat->Int)(k:Nat)(v:Nat->Int):Nat->Nat->Int:=λc r=>if c=k then v r else M c r
def bP(M:Nat->Nat->Int)(k:Nat)(v:Nat->Int)(r:Nat):G9 M k v k r=v r:=by delta G9;simp
def aD(M:Nat->Nat->Int)(v:Nat->Int)(r:Nat)(h:j≠n):G9 M n v j r=M j r:=by delta G9;rw[s9 h]
def back(j k:Nat):Nat:=if k<j then k else k-1
def AQ(h:n≠j):skip j (back j n)=n:=by
 delta back;by_cases c:n<j;rw[t2 c];delta skip;rw[t2 c];rw[s9 c];delta skip;rw[s9 u3];lia
def Yx(a:j<n+1)(b:m<n+1)(h:m≠j):back j m<n:=by delta back;split<;>lia
def Ra(h:skip j n=skip j m):n=m:=by unfold skip at h;split at h<;>split at h<;>lia
def vF:∀{n k:Nat} (M:Nat->Nat->Int) (a b:Int) (u v:Nat->Int),k<n->det n (G9 M k λr=>a*u r+b*v r)=a*det n (G9 M k u)+b*det n (G9 M k v):=by
 intro l_;induction l_ with
 |zero =>
  intro k M a b u v h;exact nt
 |succ n ih_ =>
  intro k M a b u v h;rw[det,det,det,<-L0,<-L0,<-jn];refine A6 λj g=>?_;by_cases c:k=j
  . subst c;have e:∀w:Nat->Int,det n (λc r=>G9 M k w (skip k c) (r+1))=det n (λc r=>M (skip k c) (r+1)):=λw=>Z2 λc r _ _=>aD _ _ _ Wy;rw[e,e,e,bP,bP,bP];generalize (-1) ^ k=s;rw[jT,EH]
    congr 1
    rw[<-P7,<-P7,<-P7,K8 s a];rw[<-P7,<-P7,<-P7,K8 s b]
  . have e:∀w:Nat->Int,det n (λc r=>G9 M k w (skip j c) (r+1))=det n (G9 (λc r=>M (skip j c) (r+1)) (back j k) λr=>w (r+1)):=λw=>Z2 λf r _ _=>by
      delta G9;by_cases d:f=back j k;rw[t2 d,d,AQ c,t2 rfl];rw[s9 d,s9 λz=>d (Ra (by rw[z,AQ c]))]
    rw[e,e,e,aD _ _ _ (λz=>c z.symm),aD _ _ _ (λz=>c z.symm),aD _ _ _ (λz=>c z.symm),ih_ _ a b (λr=>u (r+1)) (λr=>v (r+1)) (Yx g h c)];generalize (-1) ^ j*M j 0=s;rw[jT]
    congr 1
    rw[<-P7,<-P7,K8 s a];rw[<-P7,<-P7,K8 s b]
def IB:∀{n k:Nat} {M:Nat->Nat->Int},k+1<n->(∀r,r<n->M k r=M (k+1) r)->det n M=0:=by
 intro l_;induction l_ with
 |zero =>
  intro k M h _
  simp_all
 |succ n ih_ =>
  intro k M h e;rw[det,Zt h]
  . have b:det n (λc r=>M (skip k c) (r+1))=det n (λc r=>M (skip (k+1) c) (r+1)):=Z2 λc r _ a=>by
      by_cases d:c=k;subst d;rw[show skip c c=c+1 from by delta skip;rw[s9 B4],show skip (c+1) c=c from by delta skip;rw[t2 B4]];exact(e _ B4).symm;rw[show skip k c=skip (k+1) c from by delta skip;split<;>split<;>lia]
    rw[b,e 0 B4,Int.pow_succ];lia
  . intro j f g i;have:det n (λc r=>M (skip j c) (r+1))=0:=by
     by_cases c:j<k;refine ih_ (k:=k-1) u3 λr a=>?_;rw[show skip j (k-1)=k from by delta skip;rw[s9 U1];lia,show skip j (k-1+1)=k+1 from by delta skip;rw[s9 U1];lia];exact e _ B4;refine ih_ (k:=k) u3 λr a=>?_;rw[show skip j k=k from by delta skip;rw[t2 u3],show skip j (k+1)=k+1 from by delta skip;rw[t2 u3]];exact e _ B4
    simp_all
def nR(M:Nat->Nat->Int)(k:Nat):G9 M k (M k)=M:=by
 funext c r
 delta G9
 simp_all
def KR(M:Nat->Nat->Int)(k:Nat)(u v:Nat->Int):G9 (G9 M k u) k v=G9 M k v:=by
 funext c r
 delta G9
 simp_all
def iB(M:Nat->Nat->Int)(u v:Nat->Int)(h:n≠j):G9 (G9 M n u) j v=G9 (G9 M j v) n u:=by
 funext c r
 delta G9;by_cases a:c=j;rw[t2 a,s9 u3,t2 a];rw[s9 a];by_cases b:c=n;rw[t2 b,t2 b];rw[s9 b,s9 b,s9 a]
def AB(M:Nat->Nat->Int)(u v:Nat->Int)(h:j<n):det n (G9 M j λr=>u r+v r)=det n (G9 M j u)+det n (G9 M j v):=by have:=vF M 1 1 u v h;simpa using this
def vZ(b:m<n)(c:j<n)(a:m≠j)(M:Nat->Nat->Int)(z:∀w,det n (G9 (G9 M m w) j w)=0)(u v:Nat->Int):det n (G9 (G9 M m u) j v) = - det n (G9 (G9 M m v) j u):=by
 have h:=z λr=>u r+v r;rw[AB _ _ _ c,iB _ _ _ a,iB _ _ _ a,AB _ _ _ b,AB _ _ _ b,iB _ _ _ a.symm,iB _ _ _ a.symm,iB _ _ _ a.symm,iB _ _ _ a.symm,z u,z v]at h;lia
def Eh:∀(d:Nat) {n a:Nat} {M:Nat->Nat->Int},a+d+1<n->(∀r,r<n->M a r=M (a+d+1) r)->det n M=0:=by
 intro l_;induction l_ with
 |zero =>
  intro n a M h e;exact IB h e
 |succ d ih_ =>
  intro n a M h e;have b:M=G9 (G9 M (a+d+1) (M (a+d+1))) (a+d+1+1) (M (a+d+1+1)):=by rw[nR,nR]
  rw[b,vZ el U1 B4 M (λw=>IB (k:=a+d+1) U1 λr _=>by rw[aD _ _ _ B4,bP,bP])];rw[ih_ el λr c=>?_];rfl;rw[aD _ _ _ u3,aD _ _ _ u3,aD _ _ _ B4,bP];exact e r c
def rX(f:m<n)(d:j<n)(c:m≠j)(e:∀r,r<n->S m r=S j r):det n S=0:=by
 rcases EL m j with h|h
 refine Eh (j-m-1) (a:=m) U1 λr b=>?_;rw[show m+(j-m-1)+1=j from by omega];exact e r b;refine Eh (m-j-1) (a:=j) U1 λr b=>?_;rw[show j+(m-j-1)+1=m from by lia];exact(e r b).symm
def Uk(c:m<n)(b:j<n)(a:m≠j)(M:Nat->Nat->Int)(u v:Nat->Int):det n (G9 (G9 M m u) j v) = - det n (G9 (G9 M m v) j u):=
 vZ c b a M (λw=>rX c b a λr _=>by rw[aD _ _ _ a,bP,bP]) u v
def Iz(M:Nat->Nat->Int)(h:j<n)(a:Nat->Int)(V:Nat->Nat->Int):∀m,det n (G9 M j λr=>sm m λi=>a i*V i r)=sm m λi=>a i*det n (G9 M j (V i)):=by
 intro l_;induction l_ with
 |zero =>
  have:=vF M 0 0 (λ_=>0) (λ_=>0) h;simp only[cR]at this;exact this
 |succ m ih_ =>
  have:=vF M 1 (a m) (λr=>sm m λi=>a i*V i r) (V m) h;simp only[dF]at this;show det n (G9 M j λr=>sm m (λi=>a i*V i r)+a m*V m r)=sm m (λi=>a i*det n (G9 M j (V i)))+a m*det n (G9 M j (V m));rw[this,ih_]
def IA:∀n,det n (λc r=>if c=r then 1 else 0)=1:=by
 intro l_;induction l_ with
 |zero =>
  exact rfl
 |succ n ih_ =>
  rw[det,W8 (k:=0) B4]
  . have e:det n (λc r=>if skip 0 c=r+1 then 1 else 0)=det n (λc r=>if c=r then 1 else 0):=Z2 λc r _ _=>by
      rw[show skip 0 c=c+1 from by delta skip;rw[s9 B4]];by_cases h:c=r;rw[t2 h,t2 B4];rw[s9 h,s9 B4]
    rw[e,ih_,t2 rfl];rfl
  intro j _ a;rw[s9 a,V9,cR]
def sN:Nat->(Nat->Nat)->Nat
 | 0,_=>0
 |n+1,f=>sN n f+f n
def pN:Nat->(Nat->Nat)->Nat
 | 0,_=>1
 |n+1,f=>pN n f*f n
def Lr(n:Nat)(f:Nat->Int):(sm n f).natAbs<=sN n λi=>(f i).natAbs:=by
 induction n with
 |zero=>exact X6 _
 |succ n a =>
  exact C3 (Int.natAbs_add_le _ _) (Ph a _)
def BO(h:∀i,i<n->Y i<=X i):sN n Y<=sN n X:=by
 induction n with
 |zero=>exact X6 _
 |succ n a=>exact yU (a λi b=>h i eS) (h n B4)
def a2H(h:∀i,i<n->Y i<=X i):pN n Y<=pN n X:=by
 induction n with
 |zero=>exact X6 _
 |succ n a=>exact yT (a λi b=>h i eS) (h n B4)
def SD(h:∀i,i<n->Y i=X i):pN n Y=pN n X:=by
 induction n with
 |zero=>rfl
 |succ n a=>rw[pN,pN,a λi b=>h i eS,h n B4]
def WG(n:Nat)(f:Nat->Nat):sN (n+1) f=f 0+sN n λi=>f (i+1):=by
 induction n with
 |zero=>rw[sN,sN,sN];exact qU _ _
 |succ n a=>rw[sN,a,sN];exact Nat.add_assoc _ _ _
def WH(n a:Nat)(f:Nat->Nat):sN n (λi=>f i*a)=sN n f*a:=by
 induction n with
 |zero=>rw[sN,sN,Nat.zero_mul]
 |succ n b=>rw[sN,sN,b,Nat.add_mul]
def Sb(x y:Nat->Nat):∀n,sN (n+1) (λj=>x j*pN n λc=>y (skip j c))<=pN (n+1) λc=>x c+y c:=by
 intro l_;induction l_ with
 |zero =>
  simp[sN,pN]
 |succ n ih_ =>
  rw[sN];have a:sN (n+1) (λj=>x j*pN (n+1) λc=>y (skip j c))<=sN (n+1) λj=>(x j*pN n λc=>y (skip j c))*y (n+1):=BO λj f=>by
   rw[pN,show skip j n=n+1 from by delta skip;rw[s9 u3],ET];exact X6 _
  rw[WH]at a;have b:pN (n+1) (λc=>y (skip (n+1) c))=pN (n+1) y:=SD λc e=>by rw[show skip (n+1) c=c from by delta skip;rw[t2 e]]
  have d:pN (n+1) y<=pN (n+1) λc=>x c+y c:=a2H λc _=>by simp[*]
  rw[b];refine C3 (Ph a _) ?_;show _<=(pN (n+1) λc=>x c+y c)*(x (n+1)+y (n+1));rw[Nat.mul_add,qU,uu (x (n+1))];exact yU (pj _ d) (pj _ (ih_))
def NP:∀(n:Nat) (M:Nat->Nat->Int),(det n M).natAbs<=pN n λc=>sN n λr=>(M c r).natAbs:=by
 intro l_;induction l_ with
 |zero =>
  intro M;simp[det,pN]
 |succ n ih_ =>
  intro M;refine C3 (Lr _ _) ?_;have e:(λc=>sN (n+1) λr=>(M c r).natAbs)=λc=>(M c 0).natAbs+sN n λr=>(M c (r+1)).natAbs:=by funext c;rw[WG]
  rw[e];refine C3 (BO λj a=>?_) (Sb (λc=>(M c 0).natAbs) (λc=>sN n λr=>(M c (r+1)).natAbs) n)
  rw[dH,dH];have:((-1) ^ j).natAbs=1:=by simp
  rw[this,Nat.one_mul];exact Nat.mul_le_mul_left _ (ih_ _)
structure Pb where
 m:Nat
 n:Nat
 A:Nat->Nat->Int
 b:Nat->Int
 u:Nat->Option Int
 c:Nat->Nat->Int
variable{c:Pb}
structure Tb where
 B:Nat->Nat
 full:Nat->Bool
 size:Int
 inv:Nat->Nat->Int
 pr:Nat->Nat->Int
 rt:Nat->Int
variable{b:Tb}
def dot(m:Nat)(x y:Nat->Int):Int:=sm m λr=>x r*y r
def lR{x' y':Nat->Int}(h:∀r,r<m->w r=x' r)(h':∀r,r<m->f r=y' r):dot m w f=dot m x' y':=A6 λr a=>by rw[h r a,h' r a]
def Az(m l:Nat)(x:Nat->Int)(a:Nat->Int)(V:Nat->Nat->Int):dot m x (λr=>sm l λi=>a i*V i r)=sm l λi=>a i*dot m x (V i):=by
 delta dot;have:sm m (λr=>x r*sm l λi=>a i*V i r)=sm m λr=>sm l λi=>a i*(x r*V i r):=A6 λr _=>by rw[<-L0];exact A6 λi _=>by rw[<-P7,<-P7,K8 (x r)]
 rw[this,qt];exact A6 λi _=>L0 _ _ _
def Iw(m:Nat)(a:Int)(x y:Nat->Int):dot m (λr=>a*x r) y=a*dot m x y:=by delta dot;rw[<-L0];exact A6 λr _=>P7 _ _ _
def xb(m:Nat)(a:Int)(x y:Nat->Int):dot m x (λr=>a*y r)=a*dot m x y:=by delta dot;rw[<-L0];exact A6 λr _=>by rw[<-P7,<-P7,K8 a]
def Iu(m:Nat)(x y z:Nat->Int):dot m x (λr=>y r-z r)=dot m x y-dot m x z:=by delta dot;rw[<-jm];exact A6 λr _=>Int.mul_sub _ _ _
def unit(q:Nat):Nat->Int:=λp=>if p=q then 1 else 0
def rV(x:Nat->Int)(h:n<m):dot m x (unit n)=x n:=by
 delta dot;rw[W8 h λi _ a=>by delta unit;rw[s9 a,V9]];delta unit;simp
def KN(x:Nat->Int)(h:n<m):(sm m λq=>x q*unit q n)=x n:=by
 rw[W8 h λi _ a=>by delta unit;rw[s9 (λz=>a z.symm),V9]];delta unit;simp
def KS(h:∀p,p<m->f p=w p):det m (G9 S n f)=det m (G9 S n w):=Z2 λc r _ a=>by
 delta G9
 simp_all
def Tb.M(P:Pb)(T:Tb):Nat->Nat->Int:=λk=>P.A (T.B k)
structure R7(P:Pb)(T:Tb):Prop where
 bn:∀k,k<P.m->T.B k<P.n
 inj:∀k l,k<P.m->l<P.m->T.B k=T.B l->k=l
 sg:∃s:Int,(s=1\/s = -1)/\s*T.size=det P.m (T.M P)/\∀r,r<P.m->∀x,s*dot P.m (T.inv r) x=det P.m (G9 (T.M P) r x)
 pos:0<T.size
 span:∀p q,p<P.m->q<P.m->sm P.m (λk=>T.inv k q*P.A (T.B k) p)=if p=q then T.size else 0
 pr:∀t q,q<P.m->T.pr t q=sm P.m λk=>P.c t (T.B k)*T.inv k q
def Wt(h:s=1\/s = -1):s*s=1:=by rcases h with h|h<;>rw[h]<;>rfl
section
variable{P:Pb}{T:Tb}
def R7.left(L:R7 P T)(b:n<P.m)(g:j<P.m):dot P.m (T.inv n) (P.A (T.B j))=if n=j then T.size else 0:=by
 obtain⟨s,d,e,f⟩:=L.sg;have a:s*dot P.m (T.inv n) (P.A (T.B j))=s*(if n=j then T.size else 0):=by
  rw[(f n b (P.A (T.B j)))];by_cases c:n=j;subst c;rw[t2 rfl,e];exact D3 _ (nR (T.M P) n)
  . rw[s9 c,V9];exact rX b g c λp _=>by
     rw[bP,aD _ _ _ (λz=>c z.symm)];rfl
 have:s*(s*dot P.m (T.inv n) (P.A (T.B j)))=s*(s*(if n=j then T.size else 0)):=by rw[a]
 rw[<-P7,<-P7,Wt d,dF,dF]at this;exact this
theorem R7.by(L:R7 P T)(x:Nat->Int)(a:n<P.m):(sm P.m λk=>dot P.m (T.inv k) x*P.A (T.B k) n)=T.size*x n:=by
 have:(sm P.m λk=>dot P.m (T.inv k) x*P.A (T.B k) n)=sm P.m λk=>sm P.m λq=>x q*(T.inv k q*P.A (T.B k) n):=A6 λk _=>by delta dot;rw[<-Hk];exact A6 λq _=>by rw[K8 (T.inv k q),P7]
 rw[this,qt];have:(sm P.m λq=>sm P.m λk=>x q*(T.inv k q*P.A (T.B k) n))=sm P.m λq=>x q*(if n=q then T.size else 0):=A6 λq hq=>by rw[L0,L.span n q a hq]
 rw[this,W8 a λi _ b=>by rw[s9 (λz=>b z.symm),V9],t2 rfl,K8]
def R7.ratio(L:R7 P T)(u:s=1\/s = -1)(g:∀n,n<P.m->∀x,s*dot P.m (T.inv n) x=det P.m (G9 (T.M P) n x))(c:n<P.m)(f:j<P.m)(b:n≠j)(a x:Nat->Int):
  T.size*(s*det P.m (G9 (G9 (T.M P) j a) n x))=dot P.m (T.inv j) a*dot P.m (T.inv n) x-dot P.m (T.inv n) a*dot P.m (T.inv j) x:=by
 have:T.size*det P.m (G9 (G9 (T.M P) j a) n x)=det P.m (G9 (G9 (T.M P) j a) n λp=>sm P.m λk=>dot P.m (T.inv k) x*P.A (T.B k) p):=by
  have:=vF (G9 (T.M P) j a) T.size 0 x (λ_=>0) c;simp only[qR,cR]at this;rw[<-this];exact KS λp l=>(L.by x l).symm
 have:=Iz (G9 (T.M P) j a) c (λk=>dot P.m (T.inv k) x) (λk=>P.A (T.B k)) P.m
 have t:(sm P.m λk=>dot P.m (T.inv k) x*det P.m (G9 (G9 (T.M P) j a) n (P.A (T.B k))))=sm P.m λk=>(if k=n then dot P.m (T.inv n) x*(s*dot P.m (T.inv j) a)else 0)+(if k=j then dot P.m (T.inv j) x*(-(s*dot P.m (T.inv n) a))else 0):=A6 λk o=>by
  by_cases d:k=n
  . subst d;rw[t2 rfl,s9 b,qR,g j f a]
    congr 1
    rw[iB _ _ _ b.symm];exact D3 (λz=>det P.m (G9 z j a)) (nR (T.M P) k)
  . by_cases e:k=j
    . subst e;rw[s9 d,t2 rfl,X7,g n c a]
      congr 1
      rw[Uk f c (λz=>b z.symm) (T.M P) a (P.A (T.B k))]
      congr 1
      exact D3 (λz=>det P.m (G9 z n a)) (nR (T.M P) k)
    rw[s9 d,s9 e];rw[rX o c d λp _=>by rw[aD _ _ _ d,aD _ _ _ e,bP];rfl];simp
 have r:(sm P.m λk=>if k=n then dot P.m (T.inv n) x*(s*dot P.m (T.inv j) a)else 0)=dot P.m (T.inv n) x*(s*dot P.m (T.inv j) a):=by rw[W8 c (λi _ h=>by rw[s9 h]),t2 rfl]
 have q:(sm P.m λk=>if k=j then dot P.m (T.inv j) x*(-(s*dot P.m (T.inv n) a))else 0)=dot P.m (T.inv j) x*(-(s*dot P.m (T.inv n) a)):=by rw[W8 f (λi _ h=>by rw[s9 h]),t2 rfl]
 rw[jn,r,q]at t;grind
def Tb.w9(P:Pb)(T:Tb)(a r:Nat):Int:=dot P.m (T.inv r) (P.A a)
def Tb.rest(P:Pb)(T:Tb)(t a:Nat):Int:=P.c t a*T.size-dot P.m (T.pr t) (P.A a)
structure EA(P:Pb)(T:Tb)(a l:Nat)(g:Int)(T':Tb):Prop where
 b:∀k,k<P.m->T'.B k=if k=l then a else T.B k
 size:T'.size=g*T.w9 P a l
 il:∀q,q<P.m->T'.inv l q=g*T.inv l q
 ir:∀r q,r<P.m->q<P.m->r≠l->T.size*T'.inv r q=T.inv r q*(g*T.w9 P a l)-g*T.w9 P a r*T.inv l q
 pr:∀t q,q<P.m->T.size*T'.pr t q=T.pr t q*(g*T.w9 P a l)+g*T.rest P t a*T.inv l q
def R7.exact(L:R7 P T){l:Nat}(c:l<P.m)(g:Int):∀r q,r<P.m->q<P.m->r≠l->∃z,T.size*z=T.inv r q*(g*T.w9 P n l)-g*T.w9 P n r*T.inv l q:=λr q d hq b=>by obtain⟨s,h,i,f⟩:=L.sg;have e:=L.ratio h f d c b (P.A n) (unit q);rw[rV _ hq,rV _ hq]at e;refine⟨g*(s*det P.m (G9 (G9 (T.M P) l (P.A n)) r (unit q))),?_⟩;delta Tb.w9;grind
def vj(f:Nat->Int)(h:n<m)(g:Nat->Int):(sm m λk=>if k=n then g k else f k)=g n+(sm m f-f n):=by
 rw[xw _ h,t2 rfl,xw f h];have:(sm m λi=>if i=n then 0 else if i=n then g i else f i)=sm m λi=>if i=n then 0 else f i:=A6 λi _=>by simp_all
 lia
def xI(L:R7 P T)(t:Nat)(x:Nat->Int):dot P.m (T.pr t) x=sm P.m λk=>P.c t (T.B k)*dot P.m (T.inv k) x:=by
 delta dot;have:(sm P.m λr=>T.pr t r*x r)=sm P.m λr=>sm P.m λk=>P.c t (T.B k)*(T.inv k r*x r):=A6 λr a=>by rw[L.pr t r a,<-Hk];exact A6 λk _=>by rw[P7]
 rw[this,qt];exact A6 λk _=>L0 _ _ _
def Ee(L:R7 P T)(d:j<P.m)(b:Nat->Nat->Int)(il:∀m,m<P.m->b j m=p*T.inv j m)(h:∀r m,r<P.m->m<P.m->r≠j->T.size*b r m=T.inv r m*(p*T.w9 P n j)-p*T.w9 P n r*T.inv j m)(t:Nat)(hq:m<P.m):
  T.size*(sm P.m λk=>P.c t (if k=j then n else T.B k)*b k m)=T.pr t m*(p*T.w9 P n j)+p*T.rest P t n*T.inv j m:=by
 have e:(T.size*sm P.m λk=>P.c t (if k=j then n else T.B k)*b k m)=sm P.m λk=>if k=j then T.size*(P.c t n*(p*T.inv j m))else(p*T.w9 P n j)*(P.c t (T.B k)*T.inv k m)-(p*T.inv j m)*(P.c t (T.B k)*T.w9 P n k):=by
  rw[<-L0];refine A6 λk f=>?_;by_cases c:k=j;subst c;rw[t2 rfl,t2 rfl,il m hq];rw[s9 c,s9 c];grind
 rw[e,vj _ d,jm,L0,L0,<-L.pr t m hq];have:(sm P.m λk=>P.c t (T.B k)*T.w9 P n k)=dot P.m (T.pr t) (P.A n):=(xI L t (P.A n)).symm;delta Tb.rest;grind
def R7.a1A(L:R7 P T)(c:j<P.m)(g:Int)(t:Nat)(hq:m<P.m):∃z,T.size*z=T.pr t m*(g*T.w9 P n j)+g*T.rest P t n*T.inv j m:=by
 have:∃b:Nat->Nat->Int,(∀m,m<P.m->b j m=g*T.inv j m)/\∀r m,r<P.m->m<P.m->r≠j->T.size*b r m=T.inv r m*(g*T.w9 P n j)-g*T.w9 P n r*T.inv j m:=by
  refine⟨λr m=>if r=j then g*T.inv j m else(T.inv r m*(g*T.w9 P n j)-g*T.w9 P n r*T.inv j m)/T.size,λm _=>by simp,λr m e hq h=>?_⟩;simp only[s9 h];obtain⟨z,f⟩:=L.exact c g r m e hq h;rw[<-f,jK _ (by have:=L.pos;exact M4)]
 obtain⟨b,i,d⟩:=this;exact⟨_,Ee L c b i d t hq⟩
def gd(h:0<p)(e:p*x=p*s):x=s:=zx M4 e
def R7.turn(L:R7 P T)(N:n<P.n)(F:∀k,k<P.m->T.B k≠n)(u:j<P.m)(v:p=1\/p = -1)(G:0<p*T.w9 P n j)(Uff:EA P T n j p b):R7 P b:=by
 obtain⟨s,a,Q,C⟩:=L.sg;have H:∀r x,det P.m (G9 (b.M P) r x)=det P.m (G9 (G9 (T.M P) j (P.A n)) r x):=λr x=>Z2 λc l z _=>by
  delta G9 Tb.M;by_cases i:c=r;rw[t2 i,t2 i];rw[s9 i,s9 i,Uff.b c z];by_cases f:c=j;rw[t2 f,t2 f];rw[s9 f,s9 f]
 have O:det P.m (b.M P)=det P.m (G9 (T.M P) j (P.A n)):=Z2 λc l z _=>by
  delta G9 Tb.M;rw[Uff.b c z];by_cases f:c=j;rw[t2 f,t2 f];rw[s9 f,s9 f]
 have y:=L.pos;refine⟨λk d=>?_,λk D d h e=>?_,⟨s*p,?_,?_,λr w x=>?_⟩,by rw[Uff.size];exact G,λl q o hq=>?_,λt q hq=>?_⟩;rw[Uff.b k d];split;exact N;exact L.bn k d;rw[Uff.b k d,Uff.b D h]at e;split at e;rename_i i;split at e;rename_i f;rw[i,f];exact absurd e.symm (F D h);split at e;exact absurd e (F k d);exact L.inj k D d h e
 . rcases a with a|a<;>rcases v with v|v<;>rw[a,v]<;>simp
 rw[Uff.size,O,<-C j u (P.A n)];delta Tb.w9;grind
 . rw[H];by_cases c:r=j
   . subst c;rw[KR,<-C r w x];have:dot P.m (b.inv r) x=p*dot P.m (T.inv r) x:=by rw[<-Iw];exact lR (λq hq=>Uff.il q hq) λ_ _=>rfl
     grind
   . have:=L.ratio a C w u c (P.A n) x;refine gd y ?_;have K:T.size*dot P.m (b.inv r) x=dot P.m (T.inv r) x*(p*T.w9 P n j)-p*T.w9 P n r*dot P.m (T.inv j) x:=by
      rw[<-Iw];have:dot P.m (λq=>T.size*b.inv r q) x=sm P.m λq=>(p*T.w9 P n j)*(T.inv r q*x q)-(p*T.w9 P n r)*(T.inv j q*x q):=A6 λq hq=>by simp only;rw[Uff.ir r q w hq c];grind
      rw[this,jm,L0,L0];delta dot;rw[K8 (p*T.w9 P n j)]
     have E:T.size*(s*p*dot P.m (b.inv r) x)=s*p*(T.size*dot P.m (b.inv r) x):=by grind
     rw[E,K];delta Tb.w9;grind
 . refine gd y ?_;have I:(T.size*sm P.m λk=>b.inv k q*P.A (b.B k) l)=sm P.m λk=>if k=j then T.size*(p*T.inv j q*P.A n l)else(p*T.w9 P n j)*(T.inv k q*P.A (T.B k) l)-(p*T.inv j q)*(T.w9 P n k*P.A (T.B k) l):=by
    rw[<-L0];refine A6 λk d=>?_;rw[Uff.b k d];by_cases c:k=j;subst c;rw[t2 rfl,t2 rfl,Uff.il q hq];rw[s9 c,s9 c];have:=Uff.ir k q d hq c;grind
   have E:(sm P.m λk=>T.w9 P n k*P.A (T.B k) l)=T.size*P.A n l:=(L.by (P.A n) o)
   rw[I,vj _ u,jm,L0,L0,E,L.span l q o hq,Uff.size];split<;>grind
 . refine gd y ?_;rw[Uff.pr t q hq,<-Ee L u b.inv Uff.il Uff.ir t hq]
   congr 1
   exact A6 λk d=>by rw[Uff.b k d]
end
def uv(P:Pb)(j:Nat):Int:=(P.u j).getD 0
def Tb.am(P:Pb)(T:Tb)(k:Nat):Int:=dot P.m (T.inv k) T.rt
def fsum(P:Pb)(T:Tb)(f:Nat->Int):Int:=sm P.n λj=>if T.full j=Uf then uv P j*f j else 0
def Tb.sg(T:Tb)(a:Nat):Int:=if T.full a=Uf then -1 else 1
def rF(T:Tb)(a:Nat):(T.full a=Uf/\T.sg a = -1)\/(T.full a=U'/\T.sg a=1):=by delta Tb.sg;simp
structure Ok(P:Pb)(T:Tb):Prop where
 J4:R7 P T
 rt:∀p,p<P.m->T.rt p=P.b p-fsum P T λj=>P.A j p
 fu:∀j,j<P.n->T.full j=Uf->P.u j≠J/\∀k,k<P.m->T.B k≠j
 lo:∀k,k<P.m->0<=T.am P k
 hi:∀k v,k<P.m->P.u (T.B k)=U v->T.am P k<=v*T.size
def pO{T':Tb}(T:n<c.n)(h:∀j,j<c.n->T'.full j=if j=n then !b.full n else b.full j)(f:Nat->Int):fsum c T' f=fsum c b f+b.sg n*(uv c n*f n):=by
 delta fsum;rw[xw _ T,xw (λj=>if b.full j=Uf then uv c j*f j else 0) T,h n T,t2 rfl]
 have:(sm c.n λi=>if i=n then 0 else if T'.full i=Uf then uv c i*f i else 0)=sm c.n λi=>if i=n then 0 else if b.full i=Uf then uv c i*f i else 0:=A6 λi g=>by
  by_cases P:i=n;rw[t2 P,t2 P];rw[s9 P,s9 P,h i g,s9 P]
 rcases rF b n with ⟨d,e⟩|⟨d,e⟩<;>rw[d,e]<;>simp<;>lia
def pM{T:Tb}(h:∀j,j<c.n->b.full j=T.full j)(f:Nat->Int):fsum c b f=fsum c T f:=A6 λj a=>by rw[h j a]
section
variable{P:Pb}{T T':Tb}
def R7.Jc(L:R7 P T)(a:n<P.m)(t:Nat):T.rest P t (T.B n)=0:=by
 delta Tb.rest;rw[xI L,W8 a λi b h=>by rw[L.left b a,s9 h,V9],L.left a a,t2 rfl];simp[*]
def R7.aH(L:R7 P T)(h:∀p,p<P.m->s*T.rt p=sm P.m λn=>w n*P.A (T.B n) p)(a:n<P.m):s*T.am P n=T.size*w n:=by
 delta Tb.am;rw[<-xb];have e:dot P.m (T.inv n) (λr=>s*T.rt r)=dot P.m (T.inv n) λr=>sm P.m λi=>w i*P.A (T.B i) r:=lR (λ_ _=>rfl) λr c=>h r c;rw[e,Az,W8 a λi b h=>by rw[L.left a b,s9 (λz=>h z.symm),V9],L.left a a,t2 rfl,K8]
def R7.Rm(L:R7 P T)(a:n<P.m):(sm P.m λk=>T.am P k*P.A (T.B k) n)=T.size*T.rt n:=L.by T.rt a
structure ug(P:Pb)(T:Tb)(a:Nat)(top bot:Int):Prop where
 nn:0<=top
 pb:0<bot
 own:∀v,P.u a=U v->top<=v*bot
 dn:∀k,k<P.m->0<T.sg a*T.w9 P a k->top*(T.sg a*T.w9 P a k)<=T.am P k*bot
 up:∀k v,k<P.m->T.sg a*T.w9 P a k<0->P.u (T.B k)=U v->top*(-(T.sg a*T.w9 P a k))<=(v*T.size-T.am P k)*bot
structure KA(P:Pb)(T:Tb)(a:Nat)(T':Tb):Prop where
 b:∀k,k<P.m->T'.B k=T.B k
 size:T'.size=T.size
 inv:∀k q,k<P.m->q<P.m->T'.inv k q=T.inv k q
 pr:∀t q,q<P.m->T'.pr t q=T.pr t q
 full:∀j,j<P.n->T'.full j=if j=a then !T.full a else T.full j
 rt:∀p,p<P.m->T'.rt p=T.rt p-T.sg a*(uv P a*P.A a p)
def R7.same(L:R7 P T)(d:∀k,k<P.m->T'.B k=T.B k)(hs:T'.size=T.size)(f:∀k q,k<P.m->q<P.m->T'.inv k q=T.inv k q)(v:∀t q,q<P.m->T'.pr t q=T.pr t q):R7 P T':=by
 have j:∀c r,c<P.m->r<P.m->T'.M P c r=T.M P c r:=λc r g _=>by delta Tb.M;rw[d c g]
 obtain⟨s,n,o,u⟩:=L.sg;refine⟨λk a=>by rw[d k a];exact L.bn k a,λk l a i e=>L.inj k l a i (by rw[d k a,d l i]at e;exact e),⟨s,n,by rw[hs,o];exact(Z2 j).symm,λr h x=>?_⟩,by rw[hs];exact L.pos,λp q b hq=>?_,λt q hq=>?_⟩
 . rw[lR (λq hq=>f r q h hq) (λ_ _=>rfl),u r h x]
   exact Z2 λc p g b=>by
    delta G9;split;rfl;exact(j c p g b).symm
 . rw[hs,<-L.span p q b hq];exact A6 λk a=>by rw[f k q a hq,d k a]
 . rw[v t q hq,L.pr t q hq];exact A6 λk a=>by rw[f k q a hq,d k a]
def Ok.flip(K:Ok P T)(x:n<P.n)(t:∀k,k<P.m->T.B k≠n)(l:P.u n=U p)(S:ug P T n p 1)(F:KA P T n T'):Ok P T'/\∀k,k<P.m->T'.am P k=T.am P k-T.sg n*p*T.w9 P n k:=by
 have h:uv P n=p:=by delta uv;rw[l];rfl
 have am:∀k,k<P.m->T'.am P k=T.am P k-T.sg n*p*T.w9 P n k:=λk d=>by
  delta Tb.am Tb.w9;have e:dot P.m (T'.inv k) T'.rt=dot P.m (T.inv k) λa=>T.rt a-(T.sg n*p)*P.A n a:=lR (λq hq=>F.inv k q d hq) λa f=>by rw[F.rt a f,h,P7]
  rw[e,Iu,xb]
 refine⟨⟨(K.J4.same F.b F.size F.inv F.pr),λa f=>?_,λj o i=>?_,λk d=>?_,λk w d g=>?_⟩,am⟩;rw[F.rt a f,K.rt a f,pO x F.full];lia;rw[F.full j o]at i;by_cases c:j=n;subst c;exact⟨by rw[l];simp,λk d=>by rw[F.b k d];exact t k d⟩;rw[s9 c]at i;obtain⟨r,s⟩:=K.fu j o i;exact⟨r,λk d=>by rw[F.b k d];exact s k d⟩;rw[am k d];have:=K.lo k d;by_cases c:0<T.sg n*T.w9 P n k;have:=(S.dn k d) c;grind;have:=sr S.nn (Int.not_lt.1 v5);grind;rw[F.b k d]at g;rw[am k d,F.size];have:=K.hi k w d g;by_cases c:T.sg n*T.w9 P n k<0;have:=S.up k w d c g;grind;have:=hJ S.nn (Int.not_lt.1 v5);grind
structure Move(P:Pb)(T:Tb)(a l:Nat)(g:Int)(tp:Bool)(T':Tb):Prop where
 tn:EA P T a l g T'
 full:∀j,j<P.n->T'.full j=if j=a then U' else if j=T.B l then tp else T.full j
 rt:∀p,p<P.m->T'.rt p=T.rt p+(if T.full a=Uf then uv P a*P.A a p else 0)-(if tp=Uf then uv P (T.B l)*P.A (T.B l) p else 0)
structure At(P:Pb)(T:Tb)(a l:Nat)(tp:Bool)(top bot:Int):Prop where
 dn:tp=U'->top=T.am P l/\bot=T.sg a*T.w9 P a l
 up:tp=Uf->top=uv P (T.B l)*T.size-T.am P l/\bot = -(T.sg a*T.w9 P a l)/\P.u (T.B l)≠J
noncomputable def nQ(P:Pb)(T:Tb)(a l:Nat)(top bot:Int)(k:Nat):Int:=if k=l then T.size*(if T.full a=Uf then uv P a*bot-top else top)else T.am P k*bot-T.sg a*T.w9 P a k*top
def Lq(m:Nat)(x y:Int)(f g h:Nat->Int):(sm m λk=>(x*f k-y*g k)*h k)=x*(sm m λk=>f k*h k)-y*sm m λk=>g k*h k:=by
 rw[<-L0,<-L0,<-jm];exact A6 λk _=>by grind
def Ok.zY(K:Ok P T)(t:R7 P T')(b:j<P.m)(A:At P T n j Z s x)(M:Move P T n j p Z T'){k:Nat}(f:k<P.m):(x*T.size)*T'.am P k=T'.size*nQ P T n j s x k:=by
 refine t.aH (λg i=>?_) f
 have e:(sm P.m λk=>nQ P T n j s x k*P.A (T'.B k) g)=sm P.m λk=>if k=j then T.size*(if T.full n=Uf then uv P n*x-s else s)*P.A n g else(x*T.am P k-(T.sg n*s)*T.w9 P n k)*P.A (T.B k) g:=A6 λk f=>by
  rw[M.tn.b k f];delta nQ;by_cases c:k=j;rw[t2 c,t2 c,t2 c];rw[s9 c,s9 c,s9 c];grind
 have r:(sm P.m λk=>T.w9 P n k*P.A (T.B k) g)=T.size*P.A n g:=K.J4.by (P.A n) i
 rw[e,vj _ b,Lq,K.J4.Rm i,r,M.rt g i];have l:=A.dn;have h:=A.up;rcases rF T n with ⟨o,q⟩|⟨o,q⟩<;>rw[o]<;>rw[q]at l h ⊢ <;> cases Z
 obtain⟨d,a⟩:=l rfl;simp;grind;obtain⟨d,a,_⟩:=h rfl;simp;grind;obtain⟨d,a⟩:=l rfl;simp;grind;obtain⟨d,a,_⟩:=h rfl;simp;grind
def Bh(h:0<x)(e:x*p<=x*s):p<=s:=zw e h
def Ok.move(K:Ok P T){a l:Nat}{g top bot:Int}{tp:Bool}(E:a<P.n)(H:∀k,k<P.m->T.B k≠a)(i:l<P.m)(N:g=1\/g = -1)(y:0<g*T.w9 P a l)(S:ug P T a top bot)(A:At P T a l tp top bot)(M:Move P T a l g tp T'):Ok P T':=by
 have C:=K.J4.turn E H i N y M.tn;have O:=K.J4.pos;have:=C.pos;have D:=S.pb;have am:=λk d=>K.zY C i A M (k:=k) d;have s:=H l i;have F:=M7 D O;refine⟨C,λp y=>?_,λj o f=>?_,λk d=>?_,λk w d q=>?_⟩
 . -- rights
   rw[M.rt p y,K.rt p y];have L:∃t:Tb,(∀j,j<P.n->t.full j=if j=a then U' else T.full j)/\fsum P t (λj=>P.A j p)=fsum P T (λj=>P.A j p)-(if T.full a=Uf then uv P a*P.A a p else 0):=by
    refine⟨{T with full:=λj=>if j=a then U' else T.full j},λj _=>rfl,?_⟩;cases h:T.full a;rw[pM (T:=T) λj _=>?_];simp;show(if j=a then U' else T.full j)=T.full j;split;rename_i c;rw[c,h];rfl;rw[pO E λj _=>?_];delta Tb.sg;rw[h];simp;rfl;show(if j=a then U' else T.full j)=if j=a then !T.full a else T.full j;rw[h];rfl
   obtain⟨t,x,W⟩:=L;have u:t.full (T.B l)=U':=by
    rw[x _ (K.J4.bn l i),s9 s];cases h:T.full (T.B l);rfl;exact absurd rfl ((K.fu _ (K.J4.bn l i) h).2 l i)
   have:fsum P T' (λj=>P.A j p)=fsum P t (λj=>P.A j p)+(if tp=Uf then uv P (T.B l)*P.A (T.B l) p else 0):=by
    cases tp
    . rw[pM (T:=t) λj o=>?_];simp;rw[M.full j o,x j o];by_cases c:j=a;rw[t2 c,t2 c];rw[s9 c,s9 c];split;rename_i e;rw[e];have:=u;rw[x _ (K.J4.bn l i),s9 s]at this;exact this.symm;rfl
    . rw[pO (K.J4.bn l i) λj o=>?_];delta Tb.sg;rw[u];simp;rw[M.full j o,u];by_cases c:j=a;rw[t2 c,s9 (λz=>s (by rw[<-z];exact c)),x j o,t2 c];rw[s9 c];split;rfl;rw[x j o,s9 c]
   lia
 . rw[M.full j o]at f;by_cases c:j=a;rw[t2 c]at f;exact nT f;rw[s9 c]at f;by_cases e:j=T.B l;rw[t2 e]at f;refine⟨by rw[e];exact(A.up f).2.2,λk d=>?_⟩;rw[M.tn.b k d];split;exact λz=>c z.symm;rename_i R;rw[e];exact λz=>R (K.J4.inj k l d i z);rw[s9 e]at f;obtain⟨u,I⟩:=K.fu j o f;refine⟨u,λk d=>?_⟩;rw[M.tn.b k d];split;exact λz=>c z.symm;exact I k d
 . -- from a0O on
   have Q:0<=nQ P T a l top bot k:=by
    delta nQ;by_cases c:k=l
    . rw[t2 c];refine hJ dO ?_;split
      . rename_i f;obtain⟨v,G⟩:=Option.ne_none_iff_exists'.mp (K.fu a E f).1;have:=S.own v G;have r:uv P a=v:=by delta uv;rw[G];rfl
        rw[r];simp[*]
      exact S.nn
    rw[s9 c];by_cases e:0<T.sg a*T.w9 P a k;have:=S.dn k d e;lia;have:=Qr (Int.not_lt.1 v5) S.nn;have:0<=T.am P k*bot:=hJ (K.lo k d) dO;lia
   have:0<=T'.size*nQ P T a l top bot k:=hJ dO Q;rw[<-(am k d)]at this;exact Bh F (by rw[V9];exact this)
 . have:=am k d;have V:nQ P T a l top bot k<=w*(bot*T.size):=by
    rw[M.tn.b k d]at q;delta nQ;by_cases c:k=l
    . rw[t2 c]at q ⊢;have:=S.nn;have r:uv P a=w:=by delta uv;rw[q];rfl
      have:(if T.full a=Uf then uv P a*bot-top else top)<=w*bot:=by
       split;rw[r];lia;exact(S.own w q)
      have:=jL this (dO:0<=T.size);lia
    rw[s9 c]at q ⊢;by_cases e:T.sg a*T.w9 P a k<0;have:=S.up k w d e q;grind;have:=hJ (Int.not_lt.1 v5) S.nn;have:=jM (K.hi k w d q) (dO:0<=bot);lia
   have:T'.size*nQ P T a l top bot k<=T'.size*(w*(bot*T.size)):=jL V dO;refine Bh F ?_;lia
end
def Neg(w:Nat->Int):Prop:=w 0<0\/(w 0=0/\(w 1<0\/(w 1=0/\w 2<0)))
def Neg.mul(d:0<p)(h:Neg w):Neg λt=>p*w t:=by
 have m:∀x:Int,x<0->p*x<0:=λx c=>Int.mul_neg_of_pos_of_neg d c
 rcases h with h|⟨a,h|⟨b,h⟩⟩
 exact .inl (m _ h);exact .inr ⟨by simp[a],.inl (m _ h)⟩;exact .inr ⟨by simp[a],.inr ⟨by simp[b],m _ h⟩⟩
def Neg.congr{v:Nat->Int}(e:∀t,t<3->w t=v t)(h:Neg w):Neg v:=by unfold Neg at *;rw[e 0 f5,e 1 f5,e 2 f5]at h;exact h
def Neg.qA(d:0<p)(h:Neg λt=>p*w t):Neg w:=by
 have m:∀x:Int,p*x<0->x<0:=λx a=>Int.lt_of_not_ge λz=>by
  have:=hJ dO z;lia
 have z:∀x:Int,p*x=0->x=0:=λx a=>(Int.mul_eq_zero.mp a).resolve_left M4
 rcases h with h|⟨b,h|⟨c,h⟩⟩
 exact .inl (m _ h);exact .inr ⟨z _ b,.inl (m _ h)⟩;exact .inr ⟨z _ b,.inr ⟨z _ c,m _ h⟩⟩
def Neg.add{v:Nat->Int}(h:Neg w)(k:Neg v\/∀t,t<3->v t=0):Neg λt=>w t+v t:=by
 unfold Neg at *;rcases k with k|k
 lia;have:=k 0 f5;have:=k 1 f5;have:=k 2 f5;simp[*]
def iY(h:∀t,t<3->w t=0):¬Neg w:=by delta Neg;simp[*]
def MJ(h:¬Neg w)(k:¬Neg f):¬Neg λt=>w t+f t:=by
 unfold Neg at *
 lia
def Dj(a:0<=p)(h:¬Neg w):¬Neg λt=>p*w t:=by
 rcases FQ a with a|a
 exact λz=>h (z.qA a);refine iY λt _=>?_;rw[<-a,cR]
def xR(a:0<=p)(h:Neg w):¬Neg λt=>-(p*w t):=by
 rcases FQ a with a|a
 . have:=h.mul a;unfold Neg at *
   lia
 refine iY λt _=>?_;rw[<-a,cR];rfl
theorem Vs{f:Nat->Nat->Int}:∀m,(∀r,r<m->¬Neg (f r))->¬Neg λt=>sm m λr=>f r t
 | 0,_=>iY λt _=>rfl
 |m+1,h=>MJ (Vs m λr a=>h r eS) (h m B4)
section
variable{P:Pb}{T T':Tb}
noncomputable def Tb.obj(P:Pb)(T:Tb)(t:Nat):Int:=T.size*fsum P T (P.c t)+sm P.m λk=>T.am P k*P.c t (T.B k)
def pG(L:R7 P T)(a t:Nat):(sm P.m λk=>T.w9 P a k*P.c t (T.B k))=P.c t a*T.size-T.rest P t a:=by
 have:(sm P.m λk=>T.w9 P a k*P.c t (T.B k))=dot P.m (T.pr t) (P.A a):=by rw[xI L];exact A6 λk _=>K8 _ _
 delta Tb.rest;lia
def Ok.TV(K:Ok P T)(h:n<P.n)(g:P.u n=U p)(F:KA P T n T')(am:∀k,k<P.m->T'.am P k=T.am P k-T.sg n*p*T.w9 P n k)(t:Nat):T'.obj P t=T.obj P t+p*(T.sg n*T.rest P t n):=by
 have d:uv P n=p:=by delta uv;rw[g];rfl
 have e:(sm P.m λk=>T'.am P k*P.c t (T'.B k))=(sm P.m λk=>T.am P k*P.c t (T.B k))-(T.sg n*p)*sm P.m λk=>T.w9 P n k*P.c t (T.B k):=by
  rw[<-L0,<-jm];refine A6 λk f=>?_;rw[am k f,F.b k f];grind
 delta Tb.obj;rw[e,F.size,pO h F.full,d,pG K.J4];grind
def Nu(K:Ok P T)(r:n<P.n)(t:∀k,k<P.m->T.B k≠n)(l:j<P.m)(M:Move P T n j p Z T')(f:Nat->Int):fsum P T' f=fsum P T f-(if T.full n=Uf then uv P n*f n else 0)+(if Z=Uf then uv P (T.B j)*f (T.B j)else 0):=by
 have b:=t j l;have d:=K.J4.bn j l;have q:T.full (T.B j)=U':=by
  cases h:T.full (T.B j);rfl;exact absurd rfl ((K.fu _ d h).2 j l)
 delta fsum;have e:(sm P.n λa=>if T'.full a=Uf then uv P a*f a else 0)=sm P.n λa=>((if T.full a=Uf then uv P a*f a else 0)+(if a=n then -(if T.full n=Uf then uv P n*f n else 0)else 0))+(if a=T.B j then(if Z=Uf then uv P (T.B j)*f (T.B j)else 0)else 0):=A6 λa v=>by
  rw[M.full a v];by_cases c:a=n;have o:a≠T.B j:=λz=>b (by rw[<-z];exact c);simp;lia;by_cases o:a=T.B j;rw[o]at *;simp[b,q];simp[c,o]
 have s:(sm P.n λa=>if a=n then -(if T.full n=Uf then uv P n*f n else 0)else 0) = -(if T.full n=Uf then uv P n*f n else 0):=by rw[W8 r (λi _ h=>by rw[s9 h]),t2 rfl]
 have u:(sm P.n λa=>if a=T.B j then(if Z=Uf then uv P (T.B j)*f (T.B j)else 0)else 0)=(if Z=Uf then uv P (T.B j)*f (T.B j)else 0):=by rw[W8 d (λi _ h=>by rw[s9 h]),t2 rfl]
 rw[e,jn,jn,s,u];rfl
def Ok.Tf(K:Ok P T)(r:n<P.n)(g:∀k,k<P.m->T.B k≠n)(h:j<P.m)(u:R7 P T')(A:At P T n j Z s x)(M:Move P T n j p Z T')(t:Nat):(x*T.size)*T'.obj P t=T'.size*(x*T.obj P t+s*(T.sg n*T.rest P t n)):=by
 have q:((x*T.size)*sm P.m λk=>T'.am P k*P.c t (T'.B k))=T'.size*sm P.m λk=>if k=j then T.size*(if T.full n=Uf then uv P n*x-s else s)*P.c t n else(x*T.am P k-(T.sg n*s)*T.w9 P n k)*P.c t (T.B k):=by
  rw[<-L0,<-L0];refine A6 λk o=>?_;rw[<-P7,K.zY u h A M o,M.tn.b k o];delta nQ;by_cases c:k=j;rw[t2 c,t2 c,t2 c,P7];rw[s9 c,s9 c,s9 c];grind
 rw[vj _ h,Lq,pG K.J4]at q;delta Tb.obj;rw[jT,q,Nu K r g h M];have d:=A.dn;have f:=A.up;rcases rF T n with ⟨l,a⟩|⟨l,a⟩<;>rw[l]<;>rw[a]at d f ⊢ <;> cases Z
 obtain⟨e,i⟩:=d rfl;simp;grind;obtain⟨e,i,_⟩:=f rfl;simp;grind;obtain⟨e,i⟩:=d rfl;simp;grind;obtain⟨e,i,_⟩:=f rfl;simp;grind
def cmp(P:Pb)(T' T:Tb)(t:Nat):Int:=T'.obj P t*T.size-T.obj P t*T'.size
def ub{T2:Tb}(t:Nat):T'.size*cmp P T2 T t=T.size*cmp P T2 T' t+T2.size*cmp P T' T t:=by delta cmp;grind
def Hq(L:R7 P T)(e:R7 P T')(d:∀n,n<P.m->T'.B n=T.B n)(b:∀p,p<P.m->T'.rt p=T.rt p)(c:n<P.m):T.size*T'.am P n=T'.size*T.am P n:=by
 refine e.aH (λp a=>?_) c
 rw[b p a,<-L.Rm a];exact A6 λi f=>by rw[d i f]
def Ho(K:Ok P T)(K':Ok P T')(b:∀j,j<P.n->T'.full j=T.full j)(a:n<P.m):T'.rt n=T.rt n:=by rw[K.rt n a,K'.rt n a,pM b]
def Rj(K:Ok P T)(K':Ok P T')(b:∀k,k<P.m->T'.B k=T.B k)(d:∀j,j<P.n->T'.full j=T.full j)(t:Nat):cmp P T' T t=0:=by
 have:(T.size*sm P.m λk=>T'.am P k*P.c t (T'.B k))=T'.size*sm P.m λk=>T.am P k*P.c t (T.B k):=by
  rw[<-L0,<-L0];refine A6 λk a=>?_;rw[<-P7,Hq K.J4 K'.J4 b (λp e=>Ho K K' d e) a,b k a,P7]
 delta cmp Tb.obj;rw[pM d];grind
structure R3(P:Pb)(T:Tb)(a:Nat):Prop where
 an:a<P.n
 u0:P.u a≠U 0
 neg:Neg λt=>T.sg a*T.rest P t a
def R3.nb(E:R3 P T a)(L:R7 P T):∀k,k<P.m->T.B k≠a:=λk b z=>by
 refine iY (λt _=>?_) E.neg;rw[<-z,L.Jc b,V9]
inductive Step(P:Pb)(T:Tb)(a:Nat)(top:Int)(T':Tb):Prop
 |flip {v}:P.u a=U v->top=v->ug P T a v 1->KA P T a T'->Step P T a top T'
 |move {l g tp bot}:l<P.m->(g=1\/g = -1)->0<g*T.w9 P a l->ug P T a top bot->At P T a l tp top bot->Move P T a l g tp T' ->
   (top=0->∀k,k<P.m->(0<T.sg a*T.w9 P a k/\T.am P k=0)\/(T.sg a*T.w9 P a k<0/\∃v,P.u (T.B k)=U v/\T.am P k=v*T.size)->T.B l<=T.B k)->Step P T a top T'
def Step.ok(S:Step P T a top T')(K:Ok P T)(E:R3 P T a):Ok P T':=by
 cases S with
 |flip d g b F=>exact(K.flip E.an (E.nb K.J4) d b F).1
 |move c f e b A M _=>exact K.move E.an (E.nb K.J4) c f e b A M
theorem Step.nn(S:Step P T a top T'):0<=top:=by
 cases S with
 |flip e c b F=>rw[c];exact b.nn
 |move d g f b A M _=>exact b.nn
set_option tactic.hygienic true in
def Step.a3d(S:Step P T a top T')(K:Ok P T)(E:R3 P T a):(0<top->Neg (cmp P T' T))/\(top=0->∀t,cmp P T' T t=0):=by
 have e:∃q:Int,(0<top->0<q)/\(top=0->q=0)/\∃d:Int,0<d/\∀t,d*cmp P T' T t=q*(T.sg a*T.rest P t a):=by
  cases S with
  |flip k m b F =>
   rename_i v;refine⟨top*T.size,λh=>M7 h K.J4.pos,λh=>by rw[h,cR],1,by decide,λt=>?_⟩;delta cmp;rw[(K.TV E.an k F (K.flip E.an (E.nb K.J4) k b F).2) t,F.size,m];grind
  | @move l g s c j r o b A M u =>
   have f:=K.move E.an (E.nb K.J4) j r o b A M;refine⟨T'.size*top,λh=>M7 f.J4.pos h,λh=>by rw[h,V9],c,b.pb,λt=>?_⟩;have:=K.Tf E.an (E.nb K.J4) j f.J4 A M t;delta cmp;grind
 obtain⟨q,p,q2,d,n,i⟩:=e;constructor;exact λh=>Neg.qA n ((E.neg.mul (p h)).congr λt _=>(i t).symm);intro h t;have:=i t;rw[q2 h,cR]at this;exact(Int.mul_eq_zero.mp this).resolve_left M4
end
def a0m:∀(N:Nat) (f:Nat->Nat),(∀i,i<=N->f i<N)->∃p q,p<q/\q<=N/\f p=f q:=by
 intro l_;induction l_ with
 |zero =>
  intro f h;exact absurd (h 0 F3) (mm _)
 |succ N ih_ =>
  intro f h;by_cases c:∃p,p<=N/\f p=f (N+1);obtain⟨p,d,b⟩:=c;exact⟨p,N+1,zc v5,X6 _,b⟩
  . have a:=λp j z=>c ⟨p,j,z⟩
    obtain⟨p,q,d,b,e⟩:=ih_ (λi=>if f i=N then f (N+1)else f i) λi g=>by have:=h i (uI v5);have:=h (N+1) F3;have:=a i g;split<;>lia
    refine⟨p,q,d,uI v5,?_⟩;have:=a p (C3 el v5);have:=a q b;split at e<;>split at e<;>lia
def enc(b:Nat)(f:Nat->Nat):Nat->Nat
 | 0=>0
 |k+1=>enc b f k*b+f k
def yq:∀k,(∀i,i<k->Y i<n)->enc n Y k<n ^ k:=by
 intro l_;induction l_ with
 |zero =>
  intro _;simp[enc]
 |succ k ih_ =>
  intro h;have:=h k B4;rw[enc,EK];have:(enc n Y k+1)*n<=n ^ k*n:=pj _ (ih_ λi a=>h i eS);lia
def Ir:∀k,(∀i,i<k->Y i<n)->(∀i,i<k->X i<n)->enc n Y k=enc n X k->∀i,i<k->Y i=X i:=by
 intro l_;induction l_ with
 |zero =>
  intro _ _ _ i a;exact nt
 |succ k ih_ =>
  intro hf hg e i a;rw[enc,enc]at e;have j:=hf k B4;have d:Y k=X k:=by have:=D3 (· % n) e;rw[Nat.add_mod,OH,qS,Nat.mod_mod,OG j,Nat.add_mod,OH,qS,Nat.mod_mod,OG (hg k B4)]at this;exact this
  by_cases c:i=k;rw[c];exact d
  . refine ih_ (λi a=>hf i eS) (λi a=>hg i eS) ?_ i (pa (ri v5) v5)
    have h:0<n:=by lia
    exact Nat.eq_of_mul_eq_mul_right h (by simp_all)
structure Chain(P:Pb) where
 T:Nat->Tb
 a:Nat->Nat
 top:Nat->Int
 cf:Nat->Bool
structure Chain.Ok{P:Pb}(C:Chain P):Prop where
 ok:∀i,Sx.Ok P (C.T i)
 en:∀i,R3 P (C.T i) (C.a i)
 cr:∀i,C.cf i=Uf->∀j,j<C.a i->¬R3 P (C.T i) j
 st:∀i,Step P (C.T i) (C.a i) (C.top i) (C.T (i+1))
 cn:∀i,C.cf (i+1)=Uf↔C.top i=0
def jH(P:Pb)(T:Tb)(j:Nat):Prop:=∃k,k<P.m/\T.B k=j
structure Bd(P:Pb)(T:Tb)(j:Nat)(τ:Bool):Prop where
 b:∀k,k<P.m->T.B k=j->T.am P k=if τ=Uf then uv P j*T.size else 0
 n:¬jH P T j->T.full j=τ
def good(P:Pb)(j:Nat)(τ:Bool):Prop:=uv P j≠0\/(P.u j=J/\τ=U')
section
variable{T:Tb}
def Bd.move{P:Pb}{T':Tb}{a:Nat}{l:Nat}{j:Nat}{g:Int}{bot:Int}{tp:Bool}{τ:Bool}(K:Ok P T)(K':Ok P T')(s:j<P.n)(t:a<P.n)(r:∀k,k<P.m->T.B k≠a)(o:l<P.m)(i:0<bot)(A:At P T a l tp 0 bot)(M:Move P T a l g tp T')(G:good P j τ)(B:Bd P T j τ):Bd P T' j τ:=by
 have p:=M7 i K.J4.pos;constructor
 . intro k d e;have am:=K.zY K'.J4 o A M d;rw[M.tn.b k d]at e;unfold nQ at am;by_cases c:k=l
   . rw[t2 c]at e am;subst e;have nb:¬jH P T a:=λ⟨k,d,z⟩=>r k d z
     have:=B.n nb;refine gd p ?_;cases τ<;>simp<;>grind
   . rw[s9 c]at e am;have:=B.b k d e;refine gd p ?_;cases τ<;>simp<;>grind
 . intro nb;rw[M.full j s];by_cases c:j=a;exact absurd ⟨l,o,by rw[M.tn.b l o,t2 rfl,c]⟩ nb
   . rw[s9 c];by_cases h:j=T.B l
     . rw[t2 h];have f:=B.b l o h.symm;cases tp with
       |false =>
        have e:=(A.dn rfl).1;cases τ with
        |false=>rfl
        |true =>
         rw[<-e,t2 rfl]at f;rcases G with G|G
         have:=Int.mul_eq_zero.mp f.symm;lia;cases G.2
       |true =>
        obtain⟨e,_,q⟩:=A.up rfl;cases τ with
        |true=>rfl
        |false =>
         rw[f]at e;rcases G with G|G
         rw[<-h,s9 f5,ur]at e;have:=Int.mul_eq_zero.mp e.symm;lia;rw[<-h]at q;exact absurd G.1 q
     rw[s9 h];refine B.n λ⟨k,d,e⟩=>nb ⟨k,d,?_⟩;rw[M.tn.b k d,s9 λz=>h (by rw[<-e,z]),e]
def Bd.same(K:Ok c T)(K':Ok c b)(f:j<c.n)(P:∀k,k<c.m->b.B k=T.B k)(d:∀j,j<c.n->b.full j=T.full j)(B:Bd c T j Z):Bd c b j Z:=by
 constructor
 . intro k a e;rw[P k a]at e;have g:=Hq K.J4 K'.J4 P (λp h=>Ho K K' d h) a
   rw[B.b k a e]at g;refine gd K.J4.pos ?_;cases Z<;>simp<;>grind
 intro nb;rw[d j f];exact B.n λ⟨k,a,e⟩=>nb ⟨k,a,by rw[P k a];exact e⟩
def Rn(L:R7 c T)(a:R7 c b)(s t:Nat):T.size*b.rest c t s=b.size*T.rest c t s+sm c.m λr=>-(b.w9 c s r*T.rest c t (b.B r)):=by
 have d:(sm c.m λr=>b.w9 c s r*dot c.m (T.pr t) (c.A (b.B r)))=b.size*dot c.m (T.pr t) (c.A s):=by rw[<-Az,<-xb];exact lR (λ_ _=>rfl) λp e=>a.by (c.A s) e
 have P:(sm c.m λr=>-(b.w9 c s r*T.rest c t (b.B r)))=(sm c.m λr=>b.w9 c s r*dot c.m (T.pr t) (c.A (b.B r)))-T.size*sm c.m λr=>b.w9 c s r*c.c t (b.B r):=by
  rw[<-L0,<-jm];refine A6 λr _=>?_;delta Tb.rest;grind
 rw[P,d,(pG a s t)];delta Tb.rest;grind
end
structure Zero(P:Pb)(T:Tb)(a:Nat)(T':Tb)(l:Nat)(tp:Bool)(bot:Int):Prop where
 hl:l<P.m
 pb:0<bot
 at_:At P T a l tp 0 bot
 mv:∃g,Move P T a l g tp T'
 Zi:∀k,k<P.m->(0<T.sg a*T.w9 P a k/\T.am P k=0)\/(T.sg a*T.w9 P a k<0/\∃v,P.u (T.B k)=U v/\T.am P k=v*T.size)->T.B l<=T.B k
def Step.zero{T':Tb}(S:Step c b n 0 T')(E:R3 c b n):∃l tp bot,Zero c b n T' l tp bot:=by
 cases S with
 |flip f P T F=>exact absurd rfl (by have:=E.u0;rw[f,<-P]at this;exact this)
 | @move l g tp bot d i h T A M e=>exact⟨l,tp,bot,d,T.pb,A,⟨g,M⟩,e rfl⟩
section
variable{T:Tb}
def Zero.a3m(a:Zero c T n b m Z p)(h:jH c b j)(nb:¬jH c T j):j=n:=by
 obtain⟨g,M⟩:=a.mv;obtain⟨k,d,e⟩:=h;rw[M.tn.b k d]at e;by_cases P:k=m;rw[t2 P]at e;exact e.symm;rw[s9 P]at e;exact absurd ⟨k,d,e⟩ nb
def Zero.a1O(a:Zero c T n b m Z p)(h:jH c T j)(nb:¬jH c b j):j=T.B m:=by
 obtain⟨g,M⟩:=a.mv;obtain⟨k,d,e⟩:=h;by_cases P:k=m;rw[<-P];exact e.symm;exact absurd ⟨k,d,by rw[M.tn.b k d,s9 P];exact e⟩ nb
end
def kB{Q:Nat->Prop}(a:Q n)(hs:∀i,n<=i->i<j->Q i->Q (i+1)):∀i,n<=i->i<=j->Q i:=by
 intro i d hq;induction i with
 |zero =>
  have:n=0:=by lia
  rw[<-this];exact a
 |succ i b =>
  by_cases c:n=i+1;rw[<-c];exact a;exact hs i u3 v5 (b u3 el)
def SV{C:Chain c}(H:C.Ok){p:Nat}(hpq:p<n)(hz:∀i,p<=i->i<n->C.top i=0)(hc:∀i,p<=i->i<n->C.cf i=Uf)(hb:∀k,k<c.m->(C.T n).B k=(C.T p).B k)(hf:∀j,j<c.n->(C.T n).full j=(C.T p).full j):False:=by
 have zs:=λi y A=>by have s:=H.st i;rw[hz i y A]at s;exact s.zero (H.en i)
 have Y:∀i,¬jH c (C.T i) (C.a i):=λi ⟨k,I,e⟩=>(H.en i).nb (H.ok i).J4 k I e;have bpq:∀j,jH c (C.T n) j↔jH c (C.T p) j:=λj=>⟨λ⟨k,I,e⟩=>⟨k,I,by rw[<-hb k I];exact e⟩,λ⟨k,I,e⟩=>⟨k,I,by rw[hb k I];exact e⟩⟩
 have fick:∀j i k,p<=i->i<=n->p<=k->k<=n->¬jH c (C.T i) j->jH c (C.T k) j->∃V,p<=V/\V<n/\C.a V=j:=λj i k F L hk1 hk2 nb bk=>by
  apply uP;intro no;have R:∀x,p<=x->x<n->¬jH c (C.T x) j->¬jH c (C.T (x+1)) j:=λx y A E h4=>by obtain⟨l,N,bot,Z⟩:=zs x y A;exact no ⟨x,y,A,(Z.a3m h4 E).symm⟩
  exact kB (λz=>(kB nb (λx y A E=>R x u3 A E) n L F3) ((bpq j).mpr z)) (λx y A E=>R x y A E) k hk1 hk2 bk
 have mx:∃i1,p<=i1/\i1<n/\∀i,p<=i->i<n->C.a i<=C.a i1:=by
  have:∀d,p+d<n->∃i1,p<=i1/\i1<=p+d/\∀i,p<=i->i<=p+d->C.a i<=C.a i1:=by
   intro d;induction d with
   |zero =>
    intro _;refine⟨p,X6 _,by simp[*],λi y A=>?_⟩
    have:i=p:=by lia
    rw[this];exact X6 _
   |succ d ih =>
    intro hd;obtain⟨i1,y,A,E⟩:=ih el;by_cases P:C.a (p+(d+1))<=C.a i1;refine⟨i1,y,uI v5,λi K O=>?_⟩;by_cases e:i=p+(d+1);rw[e];exact P;exact E i K u3;refine⟨p+(d+1),by simp[*],X6 _,λi K O=>?_⟩;by_cases e:i=p+(d+1);rw[e];exact X6 _;have:=E i K u3;lia
  obtain⟨i1,y,A,E⟩:=this (n-1-p) U1;exact⟨i1,y,by omega,λi K O=>E i K U1⟩
 obtain⟨i1,F,S,W⟩:=mx;have lv:∃o l N bot,p<=o/\o<n/\Zero c (C.T o) (C.a o) (C.T (o+1)) l N bot/\(C.T o).B l=C.a i1:=by
  apply uP;intro no;have R:=λx y A E=>by apply uP;intro h4;obtain⟨l,N,bot,Z⟩:=zs x y A;exact no ⟨x,l,N,bot,y,A,Z,(Z.a1O E h4).symm⟩
  obtain⟨l,N,bot,Z⟩:=zs i1 F S;obtain⟨g,M⟩:=Z.mv;have b1:jH c (C.T (i1+1)) (C.a i1):=⟨l,Z.hl,by rw[M.tn.b l Z.hl,t2 rfl]⟩;exact Y i1 (kB (Q:=λx=>jH c (C.T x) (C.a i1)) ((bpq _).mp (kB (Q:=λx=>jH c (C.T x) (C.a i1)) b1 (λx y A E=>R x (fA (pd v5 v5)) A E) n v5 F3)) (λx y A E=>R x y A E) i1 F el)
 obtain⟨o,l,N,bot,L,X,Z,hl⟩:=lv;have bd:∀i,p<=i->i<n->good c (C.a i) ((C.T i).full (C.a i))/\∀x,p<=x->x<=n->Bd c (C.T x) (C.a i) ((C.T i).full (C.a i)):=λi y A=>by
  have hn:=(H.en i).an;have G:good c (C.a i) ((C.T i).full (C.a i)):=by
   cases e:c.u (C.a i)with
   |none =>
    refine .inr ⟨e,?_⟩;cases f:(C.T i).full (C.a i);rfl;exact absurd e ((H.ok i).fu _ hn f).1
   |some v =>
    refine .inl λz=>(H.en i).u0 ?_;unfold uv at z;rw[e]at z;have z':v=0:=z;rw[e,z']
  have R:∀x,p<=x->x<n->Bd c (C.T x) (C.a i) ((C.T i).full (C.a i))->Bd c (C.T (x+1)) (C.a i) ((C.T i).full (C.a i)):=λx K O B=>by obtain⟨l,N,bot,Z⟩:=zs x K O;obtain⟨g,M⟩:=Z.mv;exact B.move (H.ok x) (H.ok (x+1)) hn (H.en x).an ((H.en x).nb (H.ok x).J4) Z.hl Z.pb Z.at_ M G
  have B0:Bd c (C.T i) (C.a i) ((C.T i).full (C.a i)):=⟨λk I e=>absurd ⟨k,I,e⟩ (Y i),λ_=>rfl⟩;exact⟨G,kB ((kB B0 (λx K O g3=>R x (C3 v5 v5) O g3) n el F3).same (H.ok n) (H.ok p) hn (λk I=>(hb k I).symm) λj hj=>(hf j hj).symm) R⟩
 have K1:=H.ok i1;have K2:=H.ok o;have tb2:jH c (C.T o) (C.a i1):=⟨l,Z.hl,hl⟩;have sne:C.a o≠C.a i1:=λz=>Y o (by rw[z];exact tb2)
 have nn1:=λi K O ne h=>by have:=W i K O;exact(H.cr i1 (hc i1 F S)) (C.a i) (pa v5 v5) ⟨(H.en i).an,(H.en i).u0,h⟩
 refine absurd (((H.en o).neg.mul K1.J4.pos).congr (v:=λt=>(C.T o).size*((C.T o).sg (C.a o)*(C.T i1).rest c t (C.a o))+sm c.m λr=>-(((C.T o).sg (C.a o)*(C.T o).w9 c (C.a o) r)*(C.T i1).rest c t ((C.T o).B r))) λt _=>?_) (MJ (Dj (by have:=K2.J4.pos;exact dO) ?_) (Vs c.m λr hr=>?_))
 . have:=(Rn K1.J4 K2.J4 (C.a o)) t;have:(sm c.m λr=>-(((C.T o).sg (C.a o)*(C.T o).w9 c (C.a o) r)*(C.T i1).rest c t ((C.T o).B r)))=(C.T o).sg (C.a o)*sm c.m λr=>-((C.T o).w9 c (C.a o) r*(C.T i1).rest c t ((C.T o).B r)):=by
    rw[<-L0];refine A6 λr _=>?_;grind
   grind
 . -- the entering one
   by_cases P:jH c (C.T i1) (C.a o)
   . obtain⟨k,I,e⟩:=P;exact iY λt _=>by rw[<-e,K1.J4.Jc I,V9]
   . have f2:=((bd o L X).2 i1 F el).n P;have:(C.T o).sg (C.a o)=(C.T i1).sg (C.a o):=by delta Tb.sg;rw[f2]
     rw[this];exact nn1 o L X sne
 . -- the chosen ones
   by_cases P:jH c (C.T i1) ((C.T o).B r)
   . obtain⟨k,I,e⟩:=P;exact iY λt _=>by rw[<-e,K1.J4.Jc I,V9];rfl
   . obtain⟨V,K,O,g3⟩:=fick ((C.T o).B r) i1 o F el L el P ⟨r,hr,rfl⟩;obtain⟨G,B⟩:=bd V K O;rw[g3]at G B;generalize hτ:(C.T V).full ((C.T o).B r)=τ at G B;have f1:=(B i1 F el).n P;have am:=(B o L el).b r hr rfl;by_cases ct:(C.T o).B r=C.a i1
     . -- the greatest
       have erl:=K2.J4.inj r l hr Z.hl (by rw[ct,hl])
       subst erl;have:=Z.pb;have dn:=Z.at_.dn;have R:=Z.at_.up;have etp:τ=N:=by
        cases N with
        |false =>
         cases τ with
         |false=>rfl
         |true =>
          have:=(dn rfl).1;rw[am,t2 rfl]at this;rcases G with G|G
          have:=Int.mul_eq_zero.mp this.symm;have:=K2.J4.pos;lia;cases G.2
        |true =>
         cases τ with
         |true=>rfl
         |false =>
          obtain⟨y,_,A⟩:=R rfl;rw[am]at y;rcases G with G|G
          rw[s9 f5,ur]at y;have:=Int.mul_eq_zero.mp y.symm;have:=K2.J4.pos;lia;exact absurd G.1 A
       have sg1:(C.T i1).sg ((C.T o).B r)=if N=Uf then -1 else 1:=by delta Tb.sg;rw[f1,etp]
       have ng:Neg λt=>(C.T i1).sg ((C.T o).B r)*(C.T i1).rest c t ((C.T o).B r):=by have:=(H.en i1).neg;rw[<-ct]at this;exact this
       rw[sg1]at ng;cases N with
       |false =>
        have:=xR (p:=(C.T o).sg (C.a o)*(C.T o).w9 c (C.a o) r) u3 ng;simp at this;exact this
       |true =>
        have:=xR (p:=-((C.T o).sg (C.a o)*(C.T o).w9 c (C.a o) r)) u3 ng;refine λz=>this (z.congr λt _=>?_);grind
     . have:(C.T o).B r<C.a i1:=by
         have:=W V K O;lia
       have hn:=nn1 V K O (by rw[g3];exact ct)
       have Zi:=Z.Zi r hr;cases τ with
       |false =>
        have:(C.T i1).sg ((C.T o).B r)=1:=by delta Tb.sg;rw[f1];rfl
        have:=Dj (p:=-((C.T o).sg (C.a o)*(C.T o).w9 c (C.a o) r)) u3 hn;refine λz=>this (z.congr λt _=>?_);grind
       |true =>
        have:(C.T i1).sg ((C.T o).B r) = -1:=by delta Tb.sg;rw[f1];rfl
        have:¬(C.T o).sg (C.a o)*(C.T o).w9 c (C.a o) r<0:=λz=>by
         obtain⟨v,hv⟩:=Option.ne_none_iff_exists'.mp ((K1.fu _ (K2.J4.bn r hr) f1).1);have euv:uv c ((C.T o).B r)=v:=by delta uv;rw[hv];rfl
         have:=Zi (.inr ⟨z,v,hv,by rw[am,t2 rfl,euv]⟩);lia
        have:=Dj (Int.not_lt.1 v5) hn;refine λz=>this (z.congr λt _=>?_);grind
def SW{P:Pb}{C:Chain P}(H:C.Ok):False:=by
 have y:=λi k l=>(H.ok i).J4.bn k l
 let f:=λi j=>if (C.T i).full j=Uf then 1 else 0
 have o:∀i j,j<P.n->f i j<2:=λi j _=>by dsimp only[f];split<;>simp[*]
 let b:=λi=>(enc P.n (C.T i).B P.m*2 ^ P.n+enc 2 (f i) P.n)*2+(if C.cf i=Uf then 1 else 0)
 have l:∀i,b i<(P.n ^ P.m*2 ^ P.n)*2:=λi=>by have r:=yq P.m (y i);have u:=yq P.n (o i);have:(enc P.n (C.T i).B P.m+1)*2 ^ P.n<=P.n ^ P.m*2 ^ P.n:=pj _ r;dsimp only[b];split<;>lia
 obtain⟨p,q,x,_,e⟩:=a0m _ b λi _=>l i
 dsimp only[b]at e;have s:(enc P.n (C.T p).B P.m*2 ^ P.n+enc 2 (f p) P.n)=(enc P.n (C.T q).B P.m*2 ^ P.n+enc 2 (f q) P.n)/\(C.cf p=C.cf q):=by cases hp:C.cf p<;>cases hq:C.cf q<;>rw[hp,hq]at e<;>simp only[mD]at e<;>first|exact⟨by lia,rfl⟩|(exfalso;lia)
 obtain⟨s,Y⟩:=s;have R:0<2 ^ P.n:=Nat.two_pow_pos _;have G:enc P.n (C.T p).B P.m=enc P.n (C.T q).B P.m:=by have:=D3 (· / 2 ^ P.n) s;rw[uu,Nat.mul_add_div R,OF (yq P.n (o p)),uu,Nat.mul_add_div R,OF (yq P.n (o q))]at this;omega
 have V:enc 2 (f p) P.n=enc 2 (f q) P.n:=by rw[G]at s;simp_all
 have K:=λk l=>(Ir P.m (y p) (y q) G k l).symm
 have F:∀j,j<P.n->(C.T q).full j=(C.T p).full j:=λj hj=>by have:=Ir P.n (o p) (o q) V j hj;dsimp only[f]at this;cases r:(C.T p).full j<;>cases u:(C.T q).full j<;>rw[r,u]at this<;>simp at this<;>rfl
 have w:=λi=>(H.st i).a3d (H.ok i) (H.en i);have nn:=λi=>(H.st i).nn
 have le:∀d i,Neg (cmp P (C.T (i+d)) (C.T i))\/∀t,t<3->cmp P (C.T (i+d)) (C.T i) t=0:=by
  intro d;induction d with
  |zero=>intro i;exact .inr λt _=>by delta cmp;simp
  |succ d I =>
   intro i;have E:=λt=>ub (P:=P) (T:=C.T i) (T':=C.T (i+d)) (T2:=C.T (i+d+1)) t;have L:=(H.ok (i+d)).J4.pos;have S:=(H.ok (i+d+1)).J4.pos;by_cases c:0<C.top (i+d)
   . refine .inl (Neg.qA L (Neg.congr (λt _=>(E t).symm) (Neg.add (((w (i+d)).1 c).mul ((H.ok i).J4.pos)) ?_)))
     rcases I i with h|h
     exact .inl (h.mul S)
     . exact .inr λt g=>by rw[h t g,V9]
   . have z:=(w (i+d)).2 (by have:=nn (i+d);lia)
     rcases I i with h|h
     refine .inl (Neg.qA L (Neg.congr (λt _=>?_) (h.mul S)));have:=E t;rw[z t,V9,X7]at this;exact this.symm;refine .inr λt g=>?_;have:=E t;rw[z t,h t g,V9,V9,X7]at this;exact(Int.mul_eq_zero.mp this).resolve_left M4
 have a:∀i,p<=i->i<q->C.top i=0:=λi r u=>by
  apply uP;intro c;have X:0<C.top i:=by have:=nn i;lia
  have O:=le (i-p) p;rw[show p+(i-p)=i from by simp[*]]at O;have N:=le (q-(i+1)) (i+1);rw[show i+1+(q-(i+1))=q from Nat.add_sub_of_le v5]at N
  have Q:=(H.ok p).J4.pos;have M:=(H.ok (i+1)).J4.pos;have Z:Neg (cmp P (C.T (i+1)) (C.T p)):=by
   refine Neg.qA ((H.ok i).J4.pos) (Neg.congr (λt _=>((λt=>ub t) t).symm) (Neg.add (((w i).1 X).mul Q) ?_))
   rcases O with h|h
   exact .inl (h.mul M)
   . exact .inr λt g=>by rw[h t g,V9]
  have W:Neg (cmp P (C.T q) (C.T p)):=by
   refine Neg.qA M (Neg.congr (λt _=>?_) (Neg.add (Z.mul ((H.ok q).J4.pos)) (v:=λt=>(C.T p).size*cmp P (C.T q) (C.T (i+1)) t) ?_));rw[(λt=>ub (T':=C.T (i+1)) t) t];exact Int.add_comm _ _
   . rcases N with h|h
     exact .inl (h.mul Q)
     . exact .inr λt g=>by rw[h t g,V9]
  exact iY (λt _=>Rj (H.ok p) (H.ok q) K F t) W
 have A:C.cf q=Uf:=by
  have:=(H.cn (q-1)).mpr (a (q-1) u3 u3);rw[show q-1+1=q from by lia]at this;exact this
 have D:∀i,p<=i->i<q->C.cf i=Uf:=λi r u=>by
  by_cases c:i=p;rw[c,Y];exact A;have:=(H.cn (i-1)).mpr (a (i-1) u3 (Nat.sub_lt_of_lt v5));rw[show i-1+1=i from by lia]at this;exact this
 exact SV H x a D K F
end Sx
namespace L2
open PySem PySem.Spec PyProof.Rows
def xU:FV:=d1 fun
 | .list l=>(intsOf l).bind λis=>is.min?.bind λm=>sd (.int m)
 |_=>J
def Jf(K:y7):List V->Hp->VK->Prop:=λxs H Q=>∃(p:Addr) (ns:List Int) (m:Int),xs=[.ref p]/\N5 K H p (ns.map V.int)/\ns.min? = U m/\Q (.int m) H
def NZ{X:Cx}(f:X.A.handled=J):ae X (.builtin "min") (Jf X.K):=by
 intro d s t H z v Q I r h;obtain⟨p,a,m,rfl,hq,hm,q⟩:=h;obtain⟨u,rfl,g⟩:=vals1 r;cases g;obtain⟨i,n,k,x⟩:=I.list hq;have c:=ji n;obtain⟨j,e⟩:=c.allInts.items;have b:=k.isList;rw[e]at b;have o:j.toList.map (·.1)=a:=by rw[<-nums_intItems,<-e];exact c.numsOf
 obtain⟨m1,m2⟩:=List.min?_eq_some_iff.mp hm;have hz:0<j.size:=by
  cases a with
  |nil=>cases hm
  |cons y w=>have:=D3 mh o;simp at this;omega
 refine min_intList f b hz λy w l hv hk=>?_
 obtain⟨t',rfl⟩:=intItems_at hv;obtain⟨h1,h2⟩:=argBest_lt (numAt j) (j.size-1);have A:numAt j (argBest (λi k=>decide (numAt j i<numAt j k)) (j.size-1))=m:=by
  refine uE ?_ (m2 _ ?_);obtain⟨k,hk,e1⟩:=mem_getD (o▸m1);rw[E7,uL]at hk;rw[<-e1,<-numAt_eq];exact h2 k (by omega);rw[numAt_eq,o];exact getD_mem (by rw[<-o,E7,uL];omega)
 rw[A];exact⟨.int m,H,I.kept hk,⟨_,rfl⟩,q⟩
def YM{K:y7}:oG K (Jf K) xU:=.one λO m H x k pv Q D g b q=>by
 cases g with
 |lst d h =>
  obtain⟨c,e,b⟩:=t4 b;obtain⟨y,e2,b⟩:=t4 b;cases b;cases h.ints e;exact⟨_,c,y,rfl,B5.seq d,e2,q _ H (v8.refl H) (Dt.int _)⟩
 |_=>exact nE b
end L2
namespace Law
open PySem L2
section
abbrev v9:=t6 0
abbrev z6:=t6 1
abbrev E2:=t6 2
abbrev J5:=t6 3
abbrev L1:=t6 4
abbrev P9:=t6 5
abbrev bG:=t6 6
abbrev fI:=t6 7
abbrev jo:=t6 8
abbrev AO:=t6 9
abbrev qh:=t6 10
abbrev iE:=t6 11
abbrev D7:=fC (.int 0)
abbrev B2:=fC (.int 1)
abbrev R6:=fC (.int 2)
abbrev jx:=fC (.int 3)
abbrev om:=fC (.int 4)
abbrev tJ:=fC (.int 5)
abbrev Dh:=fC (.int 6)
abbrev zU:=fC (.int 13)
abbrev cA:=fC .none
abbrev D5(a:DV):=f6 a u5
abbrev y8(a b:DV):=f6 a (f6 b u5)
abbrev T7(a b c:DV):=f6 a (f6 b (f6 c u5))
abbrev pS(a b c d:DV):=f6 a (f6 b (f6 c (f6 d u5)))
abbrev Ex(a b c d e:DV):=f6 a (f6 b (f6 c (f6 d (f6 e u5))))
abbrev ar6(a b c d e f:DV):=f6 a (f6 b (f6 c (f6 d (f6 e (f6 f u5)))))
abbrev t7:=u4 E5
abbrev D4:=u4 R5
abbrev N8:f7:=(.tuple [(.int 0),(.int 1)])
abbrev gk:f7:=(.tuple [(.int 0),(.int 1),(.int 2)])
abbrev K0:f7:=(.tuple [(.int 0),(.int 1)])
abbrev oA:f7:=(.tuple [(.tuple [(.int 0),(.int 1)]),(.tuple [(.int 0),(.int 1)]),(.tuple [(.int 0),(.int 1)])])
abbrev Eu:f7:=(.tuple [(.tuple [(.int 1),(.int 1)]),(.tuple [(.int 0),(.int 1)]),(.tuple [(.int 0),(.int 1)])])
abbrev xh:f7:=(.tuple [(.tuple [(.int 0),(.int 1)]),(.tuple [(.int 1),(.int 1)]),(.tuple [(.int 0),(.int 1)])])
abbrev au:f7:=(.tuple [(.int 0),(.int 1)])
abbrev ud:f7:=(.tuple [(.int 0),(.int 0),(.int 0),(.int 0)])
abbrev bK:f7:=(.tuple [(.int 0),(.int 1)])
def cZ:DB:=A1 (u4 iH z6 D7)
def da:DO:=t9 (u9 2 (u4 gJ v9 z6)) (t9 (u9 0 z6) (u9 1 E2))
def P8:FV:=K6 2 3 (t9 (lN (JJ 1) cZ da) (V7 0))
def W3:FV:=K6 2 3 (t9 (O5 (A1 (u4 S5 z6 D7)) tX K3) (t9 (u9 2 (f9 P8 (y8 (f9 qo (D5 v9)) (f9 qo (D5 z6))))) (t9 (O5 (A1 (u4 tL z6 D7)) (u9 2 (gS di E2)) K3) (E8 (y4 (y8 (u4 bh v9 E2) (u4 bh z6 E2)))))))
noncomputable def cW:FV:=K6 2 5 (t9 (u9 2 (f9 P8 (y8 (t7 v9 B2) (t7 z6 B2)))) (t9 (u9 3 (u4 F9 (D4 (t7 v9 D7) (u4 bh (t7 z6 B2) E2)) (D4 (t7 z6 D7) (u4 bh (t7 v9 B2) E2)))) (t9 (u9 4 (f9 P8 (y8 (f9 qo (D5 J5)) E2))) (E8 (y4 (y8 (u4 bh J5 L1) (D4 (u4 bh (t7 v9 B2) E2) (u4 bh (t7 z6 B2) L1))))))))
def Q5:FV:=K6 2 2 (E8 (f9 cW (y8 v9 (y4 (y8 (gS di (t7 z6 D7)) (t7 z6 B2))))))
def L3:FV:=K6 2 5 (t9 (u9 2 (f9 P8 (y8 (f9 qo (D5 (t7 v9 D7))) (t7 z6 B2)))) (t9 (u9 3 (f9 P8 (y8 (f9 qo (D5 (t7 z6 D7))) (t7 v9 B2)))) (t9 (u9 4 (D4 (u4 bh (t7 v9 D7) E2) (u4 bh (t7 z6 D7) J5))) (E8 (y4 (y8 L1 (D4 (u4 bh (t7 v9 B2) J5) (u4 bh (t7 z6 B2) E2))))))))
def uS:FV:=K6 2 2 (t9 (O5 (A1 (u4 S5 (t7 z6 D7) D7)) tX K3) (E8 (f9 L3 (y8 v9 (f9 W3 (y8 (t7 z6 B2) (t7 z6 D7)))))))
def U9:FV:=K6 2 2 (E8 (u4 tL (D4 (t7 v9 D7) (t7 z6 B2)) (D4 (t7 z6 D7) (t7 v9 B2))))
def ai:DO:=u9 1 (D4 (t7 (f9 W3 (y8 z6 E2)) D7) E2)
def O2:FV:=K6 1 3 (t9 (u9 1 B2) (t9 (J3 (L5 v9) (K5 2) ai) (V7 1)))
def jg:FV:=K6 2 2 (E8 (D4 (t7 v9 D7) (u4 bh z6 (t7 v9 B2))))
def pB:DV:=t7 (t7 v9 E2) B2
def kh:FV:=K6 2 2 (E8 (f9 O2 (D5 (A2 (L5 v9) B3 A5 pB))))
def Z5:DV:=y4 (y8 v9 (f9 jg (y8 (t7 z6 J5) L1)))
def Z3:DB:=A1 (u4 iH (t7 z6 J5) (fC N8))
def hV:FV:=K6 3 3 (E8 (A2 (E9 Y9 (D5 v9)) (L8 2) Z3 Z5))
def ke:FV:=K6 2 3 (t9 (R9 2 (u4 fw (O6 (D5 D7)) v9)) (t9 (cL 2 z6 B2) (V7 2)))
def qp:DV:=D4 v9 z6
def mF:FV:=K6 2 2 (E8 (f9 tj (D5 (A2 (E9 Z6 (y8 v9 z6)) (L8 2) A5 qp))))
def X1:DV:=D4 (t7 E2 v9) z6
def av:FV:=K6 2 2 (E8 (f9 tj (D5 (A2 (L5 z6) (L8 2) A5 X1))))
def sx:DV:=u4 bh (u4 df (D4 v9 P9) (D4 L1 z6)) bG
def iL:FV:=K6 5 5 (t9 (O5 (fO (A1 (u4 S5 E2 D7)) (A1 (u4 S5 J5 L1))) (V7 0) K3) (E8 (A2 (E9 Z6 (y8 v9 z6)) (L8 2) A5 sx)))
def dw:DV:=t7 (t7 (G7 "Table" "weights" z6) E2) v9
def N6:FV:=K6 2 2 (E8 (A2 (L5 (G7 "Table" "chosen" v9)) B3 A5 dw))
def bD:DV:=fN (A1 (u4 jc v9 cA)) cA (f9 L3 (y8 v9 (y4 (y8 B2 z6))))
def bC:DV:=t7 v9 B2
def T5:DV:=t7 v9 B2
def T3:DB:=A1 (u4 gQ v9 cA)
def bB:DV:=f9 jg (y8 v9 (O0 "Table" 1 "unit"))
def bA:DV:=fN (A1 (u4 jc v9 cA)) cA (f9 jg (y8 v9 (O0 "Table" 1 "unit")))
def aL:List PV->Option (PV×Ds):=qJ 3 5 (t9 (u9 3 (A2 (E9 Z6 (y8 E2 (O0 "Table" 0 "scales"))) (L8 2) A5 bD)) (t9 (u9 4 (u4 F9 (A2 (L5 z6) B3 A5 bC) (A2 (L5 J5) B3 T3 T5))) (t9 (Y6 "Table" 0 "unit" jG (f9 O2 (D5 L1))) (t9 (Y6 "Table" 0 "rights" ig (A2 (L5 z6) B3 A5 bB)) (Y6 "Table" 0 "limits" jG (A2 (L5 J5) B3 A5 bA))))))
def X2:DV:=f9 L3 (y8 (t7 v9 L1) (y4 (y8 z6 B2)))
def eg:DV:=t7 v9 B2
def ef:DV:=f9 jg (y8 v9 P9)
def aV:DO:=t9 (u9 3 (A2 (E9 Z6 (y8 z6 (O0 "Table" 0 "scales"))) (L8 2) A5 X2)) (t9 (u9 4 (f9 O2 (D5 (A2 (L5 J5) B3 A5 eg)))) (t9 (nq "Table" 0 "multiples" L1) (nq "Table" 0 "weights" (A2 (L5 J5) B3 A5 ef))))
def ah:List PV->Option (PV×Ds):=qJ 2 5 (t9 (Y6 "Table" 0 "multiples" ig (O6 u5)) (t9 (Y6 "Table" 0 "weights" ig (O6 u5)) (J3 (L5 (fC gk)) (K5 2) aV)))
def iS:DV:=f9 kh (y8 J5 v9)
def iR:DV:=f9 hV (T7 L1 v9 z6)
def iQ:DV:=f9 ke (y8 (f9 F6 (D5 bG)) v9)
def iP:DV:=aq (S3 "Table" "first_prices" N6 (S9 1) (D5 v9))
def bL:List PV->Option (PV×Ds):=qJ 6 6 (t9 (Y6 "Table" 0 "scales" jG (A2 (E9 R4 (D5 (f9 F6 (D5 z6)))) B3 A5 iS)) (t9 (Y6 "Table" 0 "columns" jG (A2 (E9 Y9 (D5 (O0 "Table" 0 "scales"))) (L8 2) A5 iR)) (t9 (Q1 (P4 "Table" "set_weights" 0 ah (P6 z6 fk))) (t9 (Q1 (P4 "Table" "set_limits" 0 aL (P6 J5 (P6 L1 fk)))) (t9 (Y6 "Table" 0 "chosen" ig (f9 pK (D5 P9))) (t9 (Y6 "Table" 0 "full" ig (u4 fw (O6 (D5 (fC (.bool U')))) (f9 F6 (D5 z6)))) (t9 (Y6 "Table" 0 "size" jG B2) (t9 (Y6 "Table" 0 "inverse" jG (A2 (E9 R4 (D5 (f9 F6 (D5 P9)))) B3 A5 iQ)) (Y6 "Table" 0 "prices" ig (A2 (L5 (fC gk)) B3 A5 iP))))))))))
def V6:FV:=K6 3 3 (E8 (u4 df (D4 (t7 (t7 (G7 "Table" "weights" v9) z6) E2) (G7 "Table" "size" v9)) (f9 av (y8 (t7 (G7 "Table" "prices" v9) z6) (t7 (G7 "Table" "columns" v9) E2)))))
def gN:DV:=f9 mF (y8 v9 (G7 "Table" "rights" z6))
def U8:FV:=K6 1 1 (E8 (A2 (L5 (G7 "Table" "inverse" v9)) B3 A5 gN))
def ko:DV:=f9 av (y8 v9 (t7 (G7 "Table" "columns" z6) E2))
def Z4:FV:=K6 2 2 (E8 (A2 (L5 (G7 "Table" "inverse" v9)) B3 A5 ko))
def ej:DO:=cM "Table" 0 "rights" J5 (u4 F9 (iJ "Table" 0 "rights" J5) (D4 E2 L1))
def Q4:List PV->Option (PV×Ds):=qJ 2 5 (t9 (u9 2 (fN (A1 (iJ "Table" 0 "full" z6)) (t7 (O0 "Table" 0 "limits") z6) (gS di (t7 (O0 "Table" 0 "limits") z6)))) (t9 (cM "Table" 0 "full" z6 (Ec (iJ "Table" 0 "full" z6))) (J3 (L5 (t7 (O0 "Table" 0 "columns") z6)) (Y0 2 (D6 3 (D6 4 Y1))) ej)))
def ei:DO:=t9 (u9 8 (D4 (gS di L1) (aq (S3 "Table" "rest" V6 (S9 0) (y8 fI z6))))) (cM "Table" 0 "prices" fI (f9 iL (Ex (iJ "Table" 0 "prices" fI) bG jo P9 (O0 "Table" 0 "size"))))
def gz:DV:=f9 iL (Ex v9 jo (D4 bG z6) fI (O0 "Table" 2 "size"))
def ee:DV:=D4 P9 v9
def dZ:List PV->Option (PV×Ds):=qJ 4 10 (t9 (O5 (A1 (iJ "Table" 0 "full" z6)) (Q1 (P4 "Table" "flip" 0 Q4 (P6 z6 fk))) K3) (t9 (u9 4 (fN (A1 (u4 ye (t7 J5 E2) D7)) B2 (gS di B2))) (t9 (u9 5 (D4 L1 (t7 J5 E2))) (t9 (u9 6 (t7 (O0 "Table" 0 "inverse") E2)) (t9 (J3 (L5 (fC gk)) (K5 7) ei) (t9 (R9 9 (A2 (E9 Z6 (y8 (O0 "Table" 0 "inverse") J5)) (L8 2) A5 gz)) (t9 (cL 9 E2 (A2 (L5 bG) B3 A5 ee)) (t9 (yg 9 (Y6 "Table" 0 "inverse" jG AO)) (t9 (Y6 "Table" 0 "size" jG P9) (cM "Table" 0 "chosen" E2 z6))))))))))
def lC:DO:=t9 (u9 4 (D4 E2 (S3 "Table" "rest" V6 v9 (y8 J5 z6)))) (O5 (A1 (u4 iH L1 D7)) (E8 (fN (A1 (u4 tL L1 D7)) (y4 (y8 J5 L1)) cA)) K3)
def mH:FV:=K6 2 5 (t9 (O5 (A1 (u4 S5 (t7 (G7 "Table" "limits" v9) z6) D7)) (E8 cA) K3) (t9 (u9 2 (fN (A1 (t7 (G7 "Table" "full" v9) z6)) (gS di B2) B2)) (t9 (J3 (L5 (fC gk)) (K5 3) lC) (E8 cA))))
def bF:DO:=t9 (u9 5 (f9 mH (y8 v9 L1))) (O5 (fO (A1 (u4 gQ P9 cA)) (sL (A1 (u4 jc E2 cA)) (A1 (u4 Aa P9 J5)))) (t9 (u9 2 L1) (t9 (u9 3 P9) (O5 (A1 z6) (V7 2) K3))) K3)
def iM:FV:=K6 2 6 (t9 (u9 2 cA) (t9 (u9 3 cA) (t9 (J3 (E9 R4 (D5 (f9 F6 (D5 (G7 "Table" "full" v9))))) (K5 4) bF) (V7 2))))
def mI:DO:=t9 (u9 7 (t7 (G7 "Table" "chosen" v9) P9)) (t9 (u9 8 (t7 (G7 "Table" "limits" v9) fI)) (t9 (u9 9 (D4 L1 (t7 E2 P9))) (O5 (A1 (u4 ye AO D7)) (dk 3 (y4 (Ex bG AO fI P9 (fC (.bool U'))))) (O5 (fO (A1 (u4 tL AO D7)) (A1 (u4 gQ jo cA))) (dk 3 (y4 (Ex (u4 df (D4 jo (G7 "Table" "size" v9)) bG) (gS di AO) fI P9 (fC (.bool Uf))))) K3))))
def jh:FV:=K6 3 10 (t9 (R9 3 (O6 u5)) (t9 (O5 (A1 (u4 gQ (t7 (G7 "Table" "limits" v9) z6) cA)) (dk 3 (y4 (Ex (t7 (G7 "Table" "limits" v9) z6) B2 z6 cA (fC (.bool U'))))) K3) (t9 (u9 4 (fN (A1 (t7 (G7 "Table" "full" v9) z6)) (gS di B2) B2)) (t9 (J3 (E9 Y9 (D5 (S3 "Table" "amounts" U8 v9 u5))) (Y0 2 (D6 5 (D6 6 Y1))) mI) (V7 3)))))
def pz:FV:=K6 2 4 (t9 (u9 2 (D4 (t7 v9 D7) (t7 z6 B2))) (t9 (u9 3 (D4 (t7 z6 D7) (t7 v9 B2))) (E8 (Iq (u4 tL E2 J5) (kL (u4 S5 E2 J5) (u4 tL (t7 v9 R6) (t7 z6 R6)))))))
def bM:DO:=O5 (sL (A1 (u4 jc z6 cA)) (A1 (f9 pz (y8 E2 z6)))) (u9 1 E2) K3
def cv:FV:=K6 1 3 (t9 (u9 1 cA) (t9 (J3 (L5 v9) (K5 2) bM) (V7 1)))
def mG:List PV->Option (PV×Ds):=qJ 4 4 (t9 (O5 (A1 (u4 jc (t7 J5 jx) cA)) (t9 (Q1 (P4 "Table" "flip" 0 Q4 (P6 z6 fk))) lO) K3) (t9 (Q1 (P4 "Table" "turn" 0 dZ (P6 z6 (P6 (t7 J5 jx) (P6 E2 fk))))) (O5 (A1 (t7 J5 om)) (Q1 (P4 "Table" "flip" 0 Q4 (P6 (t7 J5 R6) fk))) K3)))
def sA:DV:=fN (A1 z6) v9 (fC N8)
def nG:DO:=cL 2 J5 (f9 W3 (y8 (D4 L1 (t7 (G7 "Table" "scales" v9) J5)) (D4 (G7 "Table" "size" v9) (G7 "Table" "unit" v9))))
def dq:FV:=K6 2 5 (t9 (R9 2 (A2 (E9 Z6 (y8 z6 (G7 "Table" "full" v9))) (L8 2) A5 sA)) (t9 (J3 (E9 Z6 (y8 (G7 "Table" "chosen" v9) (S3 "Table" "amounts" U8 v9 u5))) (Y0 2 (D6 3 (D6 4 Y1))) nG) (V7 2)))
def fW:DV:=f9 W3 (y8 (t7 (t7 (G7 "Table" "prices" z6) v9) E2) (D4 (G7 "Table" "size" z6) (t7 (G7 "Table" "multiples" z6) v9)))
def ki:FV:=K6 2 3 (t9 (u9 2 (A2 (L5 (fC gk)) B3 A5 fW)) (E8 (f9 fH (D5 E2))))
def nC:DO:=cL 3 L1 (f9 W3 (y8 (D4 (gS di P9) (t7 (G7 "Table" "scales" v9) L1)) (G7 "Table" "size" v9)))
def kS:FV:=K6 3 6 (t9 (R9 3 (u4 fw (O6 (D5 (fC N8))) (f9 F6 (D5 (G7 "Table" "full" v9))))) (t9 (cL 3 z6 (y4 (y8 (t7 (G7 "Table" "scales" v9) z6) B2))) (t9 (J3 (E9 Z6 (y8 (G7 "Table" "chosen" v9) E2)) (Y0 2 (D6 4 (D6 5 Y1))) nC) (V7 3))))
def cY:DB:=A1 (u4 gQ bG cA)
def bE:DO:=t9 (u9 7 (aq (S3 "Table" "paces" Z4 (S9 5) (D5 bG)))) (t9 (u9 8 (f9 cv (D5 (aq (f9 jh (T7 (S9 5) bG fI)))))) (t9 (O5 (A1 (u4 jc jo cA)) (E8 (y4 (T7 (fC (.str "endless")) (aq (f9 dq (y8 (S9 5) J5))) (aq (f9 kS (T7 (S9 5) bG fI)))))) K3) (t9 (Q1 (jF mG (ie 5 (P6 bG (P6 fI (P6 jo fk)))))) (u9 6 (aq (f9 iM (y8 (S9 5) (u4 S5 (t7 jo D7) D7))))))))
def sy:DV:=aq (f9 ki (y8 (S9 6) v9))
def pA:FV:=K6 5 9 (t9 (R9 5 (rR "Table" bL (Ex v9 z6 E2 J5 L1))) (t9 (u9 6 (aq (f9 iM (y8 (S9 5) (fC (.bool U')))))) (t9 (lN (JI cY bE) cY bE) (E8 (y4 (T7 (fC (.str "best")) (aq (f9 dq (y8 (S9 5) J5))) (A2 (E9 R4 (D5 (f9 F6 (D5 z6)))) B3 A5 sy)))))))
def kU:FV:=K6 2 2 (E8 (y4 (T7 (f9 cW (y8 (t7 v9 D7) (t7 z6 D7))) (f9 cW (y8 (t7 v9 B2) (t7 z6 B2))) (f9 cW (y8 (t7 v9 R6) (t7 z6 R6))))))
def dW:FV:=K6 2 2 (E8 (y4 (T7 (f9 L3 (y8 (t7 v9 D7) z6)) (f9 L3 (y8 (t7 v9 B2) z6)) (f9 L3 (y8 (t7 v9 R6) z6)))))
def nP:FV:=K6 1 1 (E8 (y4 (T7 (y4 (y8 D7 B2)) (y4 (y8 D7 B2)) (y4 (y8 v9 B2)))))
def fe:FV:=K6 1 1 (E8 (fN (A1 (u4 Il (t7 v9 B2) (t7 v9 D7))) (y4 (y8 B2 B2)) (y4 (y8 (gS di B2) B2))))
def eN:FV:=K6 1 1 (E8 (f9 Q5 (y8 (fC K0) (f9 fe (D5 v9)))))
def dX:FV:=K6 2 4 (t9 (R9 2 (O6 (y8 (y4 (pS (X3 (y8 (fC (.str "lacked")) v9)) (fC Eu) (y4 (y8 (t7 z6 B2) B2)) (O6 (D5 (y4 (y8 v9 (f9 fe (D5 z6)))))))) (y4 (pS (X3 (y8 (fC (.str "spilt")) v9)) (fC oA) cA (O6 (D5 (y4 (y8 v9 (f9 eN (D5 z6))))))))))) (t9 (u9 3 (t7 z6 R6)) (t9 (O5 (A1 (u4 gQ J5 cA)) (t9 (dk 2 (y4 (pS (X3 (y8 (fC (.str "bought")) v9)) (f9 nP (D5 (t7 J5 D7))) (y4 (y8 (t7 J5 B2) B2)) (O6 (D5 (y4 (y8 v9 (f9 fe (D5 z6))))))))) (dk 2 (y4 (pS (X3 (y8 (fC (.str "given")) v9)) (f9 nP (D5 (gS di (t7 J5 R6)))) (y4 (y8 (t7 J5 jx) B2)) (O6 (D5 (y4 (y8 v9 (f9 eN (D5 z6)))))))))) K3) (V7 2))))
def nh:DV:=y4 (y8 v9 (f9 Q5 (y8 (fC K0) (t7 P9 om))))
def nc:DV:=y4 (y8 v9 (y4 (y8 B2 B2)))
def fD:FV:=K6 2 8 (t9 (u9 2 (f9 F6 (D5 (t7 v9 D7)))) (t9 (u9 3 (t7 (t7 v9 D7) z6)) (t9 (u9 4 (t7 v9 B2)) (t9 (u9 5 (A2 (E9 js (y8 (u4 F9 E2 z6) (D4 R6 E2))) B3 A5 nh)) (t9 (u9 6 (A2 (E9 js (y8 (u4 F9 E2 z6) (D4 R6 E2))) B3 A5 nc)) (t9 (u9 7 (fN (A1 (u4 S5 z6 (u4 df E2 B2))) (t7 L1 Dh) D7)) (E8 (O6 (T7 (y4 (pS (X3 (y8 (fC (.str "filled")) z6)) (fC oA) (y4 (y8 (t7 L1 R6) B2)) (u4 F9 (O6 (D5 (y4 (y8 z6 (f9 eN (D5 J5)))))) P9))) (y4 (pS (X3 (y8 (fC (.str "taken")) z6)) (fC oA) (y4 (y8 (t7 L1 jx) B2)) (u4 F9 (O6 (D5 (y4 (y8 z6 (f9 L3 (y8 (f9 fe (D5 J5)) (t7 L1 tJ))))))) bG))) (y4 (pS (X3 (y8 (fC (.str "level")) z6)) (f9 nP (D5 (gS di fI))) (y4 (y8 (t7 L1 D7) B2)) (O6 (D5 (y4 (y8 (u4 F9 E2 z6) (y4 (y8 B2 B2)))))))))))))))))
def eO:DO:=t9 (u9 6 (O6 (y8 (y4 (y8 P9 (f9 eN (D5 (t7 (t7 v9 D7) P9))))) (y4 (y8 J5 (y4 (y8 B2 B2))))))) (dk 4 (y4 (pS (X3 (T7 (fC (.str "worked")) P9 z6)) (fC oA) (y4 (y8 (t7 E2 om) B2)) bG)))
def gx:FV:=K6 2 7 (t9 (u9 2 (t7 (t7 v9 R6) z6)) (t9 (u9 3 (u4 F9 (D4 R6 (f9 F6 (D5 (t7 v9 D7)))) z6)) (t9 (R9 4 (O6 (D5 (y4 (pS (X3 (y8 (fC (.str "undone")) z6)) (fC xh) (y4 (y8 (t7 E2 B2) B2)) (O6 (D5 (y4 (y8 J5 (y4 (y8 B2 B2))))))))))) (t9 (J3 (E9 js (y8 (t7 E2 R6) (u4 F9 (t7 E2 jx) B2))) (K5 5) eO) (V7 4)))))
def gB:DO:=t9 (ot 1 (f9 dX (y8 E2 J5))) (ot 1 (f9 fD (y8 v9 E2)))
def gA:DO:=ot 1 (f9 gx (y8 v9 E2))
def kl:FV:=K6 1 4 (t9 (R9 1 (O6 u5)) (t9 (J3 (E9 Y9 (D5 (t7 v9 D7))) (Y0 2 (D6 2 (D6 3 Y1))) gB) (t9 (J3 (E9 R4 (D5 (f9 F6 (D5 (t7 v9 R6))))) (K5 2) gA) (V7 1))))
def du:DV:=u4 fw (O6 (D5 (fC K0))) (f9 F6 (D5 z6))
def lz:DO:=vB 2 P9 J5 bG
def ly:DO:=J3 (L5 (t7 L1 jx)) (Y0 2 (D6 5 (D6 6 Y1))) lz
def pY:FV:=K6 2 7 (t9 (R9 2 (lQ (E9 R4 (D5 z6)) B3 du)) (t9 (J3 (E9 Y9 (D5 v9)) (Y0 2 (D6 3 (D6 4 Y1))) ly) (V7 2)))
def sQ:DV:=y4 (y8 (f9 qo (D5 (u4 df (t7 v9 B2) (t7 v9 D7)))) B2)
def mU:DV:=y4 (y8 (t7 v9 B2) B2)
def lu:FV:=K6 1 3 (t9 (u9 1 (A2 (L5 (t7 v9 D7)) B3 A5 sQ)) (t9 (u9 2 (u4 fw (O6 (D5 (y4 (y8 (t7 (t7 v9 B2) B2) B2)))) (f9 F6 (D5 (t7 v9 D7))))) (E8 (u4 F9 (u4 F9 z6 E2) (A2 (L5 (t7 v9 R6)) B3 A5 mU)))))
def kn:DV:=X3 (y8 (fN (A1 (u4 S5 (f9 fe (D5 z6)) (y4 (y8 B2 B2)))) (fC (.str "lacked")) (fC (.str "spilt"))) v9)
def qc:DV:=X3 (y8 (fC (.str "level")) v9)
def km:DV:=X3 (y8 (fC (.str "undone")) v9)
def fg:FV:=K6 1 3 (t9 (u9 1 (A2 (E9 Y9 (D5 (t7 v9 D7))) (L8 2) A5 kn)) (t9 (u9 2 (A2 (E9 R4 (D5 (f9 F6 (D5 (t7 v9 D7))))) B3 A5 qc)) (E8 (u4 F9 (u4 F9 z6 E2) (A2 (E9 R4 (D5 (f9 F6 (D5 (t7 v9 R6))))) B3 A5 km)))))
def su:FV:=K6 3 4 (t9 (u9 3 (f9 Q5 (y8 (f9 L3 (y8 (t7 v9 om) z6)) E2))) (t9 (O5 (A1 (f9 U9 (y8 J5 (fC K0)))) (E8 (y4 (y8 (fC K0) (f9 Q5 (y8 (fC K0) J5))))) K3) (E8 (y4 (y8 (f9 uS (y8 J5 (t7 v9 om))) (fC K0))))))
def wo:DV:=jd E2 (X3 (T7 (fC (.str "worked")) L1 v9)) (fC K0)
def lA:DO:=t9 (u9 4 (y4 (y8 (jd z6 (X3 (y8 (fC (.str "bought")) J5)) (fC K0)) (jd z6 (X3 (y8 (fC (.str "given")) J5)) (fC K0))))) (t9 (u9 5 (f9 su (T7 (t7 v9 B2) (jE z6 (X3 (y8 (fC (.str "filled")) J5))) (jE z6 (X3 (y8 (fC (.str "taken")) J5)))))) (t9 (u9 6 (A2 (E9 R4 (D5 (f9 F6 (D5 (t7 v9 R6))))) B3 A5 wo)) (dk 2 (u4 F9 (u4 F9 L1 P9) (y4 (y8 (jE z6 (X3 (y8 (fC (.str "lacked")) J5))) (f9 fH (D5 bG))))))))
def pZ:FV:=K6 2 7 (t9 (R9 2 (O6 u5)) (t9 (J3 (E9 R4 (D5 (f9 F6 (D5 (t7 v9 D7))))) (K5 3) lA) (E8 (mN (f9 fH (D5 E2))))))
def iA:DV:=f9 dW (y8 z6 (f9 fe (D5 v9)))
def fh:DO:=t9 (u9 5 (f9 kU (y8 P9 (f9 dW (y8 bG (y4 (y8 (gS di B2) B2))))))) (dk 4 P9)
def lx:FV:=K6 2 7 (t9 (u9 2 (f9 F6 (D5 (t7 v9 D7)))) (t9 (u9 3 (A2 (E9 Z6 (y8 (t7 v9 D7) z6)) (L8 2) A5 iA)) (t9 (R9 4 (O6 u5)) (t9 (u9 5 (fC oA)) (t9 (J3 (E9 tA (D5 (oy sF z6 (aP E2) (aP (D4 R6 E2))))) (K5 6) fh) (t9 (rN 4 EM) (E8 (mN (y4 (T7 (f9 fH (D5 J5)) (f9 fH (D5 L1)) (f9 fH (D5 (oy sF z6 (aP (D4 R6 E2)) vp)))))))))))))
def sU:DV:=t7 v9 D7
def sT:DV:=t7 v9 B2
def sS:DV:=t7 v9 R6
def sR:DV:=rQ kH J5 (D5 v9)
def hW:FV:=K6 1 8 (t9 (u9 1 (f9 kl (D5 v9))) (t9 (u9 2 (A2 (L5 z6) B3 A5 sU)) (t9 (u9 3 (A2 (L5 z6) B3 A5 sT)) (t9 (u9 4 (A2 (L5 z6) B3 A5 sS)) (t9 (u9 5 (f9 lu (D5 v9))) (t9 (u9 6 (A2 (L5 (f9 fg (D5 v9))) B3 A5 sR)) (t9 (u9 7 (f9 pA (Ex J5 (f9 pY (y8 z6 (f9 F6 (D5 P9)))) P9 L1 bG))) (E8 (y4 (y8 (f9 pZ (y8 v9 (yp (y8 E2 (t7 fI B2))))) (f9 lx (y8 v9 (t7 fI R6)))))))))))))
def pE:DO:=u9 3 (f9 cW (y8 J5 L1))
def pC:DO:=u9 3 (f9 Q5 (y8 J5 L1))
def nA:FV:=K6 3 5 (t9 (u9 3 (y4 (y8 (u4 df (t7 v9 D7) (t7 v9 B2)) B2))) (t9 (J3 (L5 (y4 (T7 (t7 z6 D7) (t7 z6 om) (f9 L3 (y8 E2 (t7 z6 jx)))))) (K5 4) pE) (t9 (J3 (L5 (u4 F9 (y4 (y8 (t7 z6 B2) (t7 z6 R6))) (t7 z6 tJ))) (K5 4) pC) (V7 3))))
def qa:FV:=K6 3 5 (t9 (u9 3 (f9 Q5 (y8 (t7 v9 R6) (f9 L3 (y8 z6 (t7 v9 R6)))))) (t9 (u9 4 (f9 Q5 (y8 (t7 v9 jx) (f9 L3 (y8 E2 (t7 v9 jx)))))) (E8 (f9 cW (y8 J5 L1)))))
def nH:DO:=t9 (u9 5 (f9 Q5 (y8 (f9 cW (y8 P9 (f9 L3 (y8 J5 (t7 jo R6))))) (t7 jo jx)))) (dk 6 (y4 (T7 (f9 nA (T7 fI jo L1)) (f9 qa (T7 jo J5 L1)) P9)))
def aX:FV:=K6 2 9 (t9 (u9 2 (t7 v9 B2)) (t9 (u9 3 (t7 E2 om)) (t9 (u9 4 (t7 E2 tJ)) (t9 (u9 5 (y4 (y8 (t7 E2 B2) B2))) (t9 (R9 6 (O6 u5)) (t9 (J3 (E9 Z6 (y8 (t7 v9 D7) z6)) (Y0 2 (D6 7 (D6 8 Y1))) nH) (V7 6)))))))
def iO:FV:=K6 2 2 (E8 (Iq (f9 U9 (y8 v9 (fC au))) (f9 U9 (y8 (y4 (y8 z6 B2)) v9))))
def cX:DV:=y4 (y8 v9 L1)
def aS:DB:=A1 (f9 iO (y8 z6 E2))
def ff:FV:=K6 4 9 (t9 (u9 4 (t7 (t7 v9 D7) z6)) (t9 (u9 5 (t7 v9 B2)) (t9 (u9 6 (fN (A1 (u4 jc (t7 L1 R6) cA)) (fC ud) (t7 L1 R6))) (t9 (u9 7 (y4 (ar6 (y4 (T7 (fC (.str "buy")) (t7 E2 D7) (t7 bG B2))) (y4 (T7 (fC (.str "give")) (t7 E2 B2) (t7 bG jx))) (y4 (T7 (fC (.str "fill")) (t7 E2 R6) (t7 P9 R6))) (y4 (T7 (fC (.str "take")) (t7 E2 jx) (t7 P9 jx))) (y4 (T7 (fC (.str "lack")) (t7 E2 om) (t7 L1 B2))) (y4 (T7 (fC (.str "level")) (t7 J5 R6) (t7 P9 D7)))))) (t9 (R9 8 (A2 (L5 fI) (L8 3) aS cX)) (t9 (O5 (A1 (f9 U9 (y8 (t7 J5 D7) (fC au)))) (dk 8 (y4 (y8 (fC (.str "spill")) z6))) K3) (V7 8)))))))
def qe:DO:=t9 (u9 7 (t7 (t7 bG tJ) z6)) (t9 (u9 4 (f9 Q5 (y8 L1 fI))) (t9 (u9 8 (fN (A1 (eU oq oq (t7 v9 R6) P9 (t7 v9 jx))) (t7 v9 om) D7)) (O5 (A1 (f9 iO (y8 fI jo))) (dk 3 (y4 (T7 (fC (.str "work")) P9 z6))) K3)))
def mT:FV:=K6 3 9 (t9 (R9 3 (O6 u5)) (t9 (u9 4 (y4 (y8 (t7 v9 B2) B2))) (t9 (J3 (E9 Y9 (D5 E2)) (Y0 2 (D6 5 (D6 6 Y1))) qe) (t9 (O5 (A1 (f9 U9 (y8 L1 (fC au)))) (dk 3 (y4 (y8 (fC (.str "done")) z6))) K3) (V7 3)))))
def nI:DO:=ot 2 (f9 ff (pS v9 J5 (t7 z6 J5) L1))
def zD:DO:=ot 2 (f9 mT (T7 P9 J5 z6))
def kT:FV:=K6 2 6 (t9 (R9 2 (O6 u5)) (t9 (J3 (E9 Y9 (D5 (f9 aX (y8 v9 z6)))) (Y0 2 (D6 3 (D6 4 Y1))) nI) (t9 (J3 (E9 Y9 (D5 (t7 v9 R6))) (Y0 2 (D6 3 (D6 5 Y1))) zD) (E8 (mN (f9 xv (D5 E2)))))))
def nB:FV:=K6 2 2 (t9 (O5 (A1 (u4 jc v9 cA)) (E8 (fC bK)) K3) (E8 (f9 Q5 (y8 (f9 L3 (y8 (y4 (y8 (t7 v9 D7) B2)) (t7 z6 D7))) (f9 L3 (y8 (y4 (y8 (t7 v9 R6) B2)) (t7 z6 B2)))))))
def kW:DO:=u9 2 (f9 cW (y8 E2 J5))
def kj:FV:=K6 2 4 (t9 (u9 2 (fC bK)) (t9 (J3 (L5 (t7 z6 tJ)) (K5 3) kW) (E8 (y4 (T7 (t7 z6 om) (f9 Q5 (y8 (fC bK) E2)) (f9 nB (y8 (t7 v9 R6) z6)))))))
def uZ:DO:=u9 3 (t7 L1 R6)
def uV:DV:=t7 v9 B2
def uY:DO:=u9 6 (f9 kU (y8 bG (f9 kj (y8 fI jo))))
def nN:FV:=K6 2 9 (t9 (u9 2 (t7 v9 B2)) (t9 (u9 3 (y4 (y8 (t7 E2 B2) B2))) (t9 (J3 (L5 (f9 aX (y8 v9 z6))) (K5 4) uZ) (t9 (u9 5 (f9 tj (D5 (A2 (L5 (t7 v9 R6)) B3 A5 uV)))) (t9 (u9 6 (y4 (T7 (fC bK) (y4 (y8 P9 B2)) (f9 Q5 (y8 (fC bK) (f9 L3 (y8 (y4 (y8 (t7 E2 Dh) B2)) J5))))))) (t9 (J3 (E9 Z6 (y8 (t7 v9 D7) z6)) (Y0 2 (D6 7 (D6 8 Y1))) uY) (V7 6)))))))
def M9:FV:=K6 3 5 (t9 (u9 3 D7) (t9 (O5 (A1 (u4 ye (f9 F6 (D5 v9)) D7)) (t9 (u9 3 (t7 v9 (u4 gJ z6 (f9 F6 (D5 v9))))) (O5 (A1 (u4 S5 (u4 gJ (t7 v9 D7) R6) B2)) (E8 (u4 gJ (u4 gJ (u4 IZ (u4 bh J5 R6) (D4 (fC (.int 32)) (u4 bh z6 (f9 F6 (D5 v9))))) (fC (.int 4294967296))) E2)) K3)) K3) (t9 (u9 4 (u4 gJ (u4 F9 (D4 (u4 gJ J5 (fC (.int 2147483647))) (fC (.int 48271))) (D4 (D4 (u4 F9 z6 B2) (u4 F9 z6 tJ)) (fC (.int 69621)))) (fC (.int 2147483629)))) (E8 (u4 gJ (u4 gJ (D4 L1 (u4 F9 L1 (fC (.int 40692)))) (fC (.int 2147483587))) E2)))))
def gy(S:FV):DV:=(f9 S (f6 v9 (f6 z6 u5)))
def kY(S:FV):FV:=K6 2 2 (t9 (O5 (sL (A1 (U4 "tuple" z6)) (A1 (U4 "list" z6))) (t9 (O5 (sL (A1 (u4 iH (U4 "tuple" v9) (U4 "tuple" z6))) (A1 (u4 iH (U4 "list" v9) (U4 "list" z6)))) (E8 (fC (.bool U'))) K3) (E8 (kL (u4 S5 (f9 F6 (f6 v9 u5)) (f9 F6 (f6 z6 u5))) (f9 qm (f6 (A2 (E9 Z6 (f6 v9 (f6 z6 u5))) (L8 2) A5 (gy S)) u5))))) K3) (t9 (O5 (sL (A1 (U4 "bool" z6)) (A1 (U4 "bool" v9))) (E8 (kL (U4 "bool" z6) (kL (U4 "bool" v9) (u4 S5 v9 z6)))) K3) (t9 (O5 (A1 (U4 "int" z6)) (E8 (kL (U4 "int" v9) (u4 S5 v9 z6))) K3) (t9 (O5 (A1 (u4 jc z6 cA)) (E8 (u4 jc v9 cA)) K3) (E8 (kL (U4 "str" v9) (u4 S5 v9 z6)))))))
def iN:FV:=kY (kY (kY λ_=>J))
def lB:DO:=t9 (u9 5 (u4 F9 (fC (.int 20)) (D4 (fC (.int 8)) L1))) (t9 (u9 6 cA) (t9 (O5 (A1 (u4 ye (f9 M9 (T7 v9 P9 om)) D7)) (t9 (u9 7 (y4 (y8 (u4 df (f9 M9 (T7 v9 (u4 F9 P9 B2) (fC (.int 27)))) Dh) (D4 E2 (f9 M9 (T7 v9 (u4 F9 P9 R6) zU)))))) (u9 6 (u4 F9 fI (y4 (y8 (u4 df (f9 M9 (T7 v9 (u4 F9 P9 jx) (fC (.int 27)))) Dh) (D4 E2 (f9 M9 (T7 v9 (u4 F9 P9 om) zU)))))))) K3) (dk 3 (y4 (T7 (D4 E2 (f9 M9 (T7 v9 (u4 F9 P9 tJ) zU))) (D4 E2 (f9 M9 (T7 v9 (u4 F9 P9 Dh) zU))) bG)))))
def qb:FV:=K6 2 8 (t9 (u9 2 (t7 (O6 (pS B2 B2 B2 (fC (.int 997)))) (f9 M9 (T7 v9 R6 om)))) (t9 (R9 3 (O6 u5)) (t9 (J3 (E9 R4 (D5 z6)) (K5 4) lB) (E8 (mN (f9 fH (D5 J5)))))))
def fF:DO:=O5 (fO (A1 (eU oq oq D7 qh L1)) (fO (A1 (eU oq oq D7 iE bG)) (A1 (u4 Il (u4 df qh iE) jo)))) (dk 9 (u4 df (D4 J5 qh) (D4 P9 iE))) K3
def fE:DO:=J3 (L5 (y4 (T7 D7 bG (u4 df qh jo)))) (K5 11) fF
def fc:FV:=K6 3 12 (t9 (O5 (A1 (u4 jc E2 cA)) (u9 2 (y4 (pS D7 D7 D7 D7))) K3) (t9 (Kd (Y0 4 (D6 3 (D6 4 (D6 5 (D6 6 Y1))))) E2) (t9 (u9 7 (f9 maxD (y8 D7 (u4 df (u4 df z6 v9) L1)))) (t9 (u9 8 (u4 df (u4 df z6 v9) fI)) (t9 (R9 9 (O6 u5)) (t9 (J3 (L5 (y4 (pS D7 L1 jo (u4 F9 jo bG)))) (K5 10) fE) (E8 (mN (y4 (y8 fI (f9 xU (D5 AO))))))))))))
def vJ:DO:=t9 (u9 10 (f9 fc (T7 fI jo AO))) (t9 (u9 5 (u4 F9 P9 (t7 qh D7))) (u9 6 (u4 F9 bG (t7 qh B2))))
def AI:DV:=t7 v9 R6
def AH:DV:=y4 (y8 D7 B2)
def Cb:DO:=t9 (u9 4 (y4 (f6 E2 (f6 J5 (f6 (y4 u5) u5))))) (t9 (u9 5 D7) (t9 (u9 6 D7) (t9 (J3 (L5 E2) (Y0 3 (D6 7 (D6 8 (D6 9 Y1)))) vJ) (t9 (u9 11 (f9 hW (f6 L1 u5))) (t9 (O5 (ue (A1 (f9 iN (f6 (f9 kT (f6 L1 (f6 (u4 E5 iE D7) u5))) (f6 (O6 u5) u5))))) (E8 (fC (.bool U'))) K3) (t9 (O5 (ue (A1 (f9 iN (f6 (f9 nN (f6 L1 (f6 (u4 E5 iE D7) u5))) (f6 (y4 (f6 (y4 (f6 P9 (f6 B2 u5))) (f6 (y4 (f6 D7 (f6 B2 u5))) (f6 (y4 (f6 bG (f6 B2 u5))) u5)))) u5))))) (E8 (fC (.bool U'))) K3) (E8 (u4 S5 (A2 (L5 (f9 aX (f6 L1 (f6 (u4 E5 iE D7) u5)))) B3 A5 AI) (A2 (L5 E2) B3 A5 AH)))))))))
def sv:FV:=K6 1 12 (t9 (u9 1 (u4 F9 B2 (f9 M9 (f6 v9 (f6 D7 (f6 (u4 E5 (O6 (f6 om (f6 (fC (.int 12)) u5))) (f9 M9 (f6 v9 (f6 B2 (f6 R6 u5))))) u5)))))) (t9 (u9 2 (f9 qb (f6 v9 (f6 z6 u5)))) (t9 (u9 3 (y4 (f6 D7 (f6 D7 (f6 D7 (f6 D7 (f6 (y4 (f6 B2 (f6 R6 u5))) (f6 (y4 (f6 (fC (.int 9)) (f6 (fC (.int 10)) u5))) (f6 (f9 M9 (f6 v9 (f6 jx (f6 (fC (.int 9)) u5)))) u5))))))))) (t9 (O5 (fO (A1 (u4 tL z6 tJ)) (A1 (u4 S5 (f9 M9 (f6 v9 (f6 om (f6 R6 u5)))) D7))) (u9 3 (y4 (f6 D7 (f6 D7 (f6 tJ (f6 (fC (.int 7)) (f6 (y4 (f6 B2 (f6 (u4 F9 B2 (f9 M9 (f6 v9 (f6 tJ (f6 jx u5))))) u5))) (f6 (y4 (f6 B2 (f6 (u4 F9 B2 (f9 M9 (f6 v9 (f6 Dh (f6 jx u5))))) u5))) (f6 jx u5))))))))) K3) Cb))))
end
end Law
set_option hygiene false
local macro_rules|`(tactic|walk_at "r")=>`(tactic|simp only[Rh,Lv,a2V,a2W,a1u,a2Y,a2X,a4z,eU,U4,a3e,Flat,Yz,ue,a1z,DM,QF,a3n,Ni,TF,SY,Ue,Ya,QZ,K6,B8,A4,Cy,Ar,MV,eH,tQ,O5,E8,V7,K3,kI,J3,lN,yg,Au,t6,fC,u4,gS,f9,y4,O6,oy,fN,kL,Iq,Ec,mN,dP,A2,vp,aP,UD,f6,u5,A1,fO,sL,A5,E9,L5,Jb,Lu,SF,Mm,rY,pQ,K5,Y0,D6,Y1,B3,L8,L2.PV.vG,L2.PV.Kj,JJ,UG,QV,XX,Yk,Yl,rS,Ta,vw,TB,UH,SX,MW,Tp,La,QL,JT,MT,Wx,TC,GR,Uu,Lj,NJ,a4B,rN,nK,a3t,a3s,a3r,a3q,a3p,a3o,String.reduceBEq,z9,Option.bind_none,qX,Option.map_none,C6,oP,X9,jV,C2,bx,bu,bw,jJ,FP,PZ,sq,Nat.reduceAdd,Nat.reduceSub,Nat.reduceEqDiff,Nat.reduceLeDiff,Nat.reduceLT,Int.reduceToNat,Int.cast_ofNat_Int,eq_self,V5,if_false,reduceIte,uH,decide_true,decide_false,mD,OU,decide_eq_false_iff_not,Bool.not_true,Bool.not_false,not_true_eq_false,not_false_eq_true,Bool.true_or,Bool.false_or,Bool.or_true,Bool.or_false,Bool.and_true,Bool.true_and,Bool.and_false,Ff,reduceCtorEq,and_self])
set_option hygiene true
namespace Law
open PySem L2
variable{b t y x:Int}{m n:Nat}{f:Nat->f7}{g:Nat->Int}{Z:Int×Int}{Y:List Int}{d:f7}
abbrev gc(a b:Int):Int:=(E4 a b:Nat)
theorem TL(x y:Int):E4 y (x.fmod y)=E4 x y:=by
 rw[Int.fmod_def];apply Nat.dvd_antisymm
 . apply Int.dvd_gcd
   . have d:((E4 y (x-y*x.fdiv y)):Int)∣y:=my ..;have a:((E4 y (x-y*x.fdiv y)):Int)∣x-y*x.fdiv y:=jX ..;have b:=Int.dvd_add a (PY (c:=x.fdiv y) d)
     rwa [Int.sub_add_cancel]at b
   exact my ..
 apply Int.dvd_gcd;exact jX ..;exact Int.dvd_sub (my ..) (PY (jX ..))
theorem zV(x:Int)(h:y≠0):(x.fmod y).natAbs<y.natAbs:=by
 rcases Int.lt_or_gt_of_ne h with a|a
 . have e:Int.fmod x y=x % y+if 0<=y\/y∣x then 0 else y:=Int.fmod_eq_emod
   have:=Int.emod_lt x h;split at e<;>omega
 have:=pw x a;have:=rk x a;omega
def I0(t b:Int):Int×Int:=(t.fdiv (if b<0 then -gc t b else gc t b),b.fdiv (if b<0 then -gc t b else gc t b))
structure D2(m:Nat)(q:Int×Int):Prop where
 pos:0<q.2
 low:E4 q.1 q.2=1
 bt:Bt m q.1
 bb:Bt m q.2
theorem D2.mono(h:D2 m Z)(a:m<=n):D2 n Z:=⟨h.pos,h.low,h.bt.mono a,h.bb.mono a⟩
theorem iI(d:0<b)(f:Bt m t)(a:Bt m b):D2 m (I0 t b):=by
 have g:0<E4 t b:=vI t M4;have e:I0 t b=(t/gc t b,b/gc t b):=by delta I0;rw[s9 (Int.not_lt.2 dO),cS _ B4,cS _ B4]
 have c:gc t b∣b:=jX ..;rw[e];refine⟨Qj d B4 c,uO g,?_,?_⟩
 . have:=f.fdiv (j:=gc t b)
   rwa [cS _ B4]at this
 . have:=a.fdiv (j:=gc t b)
   rwa [cS _ B4]at this
theorem TQ{q:Int×Int}(j:D2 m Z)(hq:D2 n q)(h:Z.1*q.2-q.1*Z.2=0):Z=q:=by
 obtain⟨a,b⟩:=Z;obtain⟨c,d⟩:=q;have pb:=j.pos;have e:a*d=c*b:=by have:=h;exact Int.sub_eq_zero.1 v5
 have k:b∣d:=by
  have z:b∣a*d:=⟨c,by rw[e,K8]⟩
  have i:b.natAbs∣a.natAbs*d.natAbs:=by rw[<-dH];exact Int.natAbs_dvd_natAbs.mpr z
  have g:yH b.natAbs a.natAbs:=by rw[zb];exact j.low
  exact Int.natAbs_dvd_natAbs.mp (g.dvd_of_dvd_mul_left i)
 have k2:d∣b:=by
  have z:d∣c*b:=⟨a,by rw[<-e,K8]⟩
  have i:d.natAbs∣c.natAbs*b.natAbs:=by rw[<-dH];simp_all
  have g:yH d.natAbs c.natAbs:=by rw[zb];exact hq.low
  exact Int.natAbs_dvd_natAbs.mp (g.dvd_of_dvd_mul_left i)
 have f:b=d:=by have:=gq hq.pos k;have:=gq pb k2;exact uE v5 v5
 subst f;have:=uQ M4 e;rw[this]
theorem BV(a:b≠0)(h:Bt m b):Bt m (gc t b):=h.of_le (by have:=Int.gcd_le_natAbs_right t a;simp[*])
theorem a2U(a:b≠0):gc t b≠0:=by have:=vI t a;simp[*]
theorem a1t(t b:Int):gc (if t<0 then -t else t) (if b<0 then -b else b)=gc t b:=by
 show((E4 _ _):Int)=(E4 t b)
 have a:∀x y:Int,E4 (if x<0 then -x else x) y=E4 x y:=λx y=>by split<;>simp
 have c:∀x y:Int,E4 x (if y<0 then -y else y)=E4 x y:=λx y=>by split<;>simp
 rw[a,c]
abbrev fr(q:Int×Int):f7:=.tuple [.int q.1,.int q.2]
def dE(p q:Int×Int):Int×Int:=I0 (p.1*q.2+q.1*p.2) (p.2*q.2)
def fL(p q:Int×Int):Int×Int:=I0 (p.1*q.2-q.1*p.2) (p.2*q.2)
def P1(p q:Int×Int):Int×Int:=I0 (p.1*q.1) (p.2*q.2)
def nU(p q:Int×Int):Bool:=decide (p.1*q.2<q.1*p.2)
abbrev Q2:=Int×Int
variable{q p:Q2}
def val(q:Q2):Rat:=(q.1:Rat)/(q.2:Rat)
theorem gj(h:b≠0):(b:Rat)≠0:=by exact_mod_cast h
theorem fX(d:0<b):val (I0 t b)=(t:Rat)/(b:Rat):=by
 have e:I0 t b=(t/gc t b,b/gc t b):=by delta I0;rw[s9 (Int.not_lt.2 dO),cS _ B4,cS _ B4]
 have c:t/gc t b*gc t b=t:=zp (my ..);have a:b/gc t b*gc t b=b:=zp (jX ..);rw[e];show((t/gc t b:Int):Rat)/((b/gc t b:Int))=_;have:=gj (show gc t b≠0 by lia)
 generalize gc t b=g at *;have:((t/g:Int):Rat)*g=t:=by exact_mod_cast c
 have:((b/g:Int):Rat)*g=b:=by exact_mod_cast a
 grind
theorem QD(a:0<p.2)(hq:0<q.2):val (dE p q)=val p+val q:=by
 delta dE;rw[fX (M7 a hq)];have:=gj (show p.2≠0 by exact M4);have:=gj (show q.2≠0 by exact M4);delta val
 push_cast
 grind
theorem AL(a:0<p.2)(hq:0<q.2):val (fL p q)=val p-val q:=by
 delta fL;rw[fX (M7 a hq)];have:=gj (show p.2≠0 by exact M4);have:=gj (show q.2≠0 by exact M4);delta val
 push_cast
 grind
theorem sX(a:0<p.2)(hq:0<q.2):val (P1 p q)=val p*val q:=by
 delta P1;rw[fX (M7 a hq)];delta val
 push_cast
 grind
theorem val_inj(a:D2 m p)(hq:D2 n q)(h:val p=val q):p=q:=by
 refine TQ a hq ?_;have:=gj (show p.2≠0 by have:=a.pos;exact M4);have:=gj (show q.2≠0 by have:=hq.pos;exact M4)
 have:(p.1:Rat)/p.2=q.1/q.2:=h;have e:(p.1:Rat)*q.2-q.1*p.2=0:=by grind
 exact_mod_cast e
theorem val_one(n:Int):val (n,1)=(n:Rat):=by
 show(n:Rat)/1=n;grind
theorem tE(a:D2 m p)(hq:D2 n q):D2 (m+n+1) (dE p q):=
 iI (M7 a.pos hq.pos) ((a.bt.mul hq.bb).add ((hq.bt.mul a.bb).mono (oQ (qU _ _)))) ((a.bb.mul hq.bb).mono B4)
theorem jk(a:D2 m p)(hq:D2 n q):D2 (m+n) (P1 p q):=
 iI (M7 a.pos hq.pos) (a.bt.mul hq.bt) (a.bb.mul hq.bb)
theorem rH(h:Bt m b)(a:1<=m):D2 m (b,1):=⟨by simp,by simp,h,Bt.mono ⟨by simp⟩ a⟩
theorem Gu(x y:Int)(z:Option PV):cZ [iD x,iD y,z]=U (!decide (y=0)):=by rfl
theorem UM(x:Int)(z:Option PV)(h:y≠0):da [iD x,iD y,z]=U (.next [iD y,iD (x.fmod y),iD (x.fmod y)]):=by delta da;walk_at "r";rw[eF h];walk_at "r"
theorem lS(l:0<=x)(k:0<=y):P8 [.int x,.int y]=sd (.int (gc x y)):=by
 delta P8;walk_at "r";obtain⟨m,n,⟨a,b,f,rfl,i,g,c⟩,j⟩:=KJ (Fc:=cZ) (λd=>∃a b f,d=[iD a,iD b,f]/\gc a b=gc x y/\0<=a/\0<=b) (λd=>JJ 1 d-1) (by
  rintro d ⟨a,b,f,rfl,i,g,c⟩;rw[Gu];by_cases h:b=0;left;simp[h]
  . right;refine⟨by simp[h],_,UM a f h,⟨b,a.fmod b,_,rfl,?_,c,pw a u3⟩,?_⟩;rw[<-i];show((E4 b (a.fmod b)):Int)=(E4 a b);rw[TL]
    . have:=zV a h;assumption) (y.natAbs+1) [iD x,iD y,J] ⟨x,y,J,rfl,rfl,l,k⟩ (by walk_at "r";simp[*])
 rw[Gu]at j;have o:b=0:=by simpa using j
 subst o;have e:gc a 0=a:=by show((E4 a 0))=a;rw[Int.gcd_zero_right];exact rn v5
 rw[n,<-i,e];walk_at "r"
theorem gR(d:b≠0)(c:Bt 8000 b):W3 [.int t,.int b]=sd (fr (I0 t b)):=by
 delta W3;walk_at "r";rw[s9 d];walk_at "r";rw[lS (by split<;>lia) (by split<;>lia),a1t];walk_at "r";have f:=a2U (t:=t) d;have a:=BV (t:=t) d c;delta I0;by_cases e:b<0;simp only[t2 e];walk_at "r";rw[S0 B4 a.neg,S0 B4 a.neg];rfl;simp only[s9 e];walk_at "r";rw[S0 f a,S0 f a];rfl
theorem Dn(m:0<b)(g:0<y)(c:E4 x y=1)(a:t*y=x*b):I0 t b=(x,y):=by
 have d:y∣b:=by
  have z:y∣x*b:=⟨t,by rw[<-a,K8]⟩
  have l:y.natAbs∣x.natAbs*b.natAbs:=by rw[<-dH];simp_all
  have i:yH y.natAbs x.natAbs:=by rw[zb];exact c
  exact Int.natAbs_dvd_natAbs.mp (i.dvd_of_dvd_mul_left l)
 obtain⟨k,rfl⟩:=d;have:0<k:=by
  rcases eY 0 k with h|h
  exact h;have:=sr (U6 g) h;lia
 have j:t=x*k:=by
  have:t*y=(x*k)*y:=by rw[a,P7,K8 y k]
  exact uQ M4 this
 subst j;have e:E4 (x*k) (y*k)=k.natAbs:=by rw[Int.gcd_mul_right,c,Nat.one_mul]
 have f:gc (x*k) (y*k)=k:=by show((E4 _ _))=k;rw[e];exact rn dO
 delta I0;rw[s9 (Int.not_lt.2 dO),f,cS _ dO,cS _ dO,Pc _ M4,Pc _ M4]
theorem kN(z:E4 x y=1)(a:E4 x b=1):E4 x (y*b)=1:=by
 show Nat.gcd x.natAbs (y*b).natAbs=1;rw[dH];exact Nat.Coprime.mul_right z a
theorem cN(z:E4 x y=1)(a:b∣y):E4 x b=1:=
 Nat.Coprime.coprime_dvd_right (Int.natAbs_dvd_natAbs.mpr a) z
theorem U0(h:E4 x y=1):E4 y x=1:=by rw[yN];exact h
theorem IF(h:E4 x y=1):E4 (x+b*y) y=1:=by simp_all
theorem Si(I:0<b)(hd:0<x)(G:E4 t b=1)(H:E4 y x=1):
  let s:=gc b x
  let a:=t*x.fdiv s+y*b.fdiv s
  let e:=gc a s
  0<s/\0<e/\I0 (t*x+y*b) (b*x)=(a.fdiv e,b.fdiv s*x.fdiv e):=by
 have F:0<E4 b x:=vI b M4;have L:0<gc b x:=by lia
 obtain⟨b',g⟩:gc b x∣b:=my ..;obtain⟨d',f⟩:gc b x∣x:=jX ..;have c:E4 b' d'=1:=by
  have:=uO F;have v:b/((E4 b x))=b':=by
   conv=>lhs;lhs;rw[g]
   rw[jK _ M4]
  have q2:x/((E4 b x))=d':=by
   conv=>lhs;lhs;rw[f]
   rw[jK _ M4]
  rwa [v,q2]at this
 intro s a e;have q:gc b x=s:=rfl;have z:b.fdiv s=b':=by rw[cS _ dO];rw[q]at g;rw[g,jK _ M4]
 have C:x.fdiv s=d':=by rw[cS _ dO];rw[q]at f;rw[f,jK _ M4]
 have r:a=t*d'+y*b':=by show t*x.fdiv s+y*b.fdiv s=_;rw[z,C]
 have w:0<E4 a s:=vI a M4;have A:0<e:=by show(0:Int)<((E4 a s));exact Int.natCast_pos.2 v5
 refine⟨L,A,?_⟩;rw[q]at g f
 clear_value s
 obtain⟨n,i⟩:e∣a:=my ..;obtain⟨m,k⟩:e∣s:=jX ..;have o:E4 n m=1:=by
  have:=uO w;have v:a/((E4 a s))=n:=by
   show a/e=n;rw[i,jK _ M4]
  have q2:s/((E4 a s))=m:=by
   show s/e=m;rw[k,jK _ M4]
  rwa [v,q2]at this
 clear_value e
 have p:0<b':=by
  rcases eY 0 b' with h|h
  exact h;have:=sr (U6 (show(0:Int)<s by lia)) h;lia
 have d:0<d':=by
  rcases eY 0 d' with h|h
  exact h;have:=sr (U6 (show(0:Int)<s by lia)) h;lia
 have u:0<m:=by
  rcases eY 0 m with h|h
  exact h;have:=sr (U6 A) h;lia
 have D:E4 a b'=1:=by
  rw[r];have:=U0 (kN (U0 (cN G ⟨s,by rw[g,K8]⟩)) c);exact IF this
 have E:E4 a d'=1:=by
  rw[r,Int.add_comm];have:=U0 (kN (U0 (cN H ⟨s,by rw[f,K8]⟩)) (U0 c));exact IF this
 have dt:n∣a:=⟨e,by rw[i,K8]⟩
 have K:x.fdiv e=m*d':=by rw[cS _ dO,f,k,P7,jK _ M4]
 have B:a.fdiv e=n:=by rw[cS _ dO,i,jK _ M4]
 rw[z,K,B];apply Dn (M7 I hd) (M7 p (M7 u d));exact kN (U0 (cN (U0 D) dt)) (kN o (U0 (cN (U0 E) dt)))
 . have e1 : t * x + y * b = s * a := by rw [r, jT]; conv => lhs; rw [g, f]
                                         simp only[oW]
   rw[e1,i]
   conv=>rhs;rw[g,f]
   rw[k];simp only[oW,K8]
theorem Lb(a:0<b)(hd:0<x)(G:E4 t b=1)(H:E4 y x=1):
  let e:=gc t x
  let f:=gc y b
  0<e/\0<f/\I0 (t*y) (b*x)=(t.fdiv e*y.fdiv f,b.fdiv f*x.fdiv e):=by
 have l:∀{d c:Int},0<c->∃x' y',0<gc d c/\d=gc d c*x'/\c=gc d c*y'/\0<y'/\E4 x' y'=1/\d.fdiv (gc d c)=x'/\c.fdiv (gc d c)=y':=by
  intro d c O;have E:0<E4 d c:=vI d M4;have w:0<gc d c:=by lia
  obtain⟨x',k⟩:gc d c∣d:=my ..;obtain⟨y',j⟩:gc d c∣c:=jX ..
  have q1 : d / gc d c = x' := by conv => lhs; lhs; rw [k]
                                  rw[jK _ M4]
  have q2 : c / gc d c = y' := by conv => lhs; lhs; rw [j]
                                  rw[jK _ M4]
  refine⟨x',y',w,k,j,?_,?_,?_,?_⟩
  . rcases eY 0 y' with h|h
    exact h;have:=sr (U6 w) h;lia
  . have:=uO E
    rwa [q1,q2]at this
  rw[cS _ dO,q1];rw[cS _ dO,q2]
 obtain⟨N,L,z,m,n,I,D,A,r⟩:=l hd;obtain⟨M,P,q,p,o,pb,K,v,u⟩:=l a;intro e f;have B:gc t x=e:=rfl;have F:gc y b=f:=rfl;rw[B]at z m n A r;rw[F]at q p o v u;refine⟨z,q,?_⟩
 clear_value e f
 rw[A,r,v,u];apply Dn (M7 a hd) (M7 pb I);have C:=U0 (cN (U0 (cN G ⟨f,by rw[o,K8]⟩)) ⟨e,by rw[m,K8]⟩);exact U0 (kN (U0 (kN C D)) (U0 (kN K (U0 (cN (U0 (cN H ⟨e,by rw[n,K8]⟩)) ⟨f,by rw[p,K8]⟩)))))
 . conv=>lhs;rw[m,p]
   conv=>rhs;rw[o,n]
   simp only[oW,K8]
theorem Aq(t b:Int):gc (if t<0 then -t else t) b=gc t b:=by
 show((E4 _ _):Int)=(E4 t b)
 split<;>simp
theorem a1s(c:0<b)(h:Bt m b):Bt m (gc b t):=h.of_le (by have:=Int.gcd_le_natAbs_left (a:=b) t M4;simp[*])
theorem nW(a:D2 m p)(hq:D2 n q)(h:m+n<=7998):L3 [fr p,fr q]=sd (fr (P1 p q)):=by
 have g:Bt 60000 p.1:=a.bt.mono (C3 xT f5);have i:Bt 60000 p.2:=a.bb.mono (C3 xT f5);have d:Bt 60000 q.1:=hq.bt.mono (C3 Dl f5);have e:Bt 60000 q.2:=hq.bb.mono (C3 Dl f5);obtain⟨k,j,f⟩:=Lb a.pos hq.pos a.low hq.low;have b:Bt 8000 (gc p.1 q.2):=(BV (by have:=hq.pos;exact M4) hq.bb).mono (C3 Dl f5);have c:Bt 8000 (gc q.1 p.2):=(BV (by have:=a.pos;exact M4) a.bb).mono (C3 xT f5);have:=a.pos;have:=hq.pos;delta L3;walk_at "r";rw[lS (by split<;>lia) dO,Aq];walk_at "r";rw[lS (by split<;>lia) dO,Aq];walk_at "r";simp only[S0 (show gc p.1 q.2≠0 by exact M4) b,S0 (show gc q.1 p.2≠0 by exact M4) c];walk_at "r";rw[D8 g.fdiv d.fdiv];walk_at "r";simp only[S0 (show gc p.1 q.2≠0 by exact M4) b,S0 (show gc q.1 p.2≠0 by exact M4) c];walk_at "r";rw[D8 i.fdiv e.fdiv];delta P1;rw[f];rfl
abbrev mW(ns:List Int):f7:=.list (ns.map .int)
theorem Hn(ns:List Int):(ns.map Z7).length=ns.length:=by simp
theorem Lx(h0:0<=b)(h:b<Y.length):aG (Y.map Z7) b=U (.int (Y.getD b.toNat 0)):=by
 rw[dQ (n:=b.toNat) U1 (by simp;omega),O1,K7 U1];simp[iz,K7 (show b.toNat<Y.length by omega)]
def xa:Ds->Option Out:=(t9 (u9 4 (u4 gJ (u4 F9 (u4 R5 (u4 gJ (t6 3) (fC (.int 2147483647))) (fC (.int 48271))) (u4 R5 (u4 R5 (u4 F9 (t6 1) (fC (.int 1))) (u4 F9 (t6 1) (fC (.int 5)))) (fC (.int 69621)))) (fC (.int 2147483629)))) (E8 (u4 gJ (u4 gJ (u4 R5 (t6 4) (u4 F9 (t6 4) (fC (.int 40692)))) (fC (.int 2147483587))) (t6 2))))
theorem NK{c:Int}(hk0:0<=t)(hk1:t<=1000000)(hm:0<y):∃r:Int,xa [sd d,iD t,iD y,iD c,J]=U (.ret (.dat (.int r)))/\0<=r/\r<y:=by
 have fin:∀z:Int,0<=z.fmod y/\z.fmod y<y:=λz=>⟨pw z hm,rk z hm⟩;have h1:=pw c (b:=2147483647) f5;have h2:=rk c (b:=2147483647) f5;have b1:Bt 62 (t+1):=Bt.small U1 U1;have b2:Bt 62 (t+5):=Bt.small U1 U1;have h3:=pw (c.fmod 2147483647*48271+(t+1)*(t+5)*69621) (b:=2147483629) f5;have h4:=rk (c.fmod 2147483647*48271+(t+1)*(t+5)*69621) (b:=2147483629) f5;unfold xa;walk_at "r";rw[eF f5];walk_at "r";rw[D8 (Bt.xA U1 U1) Bt.lit,D8 (b1.mono f5) (b2.mono f5)];walk_at "r";rw[D8 ((b1.mul b2).mono f5) Bt.lit];walk_at "r";rw[eF f5];walk_at "r";rw[D8 (Bt.xA U1 U1) (Bt.xA U1 U1)];walk_at "r";rw[eF f5];walk_at "r";rw[eF U1];exact⟨_,rfl,fin _⟩
theorem vE{k m:Int}(hl:Y.length<=63)(hk0:0<=k)(hk1:k<=1000000)(hm:0<m):∃r:Int,M9 [mW Y,.int k,.int m]=sd (.int r)/\0<=r/\r<m:=by
 have fin:∀z:Int,0<=z.fmod m/\z.fmod m<m:=λz=>⟨pw z hm,rk z hm⟩
 have tail:∀(c:Int),∃r:Int,(xa [sd (mW Y),iD k,iD m,iD c,J]).bind Ju=sd (.int r)/\0<=r/\r<m:=λc=>by obtain⟨r,h,h'⟩:=NK (d:=mW Y) (c:=c) hk0 hk1 hm;rw[h];exact⟨r,rfl,h'⟩
 unfold M9;walk_at "r";rw[Hn];by_cases hp:(0:Int)<(Y.length:Int)
 . rw[t2 hp,eF U1];have g1:=pw k hp;have g2:=rk k hp;walk_at "r";rw[Lx g1 g2];walk_at "r";rw[Lx (jS 0) hp];walk_at "r";rw[eF f5];walk_at "r";by_cases h2:Int.fmod (Y.getD 0 0) 2=1
   . rw[t2 h2,Hn];have q0:0<=k.fdiv (Y.length:Int):=Int.fdiv_nonneg hk0 U1;have q1:k.fdiv (Y.length:Int)<=k:=by have:=Pp k (Y.length:Int);omega
     rw[S0 f5 Bt.lit,S0 U1 (Bt.xA U1 U1)];walk_at "r";rw[D8 Bt.lit (Bt.xA U1 U1)];walk_at "r";rw[Rb U1];walk_at "r";rw[eF f5];walk_at "r";rw[eF U1];walk_at "r";exact⟨_,rfl,fin _⟩
   rw[s9 h2];simp only[A4];exact tail _
 rw[s9 hp];simp only[A4];exact tail 0
structure Tr where
 a:Q2
 b:Q2
 c:Q2
noncomputable def M0(x:Tr):f7:=.tuple [fr x.a,fr x.b,fr x.c]
structure iK(m:Nat)(x:Tr):Prop where
 a:D2 m x.a
 b:D2 m x.b
 c:D2 m x.c
theorem DI(x:Tr):E5 (M0 x) (.int 0)=sd (fr x.a):=rfl
theorem DH(x:Tr):E5 (M0 x) (.int 1)=sd (fr x.b):=rfl
theorem DG(x:Tr):E5 (M0 x) (.int 2)=sd (fr x.c):=rfl
noncomputable def BR(x y:Tr)(q:Q2):Tr:=⟨dE x.a (P1 y.a q),dE x.b (P1 y.b q),dE x.c (P1 y.c q)⟩
def a4s(q:Q2):Q2:=(0-q.1,q.2)
theorem AR(q:Q2):aT (fr q)=Uf:=by rfl
theorem HQ(p q:Q2):iH (fr p) (fr q)=sd (.bool (decide (p≠q))):=by
 show(if aT (fr p)=Uf/\aT (fr q)=Uf then U (PV.dat (.bool (!PyData.eqv (fr p) (fr q))))else J)=_
 rw[t2 ⟨AR p,AR q⟩];have e:V8 (fr p) (fr q)=decide (p=q):=by rw[qY];simp[V8,uB,Prod.ext_iff]
 rw[e];simp
noncomputable def a1K(x y:Tr):Bool:=if x.a≠y.a then nU x.a y.a else if x.b≠y.b then nU x.b y.b else if x.c≠y.c then nU x.c y.c else U'
structure Sh(k:Nat)(d:f7):Prop where
 c:d.canLay0=Uf
 d:d.depth<=k
mutual
theorem Uc:∀d:f7,d.canLay0=Uf->V8 d d=Uf
 | .none,_=>rfl
 | .bool b,_=>by simp[V8]
 | .int i,_=>by simp[V8]
 | .str x,_=>by simp[V8]
 | .list a,h=>by rw[V8];exact tY a v5
 | .tuple a,h=>by rw[V8];exact tY a v5
 | .dict _,h=>by assumption
theorem tY:∀l:List f7,gu l=Uf->uB l l=Uf
 | [],_=>rfl
 |x::r,h=>by
  have a:x.canLay0=Uf/\gu r=Uf:=by simpa [gu]using h
  rw[uB,Uc x a.1,tY r a.2];rfl
end
structure FD(D M:Int)(q:Q2):Prop where
 pos:0<q.2
 low:E4 q.1 q.2=1
 dvd:q.2∣D
 vR:(q.1.natAbs:Int)<=M*q.2
theorem FD.mono(h:FD t y q)(hd:t∣b)(c:y<=x):FD b x q:=
 ⟨h.pos,h.low,hI h.dvd hd,cQ h.vR (jM c (U6 h.pos))⟩
theorem FD.a4A(h:FD b t q)(hD:0<b)(D:Bt m b)(a:Bt m (t*b)):D2 m q:=by
 have l:=gq hD h.dvd;have p:=h.pos;have:=h.vR;have hM:0<=t:=by
  rcases eY t 0 with c|c
  have:=zv c p;lia;exact c
 have:=jL l hM;exact⟨p,h.low,a.of_le u3,D.of_le u3⟩
theorem ak(d:0<b):0<(I0 t b).2/\E4 (I0 t b).1 (I0 t b).2=1/\(I0 t b).1*b=t*(I0 t b).2/\(I0 t b).2∣b:=by
 have f:0<E4 t b:=vI t M4;have e:I0 t b=(t/gc t b,b/gc t b):=by delta I0;rw[s9 (Int.not_lt.2 dO),cS _ B4,cS _ B4]
 have h:gc t b∣t:=my ..;have a:gc t b∣b:=jX ..;have c:=zp a;rw[e];refine⟨Qj d B4 a,uO f,?_,⟨gc t b,c.symm⟩⟩;generalize gc t b=g at *;have:t/g*b=t/g*(b/g*g):=by rw[c]
 rw[this,K8 (b/g) g,<-P7,(zp h)]
theorem XY{c:Int}(a:0<b)(h:t*y=c*b):(I0 t b).2∣y:=by
 obtain⟨p,l,e,_⟩:=ak a;generalize (I0 t b).1=x at *;generalize (I0 t b).2=D at *;have k:x*y=c*D:=by
  apply uQ (show b≠0 by exact M4);grind
 have z:D∣x*y:=⟨c,by rw[k,K8]⟩
 have f:D.natAbs∣x.natAbs*y.natAbs:=by rw[<-dH];exact Int.natAbs_dvd_natAbs.mpr z
 have d:yH D.natAbs x.natAbs:=by rw[zb];exact l
 exact Int.natAbs_dvd_natAbs.mp (d.dvd_of_dvd_mul_left f)
theorem HS(d:0<b)(h:(t.natAbs:Int)<=y*b):(((I0 t b).1).natAbs:Int)<=y*(I0 t b).2:=by
 obtain⟨p,l,e,_⟩:=ak d;generalize (I0 t b).1=x at *;generalize (I0 t b).2=M at *;have f:x.natAbs*b=t.natAbs*M:=by
  have:=D3 Int.natAbs e;rw[dH,dH]at this;have a:b.natAbs=b:=by lia
  have c:M.natAbs=M:=by lia
  rw[<-a,<-c]
  exact_mod_cast this
 apply Int.le_of_mul_le_mul_right _ d;rw[f];have:=jM h (U6 p)
 calc t.natAbs*M<=y*b*M:=this
  _=y*M*b:=by simp only[oW,K8]
theorem FD.plus(D:FD b t p)(hq:FD b y q):FD b (t+y) (dE p q):=by
 have d:=M7 D.pos hq.pos;obtain⟨a,l,_,_⟩:=ak d;obtain⟨u,f⟩:=D.dvd;obtain⟨v,e⟩:=hq.dvd;refine⟨a,l,XY (c:=p.1*u+q.1*v) d ?_,HS d ?_⟩
 . have h:p.1*q.2*b=p.1*u*(p.2*q.2):=by rw[f];simp only[oW,K8]
   have g:q.1*p.2*b=q.1*v*(p.2*q.2):=by rw[e];simp only[oW,K8]
   rw[EH,EH,h,g]
 . have:=jM D.vR (U6 hq.pos);have:=jM hq.vR (U6 D.pos);have:((p.1*q.2).natAbs)=p.1.natAbs*q.2:=by
    rw[dH];have:q.2.natAbs=q.2:=by have:=hq.pos;exact rn dO
    push_cast;rw[this]
   have:((q.1*p.2).natAbs)=q.1.natAbs*p.2:=by
    rw[dH];have:p.2.natAbs=p.2:=by have:=D.pos;exact rn dO
    push_cast;rw[this]
   lia
theorem FD.times(D:FD b y p)(hq:FD t x q):FD (b*t) (y*x) (P1 p q):=by
 have c:=M7 D.pos hq.pos;obtain⟨a,l,_,d⟩:=ak c;refine⟨a,l,hI d (Int.mul_dvd_mul D.dvd hq.dvd),HS c ?_⟩;have:((p.1*q.1).natAbs:Int)=p.1.natAbs*q.1.natAbs:=by rw[dH];rfl
 rw[this];have e:0<=y*p.2:=by have:=D.vR;lia
 calc p.1.natAbs*q.1.natAbs<=(y*p.2)*(x*q.2):=EY D.vR hq.vR B4 e
  _=y*x*(p.2*q.2):=by simp only[oW,K8]
structure TD(D M:Int)(x:Tr):Prop where
 a:FD D M x.a
 b:FD D M x.b
 c:FD D M x.c
theorem qu(lo:Int)(n:Nat):(bc lo n).length=n:=by simp[bc]
def IL(l m:List f7):List f7:=hF (λx y=>.tuple [x,y]) l m
theorem Qu(l m:List f7):Z6 [.list l,.list m]=U (IL l m):=rfl
abbrev q0:Q2:=(0,1)
theorem qI(a:1<=m):D2 m q0:=rH (Bt.mono ⟨by decide⟩ a) a
abbrev pP(l:List Q2):f7:=.list (l.map fr)
noncomputable def Y4:Option Q2->f7
 |none=>.none
 |some q=>fr q
abbrev a5h(l:List (Option Q2)):f7:=.list (l.map Y4)
abbrev ax(l:List (List Q2)):f7:=.list (l.map pP)
def a2c(k:Nat)(l:List Q2):Prop:=∀q∈l,D2 k q
noncomputable abbrev rl(n:Nat)(f:Nat->f7):List f7:=(C8 n).map f
abbrev il(n:Nat)(f:Nat->Int):f7:=.list (rl n λi=>.int (f i))
theorem J8(n:Nat)(f:Nat->f7):(rl n f).length=n:=by simp[rl]
theorem N9(f:Nat->f7)(h:m<n):aG (rl n f) (m:Int)=U (f m):=by
 rw[dQ rfl (by rw[J8];exact h),O1,ph h];rfl
theorem LA(f:Nat->f7)(h:m<n):aG (rl n f) (0+(m:Int))=U (f m):=by rw[X7];exact N9 f h
theorem bT{g:Nat->f7}(h:∀i,i<n->f i=g i):rl n f=rl n g:=zo λi a=>h i (mem_range.mp a)
theorem jt(f:Nat->f7)(x:f7):(rl n f).set m x=rl n λk=>if k=m then x else f k:=by
 apply ra B9;intro k b a;simp only[FA,qZ,FN];by_cases c:m=k;rw[t2 c,t2 c.symm];rw[s9 c,s9 λz=>c z.symm]
theorem xE(h:(rl n f)[m]? = U d):m<n/\d=f m:=by
 have a:m<n:=by
  by_cases c:m<n;exact c;rw[uM (by rw[J8];exact mz v5)]at h;exact nE h
 rw[O1,ph a]at h;cases h;exact⟨a,rfl⟩
theorem WK(n:Nat)(f:Nat->f7):rl n f++[f n]=rl (n+1) f:=by simp[rl,iw]
theorem ZH(n:Nat)(x:f7):(C2 n [x]).flatten=rl n λ_=>x:=by
 induction n with
 |zero=>rfl
 |succ n a=>rw[List.replicate_succ',List.flatten_append,a,<-WK];simp
theorem YG(f g:Nat->f7):IL (rl n f) (rl n g)=rl n λi=>.tuple [f i,g i]:=by
 apply ra (by simp[IL]);intro k b a;simp[IL]
theorem lD(f g:Nat->f7)(n:Nat):Z6 [.list (rl n f),.list (rl n g)]=U (rl n λi=>.tuple [f i,g i]):=by rw[Qu,YG]
theorem vD:∀(n:Nat) (f:Nat->f7) (o:Int),S6 o (rl n f)=rl n λi=>.tuple [.int (o+(i:Int)),f i]:=by
 intro l_;induction l_ with
 |zero =>
  intro f o;exact rfl
 |succ n ih_ =>
  intro f o;have e:∀g:Nat->f7,rl (n+1) g=g 0::rl n λi=>g (i+1):=λg=>by rw[rl,PL,C6,fz];rfl
  rw[e,e,S6,ih_]
  congr 1
  simp
  . exact bT λi _=>by rw[show o+1+i=o+((i+1:Nat))from by lia]
theorem xD(n:Nat):bc 0 n=rl n λi=>.int (i:Int):=by exact zo λi _=>by rw[X7]
theorem O7{Fe:DV}{ds:Ds}{g:Nat->f7}{gt:f7->Option (List f7)}(h:∀i,i<n->∃bs pv,gt (f i)=U bs/\Fe (Q3 bs++ds)=U pv/\pv.d=g i):M6 gt A5 Fe ds (rl n f)=U (rl n g):=by
 have a:∀k,k<=n->M6 gt A5 Fe ds ((rl n f).drop (n-k))=U ((rl n g).drop (n-k)):=by
  intro k;induction k with
  |zero=>intro _;rw[Nat.sub_zero,Ge (by simp[rl]),Ge (by simp[rl])];rfl
  |succ k m =>
   intro o;have b:n-(k+1)<n:=by lia
   have c:∀f:Nat->f7,(rl n f).drop (n-(k+1))=f (n-(k+1))::(rl n f).drop (n-k):=λf=>by
    rw[rq (by simpa [rl]using b),show n-(k+1)+1=n-k from by lia];simp[rl]
   rw[c,c];obtain⟨bs,pv,j,e,l⟩:=h _ b;unfold M6;simp only[j,z9,A5,V5];rw[e];rw[m el];simp only[z9,l]
 have:=a n F3;rw[Nat.sub_self]at this;exact this
theorem Ye(n:Nat)(f:Nat->Int):intsOf (rl n λi=>.int (f i))=U ((C8 n).map f):=ints_map f _
theorem Lg(n:Nat)(f:Nat->Int):((C8 n).map f).sum=Sx.sm n f:=by
 induction n with
 |zero=>rfl
 |succ n a=>rw[iw,cy,List.sum_append,a,Sx.sm];simp
noncomputable abbrev gL(c:List (Nat×Int)):f7:=.list (c.map λe=>.tuple [.int (e.1:Int),.int e.2])
def O8:List (Nat×Int)->Nat->Int
 | [],_=>0
 |e::c,r=>(if e.1=r then e.2 else 0)+O8 c r
theorem Uo(f:Nat->Int):∀c:List (Nat×Int),(∀e∈c,e.1<m)->(c.map λe=>f e.1*e.2).sum=Sx.dot m f (O8 c):=by
 intro l_;induction l_ with
 |nil =>
  intro _;delta Sx.dot;rw[Sx.iT λi _=>by rw[O8,V9]];rfl
 |cons e c ih_ =>
  intro h;rw[C6,List.sum_cons,(ih_ λx g=>h x (C4 _ g))]
  delta Sx.dot;have d:(Sx.sm m λr=>f r*O8 (e::c) r)=Sx.sm m λr=>(if r=e.1 then f e.1*e.2 else 0)+f r*O8 c r:=Sx.A6 λr _=>by
   rw[O8];by_cases z:e.1=r;rw[t2 z,t2 z.symm,z,jT];rw[s9 z,s9 λy=>z y.symm,X7,X7]
  have a:(Sx.sm m λr=>if r=e.1 then f e.1*e.2 else 0)=f e.1*e.2:=by rw[Sx.W8 (h e C9) λi _ b=>by rw[s9 b],t2 rfl]
  rw[d,Sx.jn,a]
theorem bZ(h:n<=1000):(rl n f).length<=1000000:=by rw[J8];exact pJ
theorem Jn{f:Nat->Int}(c:m<=1000)(b:∀i,i<m->Bt 60000 (f i))(d:∀i,i<m->Bt 60000 (g i)):mF [il m f,il m g]=sd (.int (Sx.dot m f g)):=by
 delta mF;walk_at "r";rw[lD];walk_at "r";rw[t2 (bZ c),O7 λi a=>⟨_,_,rfl,by delta qp;walk_at "r";rw[D8 (b i a) (d i a)],rfl⟩];walk_at "r";rw[Ye];walk_at "r";rw[Lg];rfl
theorem yt{c:List (Nat×Int)}(p:c.length<=1000)(a:∀e∈c,e.1<m/\Bt 60000 e.2)(k:∀i,i<m->Bt 60000 (g i)):av [il m g,gL c]=sd (.int (Sx.dot m g (O8 c))):=by
 delta av;walk_at "r";have e:M6 (L8 2) A5 X1 [sd (il m g),sd (gL c)] (c.map λe=>.tuple [.int e.1,.int e.2])=U (c.map λe=>.int (g e.1*e.2)):=by
  have:∀l:List (Nat×Int),(∀e∈l,e.1<m/\Bt 60000 e.2)->M6 (L8 2) A5 X1 [sd (il m g),sd (gL c)] (l.map λe=>.tuple [.int e.1,.int e.2])=U (l.map λe=>.int (g e.1*e.2)):=by
   intro l;induction l with
   |nil=>intro _;rfl
   |cons x l o =>
    intro h;obtain⟨b,f⟩:=h x C9;rw[C6,M6];simp only[L8,X9,jV,V5,z9,pQ,rY,bx,bu];have d:X1 [sd (.int x.1),sd (.int x.2),sd (il m g),sd (gL c)]=sd (.int (g x.1*x.2)):=by delta X1;walk_at "r";rw[N9 _ b];walk_at "r";rw[D8 (k _ b) f]
    rw[d];rw[o λy n=>h y (C4 _ n)];rfl
  exact this c a
 rw[t2 (by rw[E7];exact pJ),e];walk_at "r";rw[ints_map,z9,Uo g c λe j=>(a e j).1];rfl
theorem AM{f:Nat->Int}(j:m<=1000)(o:∀i,i<m->Bt 20000 (f i))(n:∀i,i<m->Bt 20000 (g i))(l:Bt 20000 b)(q:Bt 20000 t)(p:Bt 8000 y)(s:0<y):
  ∃r,iL [il m f,il m g,.int b,.int t,.int y]=U r/\r.d=il m λi=>(f i*t-b*g i).fdiv y:=by
 have k:(b=0/\t=y)\/¬(b=0/\t=y):=Classical.em _;rcases k with ⟨a,h⟩|c
 subst a h;refine⟨.dat (il m f),?_,?_⟩;delta iL;walk_at "r";show mf (rl m λi=>.int (f i))=.list (rl m λi=>.int ((f i*t-0*g i).fdiv t));rw[bT λi _=>?_];rw[cR,ur,Int.mul_fdiv_cancel _ M4]
 . refine⟨.own (rl m λi=>.int ((f i*t-b*g i).fdiv y)),?_,rfl⟩
   delta iL;walk_at "r";have e:(if b=0 then(U (decide (t=y)))else U U')=U U':=by
    by_cases a:b=0;rw[t2 a,Z9 λz=>c ⟨a,z⟩];rw[s9 a]
   rw[e];walk_at "r";rw[lD];walk_at "r";rw[t2 (bZ j),O7 λi d=>⟨_,_,rfl,by delta sx;walk_at "r";rw[D8 ((o i d).mono f5) (q.mono f5),D8 (l.mono f5) ((n i d).mono f5)];walk_at "r";rw[S0 M4 p],rfl⟩];rfl
end Law
set_option hygiene false
local macro_rules|`(tactic|walk_at "f")=>`(tactic|repeat (first|rw[t2 trivial]|rw[s9 A9]))
set_option hygiene true
namespace Law
open PySem L2
structure W5 where
 m:Nat
 n:Nat
 sc:Nat->Int
 col:Nat->List (Nat×Int)
 mu:Nat->Int
 wt:Nat->Nat->Int
 un:Int
 lim:Nat->Option Int
def gK:Option Int->f7
 |none=>.none
 |some v=>.int v
def W5.pb(Q:W5)(b:Nat->Int):Sx.Pb:=⟨Q.m,Q.n,λj=>O8 (Q.col j),b,Q.lim,Q.wt⟩
noncomputable def K4(Q:W5)(T:Sx.Tb):List (Str×PF):=[("scales",.dat (il Q.n Q.sc)),("columns",.dat (.list (rl Q.n λj=>gL (Q.col j)))),("multiples",.own (rl 3 λt=>.int (Q.mu t))),("weights",.own (rl 3 λt=>il Q.n (Q.wt t))),("unit",.dat (.int Q.un)),("rights",.own (rl Q.m λp=>.int (T.rt p))),("limits",.dat (.list (rl Q.n λj=>gK (Q.lim j)))),("chosen",.own (rl Q.m λk=>.int (T.B k:Int))),("full",.own (rl Q.n λj=>.bool (T.full j))),("size",.dat (.int T.size)),("inverse",.dat (.list (rl Q.m λk=>il Q.m (T.inv k)))),("prices",.own (rl 3 λt=>il Q.m (T.pr t)))]
abbrev C5(Q:W5)(T:Sx.Tb):OD:=.ins "Table" (K4 Q T)
def F5(Q:W5)(T:Sx.Tb):f7:=(C5 Q T).d
abbrev MH:List Str:=["scales","columns","multiples","weights","unit","rights","limits","chosen","full","size","inverse","prices"]
noncomputable abbrev lT(Q:W5)(T:Sx.Tb):List f7:=[(il Q.n Q.sc),(.list (rl Q.n λj=>gL (Q.col j))),.list (rl 3 λt=>.int (Q.mu t)),.list (rl 3 λt=>il Q.n (Q.wt t)),(.int Q.un),.list (rl Q.m λp=>.int (T.rt p)),(.list (rl Q.n λj=>gK (Q.lim j))),.list (rl Q.m λk=>.int (T.B k:Int)),.list (rl Q.n λj=>.bool (T.full j)),(.int T.size),(.list (rl Q.m λk=>il Q.m (T.inv k))),.list (rl 3 λt=>il Q.m (T.pr t))]
theorem Zj(Q:W5)(T:Sx.Tb):F5 Q T=Ah "Table" MH (lT Q T):=rfl
theorem bJ(Q:W5)(T:Sx.Tb):vy "Table" (F5 Q T)=U (MH.map .str,lT Q T):=by rw[Zj];exact Nj _ _ _
theorem Om(w:Option Addr)(Q:W5)(T:Sx.Tb):PV.d (.ob w (.ins "Table" (K4 Q T)))=F5 Q T:=rfl
theorem Bv(b:Bool):Oh (PV.d (.dat (.bool b)))=U b:=rfl
section
variable(Q:W5)(T:Sx.Tb)
theorem yh:Y8 "Table" "scales" (F5 Q T)=U ((il Q.n Q.sc)):=by delta Y8;rw[bJ,z9];simp only[C6,U3];walk_at "f"
theorem Bf:D9 "scales" (K4 Q T)=U (.dat (il Q.n Q.sc)):=by simp only[K4,D9];walk_at "f"
theorem vY:Y8 "Table" "columns" (F5 Q T)=U ((.list (rl Q.n λj=>gL (Q.col j)))):=by delta Y8;rw[bJ,z9];simp only[C6,U3];walk_at "f"
theorem xY:D9 "columns" (K4 Q T)=U (.dat (.list (rl Q.n λj=>gL (Q.col j)))):=by simp only[K4,D9];walk_at "f"
theorem sI:Y8 "Table" "multiples" (F5 Q T)=U (.list (rl 3 λt=>.int (Q.mu t))):=by delta Y8;rw[bJ,z9];simp only[C6,U3];walk_at "f"
theorem tO:D9 "multiples" (K4 Q T)=U (.own (rl 3 λt=>.int (Q.mu t))):=by simp only[K4,D9];walk_at "f"
theorem vW:Y8 "Table" "weights" (F5 Q T)=U (.list (rl 3 λt=>il Q.n (Q.wt t))):=by delta Y8;rw[bJ,z9];simp only[C6,U3];walk_at "f"
theorem xW:D9 "weights" (K4 Q T)=U (.own (rl 3 λt=>il Q.n (Q.wt t))):=by simp only[K4,D9];walk_at "f"
theorem DY:Y8 "Table" "unit" (F5 Q T)=U ((.int Q.un)):=by delta Y8;rw[bJ,z9];simp only[C6,U3];walk_at "f"
theorem HU:D9 "unit" (K4 Q T)=U (.dat (.int Q.un)):=by simp only[K4,D9];walk_at "f"
theorem yi:Y8 "Table" "rights" (F5 Q T)=U (.list (rl Q.m λp=>.int (T.rt p))):=by delta Y8;rw[bJ,z9];simp only[C6,U3];walk_at "f"
theorem tM:D9 "rights" (K4 Q T)=U (.own (rl Q.m λp=>.int (T.rt p))):=by simp only[K4,D9];walk_at "f"
theorem yk:Y8 "Table" "limits" (F5 Q T)=U ((.list (rl Q.n λj=>gK (Q.lim j)))):=by delta Y8;rw[bJ,z9];simp only[C6,U3];walk_at "f"
theorem Bg:D9 "limits" (K4 Q T)=U (.dat (.list (rl Q.n λj=>gK (Q.lim j)))):=by simp only[K4,D9];walk_at "f"
theorem yl:Y8 "Table" "chosen" (F5 Q T)=U (.list (rl Q.m λk=>.int (T.B k:Int))):=by delta Y8;rw[bJ,z9];simp only[C6,U3];walk_at "f"
theorem tP:D9 "chosen" (K4 Q T)=U (.own (rl Q.m λk=>.int (T.B k:Int))):=by simp only[K4,D9];walk_at "f"
theorem Ea:Y8 "Table" "full" (F5 Q T)=U (.list (rl Q.n λj=>.bool (T.full j))):=by delta Y8;rw[bJ,z9];simp only[C6,U3];walk_at "f"
theorem Ab:D9 "full" (K4 Q T)=U (.own (rl Q.n λj=>.bool (T.full j))):=by simp only[K4,D9];walk_at "f"
theorem DZ:Y8 "Table" "size" (F5 Q T)=U ((.int T.size)):=by delta Y8;rw[bJ,z9];simp only[C6,U3];walk_at "f"
theorem HV:D9 "size" (K4 Q T)=U (.dat (.int T.size)):=by simp only[K4,D9];walk_at "f"
theorem vX:Y8 "Table" "inverse" (F5 Q T)=U ((.list (rl Q.m λk=>il Q.m (T.inv k)))):=by delta Y8;rw[bJ,z9];simp only[C6,U3];walk_at "f"
theorem xX:D9 "inverse" (K4 Q T)=U (.dat (.list (rl Q.m λk=>il Q.m (T.inv k)))):=by simp only[K4,D9];walk_at "f"
theorem yj:Y8 "Table" "prices" (F5 Q T)=U (.list (rl 3 λt=>il Q.m (T.pr t))):=by delta Y8;rw[bJ,z9];simp only[C6,U3];walk_at "f"
theorem tN:D9 "prices" (K4 Q T)=U (.own (rl 3 λt=>il Q.m (T.pr t))):=by simp only[K4,D9];walk_at "f"
theorem HM:U3 "rest" (MH.map .str) (lT Q T)=J:=by simp only[C6,oP,U3];walk_at "f"
theorem xQ:U3 "amounts" (MH.map .str) (lT Q T)=J:=by simp only[C6,oP,U3];walk_at "f"
theorem wL:D9 "flip" (K4 Q T)=J:=by simp only[K4,D9];walk_at "f"
theorem SS:D9 "turn" (K4 Q T)=J:=by simp only[K4,D9];walk_at "f"
theorem LM(r:Nat->Int):Q0 "rights" (.own (rl Q.m λp=>.int (r p))) (K4 Q T)=K4 Q {T with rt:=r}:=by simp only[K4,Q0];walk_at "f"
theorem LO(r:Nat->Nat):Q0 "chosen" (.own (rl Q.m λk=>.int (r k:Int))) (K4 Q T)=K4 Q {T with B:=r}:=by simp only[K4,Q0];walk_at "f"
theorem Xb(r:Nat->Bool):Q0 "full" (.own (rl Q.n λj=>.bool (r j))) (K4 Q T)=K4 Q {T with full:=r}:=by simp only[K4,Q0];walk_at "f"
theorem Xa(r:Int):Q0 "size" (.dat (.int r)) (K4 Q T)=K4 Q {T with size:=r}:=by simp only[K4,Q0];walk_at "f"
theorem Jj(r:Nat->Nat->Int):Q0 "inverse" (.dat (.list (rl Q.m λk=>il Q.m (r k)))) (K4 Q T)=K4 Q {T with inv:=r}:=by simp only[K4,Q0];walk_at "f"
theorem LN(r:Nat->Nat->Int):Q0 "prices" (.own (rl 3 λt=>il Q.m (r t))) (K4 Q T)=K4 Q {T with pr:=r}:=by simp only[K4,Q0];walk_at "f"
end
theorem rW{Q:W5}{T:Sx.Tb}{m:Str}{f:FV}{b:DV}{a:DL}{ds:Ds}{pv:PV}{l:List f7}(h:b ds=U pv)(hd:pv.d=F5 Q T)(e:U3 m (MH.map .str) (lT Q T)=J)(c:a ds=U l):S3 "Table" m f b a ds=f (F5 Q T::l):=by delta S3;rw[h,z9,hd,bJ,z9];simp only[e,c,z9]
structure bp(Q:W5)(T:Sx.Tb):Prop where
 m1:Q.m<=1000
 n1:Q.n<=1000
 cl:∀j,j<Q.n->(Q.col j).length<=1000
 cb:∀j,j<Q.n->∀e∈Q.col j,e.1<Q.m/\Bt 7000 e.2
 wb:∀t j,t<3->j<Q.n->Bt 7000 (Q.wt t j)
 lb:∀j v,j<Q.n->Q.lim j=U v->Bt 7000 v
 bn:∀k,k<Q.m->T.B k<Q.n
 rb:∀p,p<Q.m->Bt 7000 (T.rt p)
 ib:∀k q,k<Q.m->q<Q.m->Bt 7000 (T.inv k q)
 pb:∀t q,t<3->q<Q.m->Bt 7000 (T.pr t q)
 sb:Bt 7000 T.size
 sp:0<T.size
 ab:∀k,k<Q.m->Bt 7000 (T.am (Q.pb λ_=>0) k)
 yu:∀a k,a<Q.n->k<Q.m->Bt 7000 (T.w9 (Q.pb λ_=>0) a k)
 rsb:∀t a,t<3->a<Q.n->Bt 7000 (T.rest (Q.pb λ_=>0) t a)
end Law
set_option hygiene false
local macro_rules|`(tactic|walk_at "v")=>`(tactic|((first|simp only[G7,O0,iJ,gI,cM,Y6,nq,aq,S9,ig,jG,Ei,tH,Q1,lO,P4,ie,P6,fk,Law.yh,Law.vY,Law.sI,Law.vW,Law.DY,Law.yi,Law.yk,Law.yl,Law.Ea,Law.DZ,Law.vX,Law.yj,Law.Bf,Law.xY,Law.tO,Law.xW,Law.HU,Law.tM,Law.Bg,Law.tP,Law.Ab,Law.HV,Law.xX,Law.tN,Law.Om,Law.Bv]|walk_at "r");repeat (first|simp only[G7,O0,iJ,gI,cM,Y6,nq,aq,S9,ig,jG,Ei,tH,Q1,lO,P4,ie,P6,fk,Law.yh,Law.vY,Law.sI,Law.vW,Law.DY,Law.yi,Law.yk,Law.yl,Law.Ea,Law.DZ,Law.vX,Law.yj,Law.Bf,Law.xY,Law.tO,Law.xW,Law.HU,Law.tM,Law.Bg,Law.tP,Law.Ab,Law.HV,Law.xX,Law.tN,Law.Om,Law.Bv]|walk_at "r")))
set_option hygiene true
namespace Law
open PySem L2
variable{m l O:Nat}{D E M:Int}{r a2:Ds}{f:W5}{G v:DV}{z A:Rat}{g R:PV}{o:Q2}{u:List f7}{B:Str}{C:Nat->Int}{K:f7}{L:List Key->Rat}{N:Option Addr}{a6:Nat->Rat}{a7:Sx.Pb}{a8:Option PV}{a9:List (Str×PF)}{b3:FV}{b4:List Key}{b5:DO}{b6:PF}{b7:Tr}{b8:List Int}{b9:Type}{c7:Bool}{c9:Ds->Option (List AV)}{d3:Sx.Tb}{d5:f7->Option (List f7)}{d8:f7->DD}{e8:Nat->Nat}{e9:Option Out}
section
variable{T:Sx.Tb}
theorem lt3(h:m<3):m=0\/m=1\/m=2:=by lia
theorem Hu(b:m<3)(Q:l<f.n)(cl:(f.col l).length<=1000)(c:∀e∈f.col l,e.1<f.m/\Bt 7000 e.2)(g:Bt 7000 (f.wt m l))(h:Bt 7000 T.size)(pb:∀q,q<f.m->Bt 7000 (T.pr m q)):V6 [F5 f T,.int (m:Int),.int (l:Int)]=sd (.int (T.rest (f.pb λ_=>0) m l)):=by
 delta V6;walk_at "v";rw[N9 _ b];walk_at "v";rw[N9 _ Q,N9 _ b];walk_at "v";rw[N9 _ Q];walk_at "v";rw[D8 (g.mono f5) (h.mono f5),yt cl (λe d=>⟨(c e d).1,((c e d).2).mono f5⟩) λi j=>(pb i j).mono f5];rfl
theorem rest_eq(K:bp f T)(c:m<3)(b:l<f.n):V6 [F5 f T,.int (m:Int),.int (l:Int)]=sd (.int (T.rest (f.pb λ_=>0) m l)):=
 Hu c b (K.cl l b) (K.cb l b) (K.wb m l c b) K.sb λq hq=>K.pb m q c hq
theorem yB(K:bp f T):U8 [F5 f T]=U (.own (rl f.m λk=>.int (T.am (f.pb λ_=>0) k))):=by
 delta U8;walk_at "v";rw[t2 (bZ K.m1),O7 λk b=>⟨_,_,rfl,by delta gN;walk_at "v";rw[Jn K.m1 (λi a=>(K.ib k i b a).mono f5) λi a=>(K.rb i a).mono f5],rfl⟩];rfl
theorem SA(K:bp f T)(b:m<f.n):Z4 [F5 f T,.int (m:Int)]=U (.own (rl f.m λk=>.int (T.w9 (f.pb λ_=>0) m k))):=by
 delta Z4;walk_at "v";rw[t2 (bZ K.m1),O7 λk d=>⟨_,_,rfl,by delta ko;walk_at "v";rw[N9 _ b];walk_at "v";rw[yt (K.cl m b) (λe c=>⟨(K.cb m b e c).1,((K.cb m b e c).2).mono f5⟩) λi Q=>(K.ib k i d Q).mono f5],rfl⟩];rfl
end
section
variable{T:Sx.Tb}
abbrev C1(Q:W5):Sx.Pb:=Q.pb λ_=>0
theorem Ug(o:Option Int):S5 (gK o) (.int 0)=sd (.bool (decide (o=U 0))):=by
 cases o with
 |none =>
  rfl
 |some v =>
  rw[show gK (U v)=.int v from rfl,rS];simp
noncomputable def BW(r:Nat->Int):Option (Nat×Int):=
 if r 0≠0 then(if r 0<0 then U (0,r 0)else J)else if r 1≠0 then(if r 1<0 then U (1,r 1)else J)else if r 2≠0 then(if r 2<0 then U (2,r 2)else J)else J
theorem Bn(r:Nat->Int):(BW r).isSome=Uf↔Sx.Neg r:=by
 delta BW Sx.Neg;by_cases a:r 0=0
 . rw[s9 (λz=>z a)];by_cases b:r 1=0
   . rw[s9 (λz=>z b)];by_cases c:r 2=0;rw[s9 (λz=>z c)];simp;simp[*]
     . rw[t2 c];split<;>simp<;>simp_all
   . rw[t2 b];split<;>simp<;>simp_all
 simp_all
noncomputable def gn(Q:W5)(T:Sx.Tb)(j:Nat):Option (Nat×Int):=if Q.lim j=U 0 then J else BW λt=>T.sg j*T.rest (C1 Q) t j
noncomputable def jB:Option (Nat×Int)->f7
 |none=>.none
 |some (t,r)=>.tuple [.int (t:Int),.int r]
theorem gn_enter(a:m<f.n)(b:Nat->Int):(gn f T m).isSome=Uf↔Sx.R3 (f.pb b) T m:=by
 delta gn;constructor
 . intro h;by_cases c:f.lim m=U 0
   . simp_all
   rw[s9 c]at h;exact⟨a,c,(Bn _).mp h⟩
 intro h;rw[s9 (show f.lim m≠U 0 from h.u0)];exact(Bn _).mpr h.neg
theorem sgD(T:Sx.Tb)(j:Nat):(if T.full j=Uf then U (PV.dat (.int (-1)))else U (PV.dat (.int 1)))=U (PV.dat (.int (T.sg j))):=by delta Sx.Tb.sg;split<;>rfl
theorem Vi(T:Sx.Tb)(j:Nat):Bt 60000 (T.sg j):=by
 delta Sx.Tb.sg;split;exact Bt.lit;exact Bt.lit
theorem wQ(K:bp f T){t:Nat}(b:t<3)(a:m<f.n)(e:Option PV):
  lC [sd (F5 f T),iD (m:Int),iD (T.sg m),iD (t:Int),e]=U (if T.sg m*T.rest (C1 f) t m≠0 then .ret (.dat (if T.sg m*T.rest (C1 f) t m<0 then .tuple [.int (t:Int),.int (T.sg m*T.rest (C1 f) t m)]else .none))
   else .next [sd (F5 f T),iD (m:Int),iD (T.sg m),iD (t:Int),iD (T.sg m*T.rest (C1 f) t m)]):=by
 delta lC;walk_at "v";rw[rW (l:=[.int t,.int m]) rfl rfl (HM f T) rfl,rest_eq K b a];walk_at "v";rw[D8 (Vi T m) ((K.rsb t m b a).mono f5)];walk_at "v";by_cases c:T.sg m*T.rest (C1 f) t m=0;rw[s9 (λz=>z c),s9 (λz=>z c)]
 . rw[t2 c,t2 c];by_cases d:T.sg m*T.rest (C1 f) t m<0
   . simp_all
   simp only[s9 d];walk_at "v"
theorem rP{ds1:Ds}(a:d8 K a2=U ds1)(b:b5 ds1=U (.ret g)):aF d8 b5 (K::u) a2=U (.ret g):=by
 unfold aF
 simp_all
theorem vA(K:bp f T)(a:m<f.n):mH [F5 f T,.int (m:Int)]=sd (jB (gn f T m)):=by
 delta mH gn;walk_at "v";rw[N9 _ a];walk_at "v";rw[Ug];walk_at "v";by_cases c:f.lim m=U 0;simp only[t2 c];rfl
 . simp only[s9 c];walk_at "v";rw[N9 _ a];walk_at "v";rw[sgD];walk_at "v";have b:=wQ K (t:=0) f5 a;have d:=wQ K (t:=1) f5 a;have e:=wQ K (t:=2) f5 a;delta BW;by_cases Q:T.sg m*T.rest (C1 f) 0 m=0
   . simp only[Q]at b ⊢;rw[P2 rfl (b J)];by_cases g:T.sg m*T.rest (C1 f) 1 m=0
     . simp only[g]at d ⊢;rw[P2 rfl (d _)];by_cases h:T.sg m*T.rest (C1 f) 2 m=0;simp only[h]at e ⊢;rw[P2 rfl (e _)];rfl
       . simp only[t2 (show T.sg m*T.rest (C1 f) 2 m≠0 from h)]at e ⊢
         rw[rP rfl (e _)];split<;>rfl
     . simp only[t2 (show T.sg m*T.rest (C1 f) 1 m≠0 from g)]at d ⊢
       rw[rP rfl (d _)];split<;>rfl
   . simp only[t2 (show T.sg m*T.rest (C1 f) 0 m≠0 from Q)]at b ⊢
     rw[rP rfl (b _)];split<;>rfl
theorem TR{gt:f7->DD}{G:DO}(I:Nat->Ds->Prop)(R:PV->Prop)(hs:∀i d ds,u[i]? = U d->I i ds->∃ds1,gt d ds=U ds1/\((∃ds2,G ds1=U (.next ds2)/\I (i+1) ds2)\/∃pv,G ds1=U (.ret pv)/\R pv)):
  ∀(k i:Nat) (ds:Ds),i+k=u.length->I i ds->(∃ds',aF gt G (u.drop i) ds=U (.next ds')/\I u.length ds')\/∃pv,aF gt G (u.drop i) ds=U (.ret pv)/\R pv:=by
 intro l_;induction l_ with
 |zero =>
  intro i ds e h;rw[Ge (by simp_all)]
  have:i=u.length:=by lia
  rw[<-this];exact .inl ⟨ds,rfl,h⟩
 |succ k ih_ =>
  intro i ds e h;have c:i<u.length:=by lia
  rw[rq c];obtain⟨ds1,f,⟨ds2,b,a⟩|⟨pv,b,a⟩⟩:=hs i _ ds (K7 c) h;rw[P2 f b];exact ih_ (i+1) ds2 u3 a;exact .inr ⟨pv,rP f b,a⟩
def optN:Option Nat->f7
 |none=>.none
 |some a=>.int (a:Int)
theorem a0V(x y:Nat×Int):∃b,Aa (jB (U x)) (jB (U y))=sd (.bool b):=⟨_,rfl⟩
theorem Bb(K:bp f T)(e:Bool):∃r:Option Nat,iM [F5 f T,.bool e]=sd (optN r)/\(r=J->∀j,j<f.n->gn f T j=J)/\∀a,r=U a->a<f.n/\(gn f T a).isSome=Uf/\(e=Uf->∀j,j<a->gn f T j=J):=by
 delta iM;walk_at "v";rw[J8,bS (by have:=K.n1;lia)]
 walk_at "v";rw[gw,xD];have u:=TR (gt:=K5 4) (G:=bF)
  (λi H=>∃(r:Option Nat) (best:Option (Nat×Int)) (x o:Option PV),H=[sd (F5 f T),sd (.bool e),sd (optN r),sd (jB best),x,o]/\(r.isSome=best.isSome)/\(r=J->∀j,j<i->gn f T j=J)/\(∀a,r=U a->a<f.n/\(gn f T a).isSome=Uf/\e=U'))
  (λpv=>∃a,pv=.dat (optN (U a))/\a<f.n/\(gn f T a).isSome=Uf/\∀j,j<a->gn f T j=J)
  (by
   rintro i d H P ⟨r,best,x,o,rfl,q,t,m⟩;obtain⟨p,rfl⟩:=xE P;refine⟨_,rfl,?_⟩;cases hg:gn f T i with
   |none =>
    refine .inl ⟨[sd (F5 f T),sd (.bool e),sd (optN r),sd (jB best),iD i,sd .none],?_,r,best,_,_,rfl,q,λk j E=>?_,m⟩;delta bF;walk_at "v";rw[vA K p,hg];rfl;by_cases c:j=i;rw[c];exact hg;exact t k j (pa (ri v5) v5)
   |some g =>
    have L:(r=J\/∃l Q,r=U l/\best=U Q/\(∃w,Aa (jB (U g)) (jB (U Q))=sd (.bool w)/\w=Uf))->bF [sd (F5 f T),sd (.bool e),sd (optN r),sd (jB best),iD i,o]=if e=Uf then U (.ret (.dat (.int i)))else U (.next [sd (F5 f T),sd (.bool e),iD i,sd (jB (U g)),iD i,sd (jB (U g))]):=by
     obtain⟨A,B⟩:=g;rintro(rfl|⟨l,⟨O,N⟩,rfl,rfl,w,s,rfl⟩);delta bF;walk_at "v";rw[vA K p,hg];simp only[jB,optN];walk_at "v";delta bF;walk_at "v";rw[vA K p,hg];simp only[jB,optN]at s ⊢;walk_at "v";rw[s];walk_at "v"
    have I:e=U'->(r=J\/∃l Q,r=U l/\best=U Q/\(∃w,Aa (jB (U g)) (jB (U Q))=sd (.bool w)/\w=Uf))->(∃v,bF [sd (F5 f T),sd (.bool e),sd (optN r),sd (jB best),iD i,o]=U (.next v)/\∃(r:Option Nat) (best:Option (Nat×Int)) (x o:Option PV),v=[sd (F5 f T),sd (.bool e),sd (optN r),sd (jB best),x,o]/\(r.isSome=best.isSome)/\(r=J->∀j,j<i+1->gn f T j=J)/\(∀a,r=U a->a<f.n/\(gn f T a).isSome=Uf/\e=U')):=λy h=>by rw[L h,y];exact⟨_,rfl,U i,U g,_,_,rfl,rfl,(λz=>by exact nS z),λa D=>by cases D;exact⟨p,by rw[hg];rfl,rfl⟩⟩
    cases k:r with
    |none =>
     cases y:e with
     |false =>
      subst y k;exact .inl (I rfl (.inl rfl))
     |true =>
      subst y k;exact .inr ⟨.dat (.int i),L (.inl rfl),i,rfl,p,by rw[hg];rfl,t rfl⟩
    |some l =>
     obtain⟨A,B,C⟩:=m l k;subst C;cases hbb:best with
     |none=>simp_all
     |some Q =>
      subst k hbb;obtain⟨w,s⟩:=a0V g Q;cases w with
      |true=>exact .inl (I rfl (.inr ⟨l,Q,rfl,rfl,Uf,s,rfl⟩))
      |false =>
       refine .inl ⟨[sd (F5 f T),sd (.bool U'),sd (optN (U l)),sd (jB (U Q)),iD i,sd (jB (U g))],?_,U l,U Q,_,_,rfl,rfl,(λz=>by exact nS z),m⟩
       obtain⟨A,B⟩:=g;obtain⟨O,N⟩:=Q;delta bF;walk_at "v";rw[vA K p,hg];simp only[jB,optN]at s ⊢;walk_at "v";rw[s];walk_at "v")
  f.n 0 [sd (F5 f T),sd (.bool e),sd .none,sd .none,J,J] (by rw[J8];exact qU _ _) ⟨J,J,J,J,rfl,rfl,λ_ j E=>by exact nt,λa h=>by exact nE h⟩
 rw[List.drop_zero]at u;rcases u with ⟨R,t,r,best,x,o,rfl,q,m,F⟩|⟨pv,t,a,rfl,m,F,M⟩
 rw[t];refine⟨r,rfl,λk j E=>m k j (by rw[J8];exact E),λa D=>?_⟩;obtain⟨A,B,C⟩:=F a D;exact⟨A,B,λz=>by rw[C]at z;exact nT z⟩;rw[t];exact⟨U a,rfl,(λz=>by exact nS z),λb q=>by cases q;exact⟨m,F,λ_=>M⟩⟩
end
abbrev bH(Q:W5)(T:Sx.Tb)(a:Nat):List f7:=rl Q.m λk=>.int (T.w9 (C1 Q) a k)
structure fy where
 top:Int
 bot:Int
 ch:Nat
 pl:Option Nat
 tp:Bool
variable{H:fy}{d9:List fy}
noncomputable def U2(s:fy):f7:=.tuple [.int s.top,.int s.bot,.int (s.ch:Int),optN s.pl,.bool s.tp]
section
variable{T:Sx.Tb}
def vi(Q:W5)(a:Nat):List fy:=match Q.lim a with
 |some v=>[⟨v,1,a,J,U'⟩]
 |none=>[]
noncomputable def stK(Q:W5)(T:Sx.Tb)(a k:Nat):List fy:=
 if 0<T.sg a*T.w9 (C1 Q) a k then[⟨T.am (C1 Q) k,T.sg a*T.w9 (C1 Q) a k,T.B k,U k,U'⟩]
 else if T.sg a*T.w9 (C1 Q) a k<0 then(match Q.lim (T.B k)with
  |some v=>[⟨v*T.size-T.am (C1 Q) k,-(T.sg a*T.w9 (C1 Q) a k),T.B k,U k,Uf⟩]
  |none=>[])
 else[]
def stI(Q:W5)(T:Sx.Tb)(a:Nat):Nat->List fy
 | 0=>vi Q a
 |k+1=>stI Q T a k++stK Q T a k
theorem Ws(Q:W5)(T:Sx.Tb)(a:Nat):∀k,(stI Q T a k).length<=k+1:=by
 intro l_;induction l_ with
 |zero =>
  unfold stI vi;split<;>simp
 |succ k ih_ =>
  have:=ih_;rw[stI,aa];have:(stK Q T a k).length<=1:=by
   unfold stK;split;simp
   . split
     . split<;>simp
     simp
  exact yU v5 v5
theorem Ll(K:bp f T)(Q:m<f.n)(b:O<f.m)(x7 x8 h:Option PV){l:List fy}(o:l.length<=10000):∃i j g,
  mI [sd (F5 f T),iD (m:Int),sd (.list (bH f T m)),U (.own (l.map U2)),iD (T.sg m),iD (0+(O:Int)),iD (T.am (C1 f) O),x7,x8,h]=U (.next [sd (F5 f T),iD (m:Int),sd (.list (bH f T m)),U (.own ((l++stK f T m O).map U2)),iD (T.sg m),iD (0+(O:Int)),iD (T.am (C1 f) O),i,j,g]):=by
 have d:=K.bn O b;refine⟨iD (T.B O),sd (gK (f.lim (T.B O))),iD (T.sg m*T.w9 (C1 f) m O),?_⟩;delta mI;walk_at "v";rw[LA _ b];walk_at "v";rw[N9 _ d];walk_at "v";rw[LA _ b];walk_at "v";rw[D8 (Vi T m) ((K.yu m O Q b).mono (n:=60000) f5)];walk_at "v";delta stK;by_cases c:0<T.sg m*T.w9 (C1 f) m O;simp only[t2 c];rw[pT _ rfl (by rw[E7];exact pd v5 f5),cy];simp only[X7];rfl
 . simp only[s9 c];by_cases e:T.sg m*T.w9 (C1 f) m O<0
   . simp only[t2 e];cases hlim:f.lim (T.B O)with
     |none =>
      simp only[gK];walk_at "v"
     |some v =>
      simp only[gK];walk_at "v";rw[D8 ((K.lb _ v d hlim).mono f5) (K.sb.mono f5)];walk_at "v";rw[pT _ rfl (by rw[E7];exact pd v5 f5),cy];simp only[X7];rfl
   simp only[s9 e];walk_at "v"
theorem QX(K:bp f T)(g:m<f.n):jh [F5 f T,.int (m:Int),.list (bH f T m)]=U (.own ((stI f T m f.m).map U2)):=by
 have:=K.m1;obtain⟨s,r,j,o,c,b,Q,rfl⟩:=ck (gt:=Y0 2 (D6 5 (D6 6 Y1))) (items:=rl f.m λi=>.tuple [.int (0+i),.int (T.am (C1 f) i)])
  (λi q=>∃j o c b Q,q=[sd (F5 f T),iD m,sd (.list (bH f T m)),U (.own ((stI f T m i).map U2)),iD (T.sg m),j,o,c,b,Q])
  ⟨J,J,J,J,J,rfl⟩ (by
   rintro i d q u ⟨j,o,c,b,Q,rfl⟩;obtain⟨t,rfl⟩:=xE u;obtain⟨y,z,x,e⟩:=Ll K g t c b Q (l:=stI f T m i) (by have:=Ws f T m i;omega)
   exact⟨_,_,rfl,.inl e,_,_,_,_,_,rfl⟩)
 rw[J8]at r;have w:∀p,p=(stI f T m 0).map U2->(t9 (u9 4 (fN (A1 (u4 E5 (G7 "Table" "full" (t6 0)) (t6 1))) (gS di (fC (.int 1))) (fC (.int 1)))) (t9 (J3 (E9 Y9 (f6 (S3 "Table" "amounts" U8 (t6 0) u5) u5)) (Y0 2 (D6 5 (D6 6 Y1))) mI) (V7 3))) [sd (F5 f T),iD m,sd (.list (bH f T m)),U (.own p),J,J,J,J,J,J]=U (.ret (.own ((stI f T m f.m).map U2))):=by rintro p rfl;walk_at "v";rw[N9 _ g];walk_at "v";rw[sgD];walk_at "v";rw[rW rfl rfl (xQ f T) rfl,yB K];walk_at "v";rw[vD,r];walk_at "v"
 have h:(O5 (A1 (u4 gQ (u4 E5 (G7 "Table" "limits" (t6 0)) (t6 1)) (fC .none))) (dk 3 (y4 (f6 (u4 E5 (G7 "Table" "limits" (t6 0)) (t6 1)) (f6 (fC (.int 1)) (f6 (t6 1) (f6 (fC .none) (f6 (fC (.bool U')) u5))))))) K3) [sd (F5 f T),iD m,sd (.list (bH f T m)),U (.own []),J,J,J,J,J,J]=U (.next [sd (F5 f T),iD m,sd (.list (bH f T m)),U (.own ((stI f T m 0).map U2)),J,J,J,J,J,J]):=by
  walk_at "v";rw[N9 _ g];unfold stI vi;cases f.lim m with
  |none=>rfl
  |some v =>
   rfl
 unfold jh K6;rw[t2 (by rfl),B8,show R9 3 (O6 u5) (Q3 [F5 f T,.int m,.list (bH f T m)]++C2 (10-3) J)=U (.next [sd (F5 f T),iD m,sd (.list (bH f T m)),U (.own []),J,J,J,J,J,J])from rfl,A4,B8,h,A4,w _ rfl];rfl
def rE(s r:fy):Bool:=decide (s.top*r.bot<r.top*s.bot)||(decide (s.top*r.bot=r.top*s.bot)&&decide (s.ch<r.ch))
structure II(s:fy):Prop where
 t:Bt 20000 s.top
 b:Bt 20000 s.bot
 p:0<s.bot
theorem Lo{r:fy}(hs:II H)(a:II r):pz [U2 H,U2 r]=sd (.bool (rE H r)):=by
 delta pz U2;walk_at "v";rw[D8 (hs.t.mono f5) (a.b.mono f5)];walk_at "v";rw[D8 (a.t.mono f5) (hs.b.mono f5)];walk_at "v";delta rE;by_cases c:H.top*r.bot<r.top*H.bot;simp[c];rfl;by_cases d:H.top*r.bot=r.top*H.bot;simp[c];rfl;simp[c];rfl
def gH:Option fy->f7
 |none=>.none
 |some s=>U2 s
def gp(o:Option fy)(s:fy):Option fy:=match o with
 |none=>U s
 |some r=>if rE s r=Uf then U s else U r
theorem Ub(h:∀s∈d9,II s):cv [.list (d9.map U2)]=sd (gH (d9.foldl gp J)):=by
 have f:∀(d9:List fy) o L x,(∀s∈d9,II s)->(∀r,o=U r->II r)->∃b,aF (K5 2) bM (d9.map U2) [sd L,sd (gH o),x]=U (.next [sd L,sd (gH (d9.foldl gp o)),b]):=by
  intro d9;induction d9 with
  |nil=>exact λo L x _ _=>⟨x,rfl⟩
  |cons s d9 j =>
   intro o L x i g;have d:=i s C9;have e:bM [sd L,sd (gH o),sd (U2 s)]=U (.next [sd L,sd (gH (gp o s)),sd (U2 s)]):=by
    delta bM;cases o with
    |none =>
     rfl
    |some r =>
     simp only[gH];simp only[O5,sL,A1,t6,PZ,sq,z9,PV.vG,f9,f6,u5,Lo d (g r rfl)];delta gp;cases c:rE s r;simp only[c];rfl;simp only[c];rfl
   rw[C6,P2 rfl e,Fj];refine j _ L _ (λy m=>i y (C4 _ m)) λr a=>?_;unfold gp at a;split at a;cases a;exact d;split at a;cases a;exact d;cases a;exact g _ rfl
 obtain⟨b,e⟩:=f d9 J (.list (d9.map U2)) J h (λr z=>by exact nE z);delta cv;walk_at "v";have k:aF (K5 2) bM (d9.map U2) [sd (.list (d9.map U2)),sd .none,J]=U (.next [sd (.list (d9.map U2)),sd (gH (d9.foldl gp J)),b]):=e;rw[k];walk_at "v"
def le(r s:fy):Prop:=r.top*s.bot<s.top*r.bot\/(r.top*s.bot=s.top*r.bot/\r.ch<=s.ch)
theorem MX{r:fy}(h:rE H r=U'):le r H:=by
 unfold rE at h;rw[Pg,Bool.and_eq_false_iff]at h;obtain⟨b,a⟩:=h;by_cases c:H.top*r.bot=r.top*H.bot
 . rcases a with a|a
   exact absurd c (of_decide_eq_false a);have:=of_decide_eq_false a;exact .inr ⟨c.symm,mz v5⟩
 left;lia
theorem JX{r:fy}(h:rE H r=Uf):le H r:=by
 unfold rE at h;rw[Oy,rf]at h;rcases h with h|⟨a,b⟩
 exact .inl (oX h);have:=oX a;exact .inr ⟨by assumption,by lia⟩
theorem le_trans{s t:fy}(i:0<H.bot)(hs:0<s.bot)(g:0<t.bot)(d:le H s)(b:le s t):le H t:=by
 have k:H.top*s.bot<=s.top*H.bot:=by unfold le at d;omega
 have j:s.top*t.bot<=t.top*s.bot:=by unfold le at b;omega
 have:=jM k (U6 g);have:=jM j (U6 i);have:s.top*H.bot*t.bot=s.top*t.bot*H.bot:=by grind
 have a:s.bot*(H.top*t.bot)=H.top*s.bot*t.bot:=by grind
 have:s.bot*(t.top*H.bot)=t.top*s.bot*H.bot:=by grind
 have f:s.bot*(H.top*t.bot)<=s.bot*(t.top*H.bot):=by omega
 have:=zw f hs;by_cases c:H.top*t.bot=t.top*H.bot
 . right;refine⟨c,?_⟩;have e:H.top*s.bot*t.bot=s.top*H.bot*t.bot:=by rw[c]at a;omega
   have h:s.top*t.bot*H.bot=t.top*s.bot*H.bot:=by rw[c]at a;simp_all
   have:=uQ M4 e;have:=uQ M4 h;unfold le at d b;omega
 left;omega
theorem Nz:∀(l:List fy) (o:Option fy),(∀s∈l,0<s.bot)->(∀r,o=U r->0<r.bot)->(l.foldl gp o=J->o=J/\l=[])/\∀r,l.foldl gp o=U r->(o=U r\/r∈l)/\(∀s,o=U s->le r s)/\∀s∈l,le r s:=by
 intro l_;induction l_ with
 |nil =>
  intro o _ _;exact⟨λh=>⟨h,rfl⟩,λr h=>⟨.inl h,λs a=>by have n:o=U r:=h;rw[n]at a;cases a;exact .inr ⟨rfl,X6 _⟩,λs a=>absurd a B9⟩⟩
 |cons x l ih_ =>
  intro o h1 h2;have i:=h1 x C9;have q:∃y,gp o x=U y/\0<y.bot/\(o=U y\/y=x)/\le y x/\∀s,o=U s->le y s:=by
   delta gp;cases o with
   |none=>exact⟨x,rfl,i,.inr rfl,.inr ⟨rfl,X6 _⟩,λs z=>by exact nE z⟩
   |some r =>
    cases c:rE x r with
    |true=>exact⟨x,by simp[c],i,.inr rfl,.inr ⟨rfl,X6 _⟩,λs z=>by cases z;exact JX c⟩
    |false=>exact⟨r,by simp[c],h2 r rfl,.inl rfl,MX c,λs z=>by cases z;exact .inr ⟨rfl,X6 _⟩⟩
  obtain⟨y,e,g,d,m,t⟩:=q;rw[Fj,e];obtain⟨w,k⟩:=ih_ (U y) (λs a=>h1 s (C4 _ a)) λr z=>by cases z;exact g
  refine⟨λh=>(by have:=(w h).1;exact nS this),λr v=>?_⟩
  obtain⟨b,p,u⟩:=k r v;have f:0<r.bot:=by
   rcases b with b|b
   cases b;exact g;exact h1 r (C4 _ b)
  have j:=p y rfl;refine⟨?_,λs a=>le_trans f g (h2 s a) j (t s a),λs a=>?_⟩
  . rcases b with b|b
    . cases b;rcases d with d|d
      exact .inl d;rw[d];exact .inr C9
    exact .inr (C4 _ b)
  . rcases List.mem_cons.mp a with rfl|a
    exact le_trans f g i j m;exact u s a
end
section
variable{T:Sx.Tb}
theorem jb(h:l<m):jy m (l:Int)=U l:=by
 delta jy
 simp_all
theorem vn(h:r[m]? = U (U (.ob N (C5 f T))))(e:D9 B (K4 f T)=U (.own u))(b:v r=U g)(c:G r=sd (.int (O:Int)))(Q:O<u.length):
  cM "Table" m B G v r=U (.next (r.set m (U (.ob N (.ins "Table" (Q0 B (.own (u.set O g.d)) (K4 f T))))))):=by delta cM gI;rw[b,z9,c,z9,h];simp only[V5,z9,e,tH,PV.vG,jb Q]
theorem Mn{pv:PV}(h:r[m]? = U (U (.ob N (C5 f T))))(c:v r=U pv)(hd:pv.d=.bool c7)(Q:G r=sd (.int (l:Int)))(g:l<f.n):
  cM "Table" m "full" G v r=U (.next (r.set m (U (.ob N (C5 f {T with full:=λj=>if j=l then c7 else T.full j}))))):=by
 rw[vn h (Ab f T) c Q (by rw[J8];exact g),jt,hd]
 have e:(rl f.n λk=>if k=l then PyData.bool c7 else .bool (T.full k))=rl f.n λj=>.bool (if j=l then c7 else T.full j):=bT λk _=>by split<;>rfl
 rw[e,Xb]
theorem GC{pv:PV}(h:r[m]? = U (U (.ob N (C5 f T))))(b:v r=U pv)(hd:pv.d=.int D)(c:G r=sd (.int (l:Int)))(a:l<f.m):
  cM "Table" m "rights" G v r=U (.next (r.set m (U (.ob N (C5 f {T with rt:=λj=>if j=l then D else T.rt j}))))):=by
 rw[vn h (tM f T) b c (by rw[J8];exact a),jt,hd]
 have e:(rl f.m λk=>if k=l then Z7 D else .int (T.rt k))=rl f.m λj=>.int (if j=l then D else T.rt j):=bT λk _=>by split<;>rfl
 rw[e,LM]
theorem GF{Q:W5}{i:Nat}{w:Option Addr}{ds:Ds}{Fk Fv:DV}{pv:PV}{x:Nat}{p:Nat}(h:ds[i]? = U (U (.ob w (C5 Q T))))(b:Fv ds=U pv)(hd:pv.d=.int (x:Int))(c:Fk ds=sd (.int (p:Int)))(a:p<Q.m):
  cM "Table" i "chosen" Fk Fv ds=U (.next (ds.set i (U (.ob w (C5 Q {T with B:=λj=>if j=p then x else T.B j}))))):=by
 rw[vn h (tP Q T) b c (by rw[J8];exact a),jt,hd]
 have e:(rl Q.m λk=>if k=p then Z7 x else .int (T.B k))=rl Q.m λj=>.int ((if j=p then x else T.B j:Nat)):=bT λk _=>by split<;>rfl
 rw[e,LO]
theorem GD{x:Nat->Int}(h:r[m]? = U (U (.ob N (C5 f T))))(b:v r=U g)(hd:g.d=il f.m x)(c:G r=sd (.int (l:Int)))(a:l<3):
  cM "Table" m "prices" G v r=U (.next (r.set m (U (.ob N (C5 f {T with pr:=λj=>if j=l then x else T.pr j}))))):=by
 rw[vn h (tN f T) b c v5,jt,hd];have e:(rl 3 λk=>if k=l then il f.m x else il f.m (T.pr k))=rl 3 λj=>il f.m (if j=l then x else T.pr j):=bT λk _=>by split<;>rfl
 rw[e,LN]
noncomputable def ll(Q:W5)(T:Sx.Tb)(a:Nat)(by':Int):Sx.Tb:={T with full:=λj=>if j=a then !T.full a else T.full j,rt:=λp=>T.rt p+by'*O8 (Q.col a) p}
theorem Nv(i:Bt 60000 E):∀(c:List (Nat×Int)) (T:Sx.Tb) (x3 d:Option PV),(∀e∈c,e.1<f.m/\Bt 60000 e.2) ->
  ∃g Q,aF (Y0 2 (D6 3 (D6 4 Y1))) ej (c.map λe=>.tuple [.int (e.1:Int),.int e.2]) [U (.ob N (C5 f T)),iD D,iD E,x3,d]=U (.next [U (.ob N (C5 f {T with rt:=λp=>T.rt p+E*O8 c p})),iD D,iD E,g,Q]):=by
 intro l_;induction l_ with
 |nil =>
  intro T x3 d _;exact⟨x3,d,by
   have:({T with rt:=λp=>T.rt p+E*O8 [] p}:Sx.Tb)=T:=by
    have:(λp=>T.rt p+E*O8 [] p)=T.rt:=by funext p;rw[O8,V9,qR]
    rw[this]
   rw[this];rfl⟩
 |cons e c ih_ =>
  intro T x3 d h;obtain⟨k,n⟩:=h e C9;have l:ej [U (.ob N (C5 f T)),iD D,iD E,iD e.1,iD e.2]=U (.next [U (.ob N (C5 f {T with rt:=λj=>if j=e.1 then T.rt e.1+E*e.2 else T.rt j})),iD D,iD E,iD e.1,iD e.2]):=by
   delta ej;rw[GC (pv:=.dat (.int (T.rt e.1+E*e.2))) rfl ?_ rfl rfl k];rfl;walk_at "v";rw[N9 _ k];walk_at "v";rw[D8 i n];walk_at "v"
  obtain⟨g,Q,q⟩:=ih_ {T with rt:=λj=>if j=e.1 then T.rt e.1+E*e.2 else T.rt j} (iD e.1) (iD e.2) λx o=>h x (C4 _ o)
  refine⟨g,Q,?_⟩;rw[C6,P2 rfl l,q];have:(λp=>(if p=e.1 then T.rt e.1+E*e.2 else T.rt p)+E*O8 c p)=λp=>T.rt p+E*O8 (e::c) p:=by
   funext p
   rw[O8];by_cases z:e.1=p;rw[t2 z.symm,t2 z,z,jT,Int.add_assoc];rw[s9 λy=>z y.symm,s9 z,X7]
  simp only[this]
theorem Io(b:m<f.n)(i:f.lim m=U D)(Q:Bt 60000 D)(d:∀e∈f.col m,e.1<f.m/\Bt 7000 e.2):Q4 [.ob J (C5 f T),.dat (.int (m:Int))]=U (.dat .none,[U (.ob J (C5 f (ll f T m (-(T.sg m*D))))),J]):=by
 refine ow rfl λt=>?_
 have c:Bt 60000 (-(T.sg m*D)):=by
  delta Sx.Tb.sg;split;exact Q.of_le B4;exact Q.of_le B4
 rw[show((dJ t 0 [PV.ob J (C5 f T),.dat (.int m)]).map U++C2 (5-2) J)=[U (.ob (U (t 0)) (C5 f T)),iD m,J,J,J]from rfl]
 have h:u9 2 (fN (A1 (iJ "Table" 0 "full" (t6 1))) (u4 E5 (O0 "Table" 0 "limits") (t6 1)) (gS di (u4 E5 (O0 "Table" 0 "limits") (t6 1)))) [U (.ob (U (t 0)) (C5 f T)),iD m,J,J,J]=U (.next [U (.ob (U (t 0)) (C5 f T)),iD m,iD (-(T.sg m*D)),J,J]):=by
  walk_at "v";rw[N9 _ b];walk_at "v";rw[N9 _ b,i];walk_at "v";delta Sx.Tb.sg;cases T.full m;simp only[mD,if_false,dF];rfl;simp only[V5,yG,dF,Int.neg_neg];rfl
 have k:cM "Table" 0 "full" (t6 1) (Ec (iJ "Table" 0 "full" (t6 1))) [U (.ob (U (t 0)) (C5 f T)),iD m,iD (-(T.sg m*D)),J,J]=U (.next [U (.ob (U (t 0)) (C5 f {T with full:=λj=>if j=m then !T.full m else T.full j})),iD m,iD (-(T.sg m*D)),J,J]):=by
  rw[Mn (pv:=.dat (.bool (!T.full m))) rfl ?_ rfl rfl b];rfl;walk_at "v";rw[N9 _ b];walk_at "v"
 obtain⟨p,o,l⟩:=Nv c (f.col m) {T with full:=λj=>if j=m then !T.full m else T.full j} J J λe g=>⟨(d e g).1,((d e g).2).mono f5⟩;rw[B8,h,A4,B8,k,A4];walk_at "v";rw[N9 _ b];walk_at "v";rw[l];simp only[z9,mK,T9];rfl
theorem Ip(K:bp f T)(b:m<f.n)(c:f.lim m=U D):Q4 [.ob J (C5 f T),.dat (.int (m:Int))]=U (.dat .none,[U (.ob J (C5 f (ll f T m (-(T.sg m*D))))),J]):=
 Io b c ((K.lb m D b c).mono f5) (K.cb m b)
end
section
variable{T:Sx.Tb}
theorem a1Q(ds:Ds):∀xs:List f7,sk ds (xs.map AV.d)=U (xs.map .dat):=by
 intro l_;induction l_ with
 |nil =>
  exact rfl
 |cons x xs ih_ =>
  rw[C6,sk,ih_];rfl
theorem HA:∀(xs:List f7) (r ds:Ds),gF (xs.map AV.d) r ds=ds
 | [],r,ds=>by simp[gF]
 |x::xs,[],ds=>by simp[gF]
 |x::xs,y::r,ds=>by rw[C6,gF,HA xs]
theorem Ls:∀xs:List f7,V1 (xs.map AV.d)=[]:=by
 intro l_;induction l_ with
 |nil =>
  exact rfl
 |cons x xs ih_ =>
  rw[C6,V1,ih_]
theorem xg{c c':OD}{f:List PV->Option (PV×Ds)}{xs:List f7}(h:a2[m]? = U (U (.ob N c)))(e:c9 a2=U (.s m::xs.map AV.d))(b:f (.ob J c::xs.map .dat)=U (g,U (.ob J c')::r)):
  jF f c9 a2=U (g,a2.set m (U (.ob N c'))):=by
 delta jF;rw[e,z9];rw[t2 (by rw[V1,Ls];simp),sk];simp only[h,a1Q,z9,b];rw[gF,h,HA];rfl
theorem rL{c':OD}{Q:List PV->Option (PV×Ds)}{xs:List f7}(h:a2[l]? = U (U (.ob N (C5 f T))))(e:D9 B (K4 f T)=J)(c:c9 a2=U (xs.map AV.d))(b:Q (.ob J (C5 f T)::xs.map .dat)=U (g,U (.ob J c')::r)):
  P4 "Table" B l Q c9 a2=U (g,a2.set l (U (.ob N c'))):=by
 delta P4 gI;rw[h];simp only[V5,z9,e];refine xg h ?_ b;delta ie
 simp_all
noncomputable def vQ(Q:W5)(T:Sx.Tb)(a l:Nat)(g:Int)(t q:Nat):Int:=(T.pr t q*(g*T.w9 (C1 Q) a l)-(-g*T.rest (C1 Q) t a)*T.inv l q).fdiv T.size
noncomputable def eD(Q:W5)(T:Sx.Tb)(a l:Nat)(g:Int)(k q:Nat):Int:=if k=l then g*T.inv l q else(T.inv k q*(g*T.w9 (C1 Q) a l)-(g*T.w9 (C1 Q) a k)*T.inv l q).fdiv T.size
def T6(Q:W5)(T:Sx.Tb)(a:Nat):Sx.Tb:=if T.full a=Uf then ll Q T a (-(T.sg a*(Q.lim a).getD 0))else T
noncomputable def Y3(Q:W5)(T:Sx.Tb)(a l:Nat)(g:Int):Sx.Tb:=⟨λk=>if k=l then a else T.B k,(T6 Q T a).full,g*T.w9 (C1 Q) a l,eD Q T a l g,λt=>if t<3 then vQ Q T a l g t else T.pr t,(T6 Q T a).rt⟩
theorem vO:(T6 f T a).B=T.B/\(T6 f T a).size=T.size/\(T6 f T a).inv=T.inv/\(T6 f T a).pr=T.pr:=by delta T6;split<;>exact⟨rfl,rfl,rfl,rfl⟩
noncomputable def aj(Q:W5)(T:Sx.Tb)(a l:Nat)(g:Int)(i:Nat):Sx.Tb:=⟨T.B,(T6 Q T a).full,T.size,T.inv,λt=>if t<i then vQ Q T a l g t else T.pr t,(T6 Q T a).rt⟩
theorem a4t(a l:Nat)(g:Int):aj f T a l g 0=T6 f T a:=by
 delta aj;have:(λt=>if t<0 then vQ f T a l g t else T.pr t)=T.pr:=by funext t;simp
 rw[this];obtain⟨b,c,d,e⟩:=vO;cases hu:T6 f T a;rw[hu]at b c d e
 simp_all
theorem wC(K:bp f T){t:Nat}(e:m<f.n)(s:l<f.m)(b:t<3)(B:D=1\/D = -1)(w:Option Addr)(x8:Option PV):
  ∃C,ei [U (.ob w (C5 f (aj f T m l D t))),iD (m:Int),iD (l:Int),sd (.list (bH f T m)),iD D,iD (D*T.w9 (C1 f) m l),sd (il f.m (T.inv l)),iD (t:Int),x8,J]=U (.next [U (.ob w (C5 f (aj f T m l D (t+1)))),iD (m:Int),iD (l:Int),sd (.list (bH f T m)),iD D,iD (D*T.w9 (C1 f) m l),sd (il f.m (T.inv l)),iD (t:Int),C,J]):=by
 have o:Bt 10 D:=by rcases B with h|h<;>rw[h]<;>exact⟨by decide⟩
 have d:(aj f T m l D t).pr t=T.pr t:=by show(if t<t then _ else T.pr t)=T.pr t;simp
 have a:(aj f T m l D t).rest (C1 f) t m=T.rest (C1 f) t m:=by delta Sx.Tb.rest;rw[d];rfl
 have p:=K.rsb t m b e;have u:=Hu (T:=aj f T m l D t) b e (K.cl m e) (K.cb m e) (K.wb t m b e) K.sb (λq hq=>by rw[d];exact K.pb t q b hq);rw[a]at u;obtain⟨r,A,z⟩:=AM K.m1 (λi Q=>(K.pb t i b Q).mono f5) (λi Q=>(K.ib l i s Q).mono f5) ((o.neg.mul p).mono f5) ((o.mul (K.yu m l e s)).mono f5) (K.sb.mono f5) K.sp
 refine⟨iD (-D*T.rest (C1 f) t m),?_⟩;delta ei;have y:u9 8 (u4 R5 (gS di (t6 4)) (aq (S3 "Table" "rest" V6 (S9 0) (f6 (t6 7) (f6 (t6 1) u5))))) [U (.ob w (C5 f (aj f T m l D t))),iD m,iD l,sd (.list (bH f T m)),iD D,iD (D*T.w9 (C1 f) m l),sd (il f.m (T.inv l)),iD t,x8,J]=U (.next [U (.ob w (C5 f (aj f T m l D t))),iD m,iD l,sd (.list (bH f T m)),iD D,iD (D*T.w9 (C1 f) m l),sd (il f.m (T.inv l)),iD t,iD (-D*T.rest (C1 f) t m),J]):=by
  walk_at "v";rw[rW (l:=[.int t,.int m]) rfl rfl (HM f _) rfl,u];walk_at "v";simp only[LF,V5,z9,PV.vG];rw[D8 (o.neg.mono f5) (show Bt 60000 (T.rest (C1 f) t m)from p.mono f5)];rfl
 rw[B8,y,A4];rw[GD (x:=vQ f T m l D t) rfl ?_ z rfl b]
 . have:({aj f T m l D t with pr:=λj=>if j=t then vQ f T m l D t else(aj f T m l D t).pr j}:Sx.Tb)=aj f T m l D (t+1):=by
     delta aj;have:(λj=>if j=t then vQ f T m l D t else if j<t then vQ f T m l D j else T.pr j)=λj=>if j<t+1 then vQ f T m l D j else T.pr j:=by
      funext j
      by_cases c:j=t;rw[t2 c,t2 B4,c];rw[s9 c];by_cases v:j<t;rw[t2 v,t2 eS];rw[s9 v,s9 u3]
     simp only[this]
   rw[this];rfl
 walk_at "v";rw[N9 _ b];walk_at "v";rw[d];exact A
theorem Wi(K:bp f T)(j:m<f.n)(Q:l<f.m)(P:T.full m=Uf->f.lim m≠J)(C:D=if 0<T.w9 (C1 f) m l then 1 else -1):
  dZ [.ob J (C5 f T),.dat (.int (m:Int)),.dat (.int (l:Int)),.dat (.list (bH f T m))]=U (.dat .none,[U (.ob J (C5 f (Y3 f T m l D))),J,J,J]):=by
 refine ow rfl λt=>?_
 have o:D=1\/D = -1:=by rw[C];split<;>simp
 have p:Bt 10 D:=by rcases o with h|h<;>rw[h]<;>exact⟨by decide⟩
 generalize a:(U (t 0):Option Addr)=w;generalize s:(mf (bH f T m))=PC;rw[show((dJ t 0 [PV.ob J (C5 f T),.dat (.int (m:Int)),.dat (.int (l:Int)),.dat PC]).map U++C2 (10-4) J:Ds)=[U (.ob (U (t 0)) (C5 f T)),iD (m:Int),iD (l:Int),sd PC,J,J,J,J,J,J]from rfl,a]
 have G:O5 (A1 (iJ "Table" 0 "full" (t6 1))) (Q1 (P4 "Table" "flip" 0 Q4 (P6 (t6 1) fk))) K3 [U (.ob w (C5 f T)),iD (m:Int),iD (l:Int),sd PC,J,J,J,J,J,J]=U (.next [U (.ob w (C5 f (T6 f T m))),iD (m:Int),iD (l:Int),sd PC,J,J,J,J,J,J]):=by
  have R:A1 (iJ "Table" 0 "full" (t6 1)) [U (.ob w (C5 f T)),iD (m:Int),iD (l:Int),sd PC,J,J,J,J,J,J]=U (T.full m):=by walk_at "v";rw[N9 _ j];walk_at "v"
  delta O5 T6;rw[R,z9];by_cases c:T.full m=Uf;rw[t2 c,t2 c];obtain⟨v,B⟩:=Option.ne_none_iff_exists'.mp (P c);rw[B];delta Q1;rw[rL (xs:=[.int m]) rfl (wL f T) rfl (Ip K j B)];rfl;rw[s9 c,s9 c];rfl
 have I:u9 4 (fN (A1 (u4 ye (u4 E5 (t6 3) (t6 2)) (fC (.int 0)))) (fC (.int 1)) (gS di (fC (.int 1)))) [U (.ob w (C5 f (T6 f T m))),iD m,iD l,sd PC,J,J,J,J,J,J]=U (.next [U (.ob w (C5 f (T6 f T m))),iD m,iD l,sd PC,iD D,J,J,J,J,J]):=by subst s;walk_at "v";rw[N9 _ Q];walk_at "v";rw[C];split<;>rfl
 have E:u9 5 (u4 R5 (t6 4) (u4 E5 (t6 3) (t6 2))) [U (.ob w (C5 f (T6 f T m))),iD m,iD l,sd PC,iD D,J,J,J,J,J]=U (.next [U (.ob w (C5 f (T6 f T m))),iD m,iD l,sd PC,iD D,iD (D*T.w9 (C1 f) m l),J,J,J,J]):=by subst s;walk_at "v";rw[N9 _ Q];walk_at "v";rw[D8 (p.mono f5) ((K.yu m l j Q).mono f5)];rfl
 have S:u9 6 (u4 E5 (O0 "Table" 0 "inverse") (t6 2)) [U (.ob w (C5 f (T6 f T m))),iD m,iD l,sd PC,iD D,iD (D*T.w9 (C1 f) m l),J,J,J,J]=U (.next [U (.ob w (C5 f (aj f T m l D 0))),iD m,iD l,sd PC,iD D,iD (D*T.w9 (C1 f) m l),sd (il f.m (T.inv l)),J,J,J]):=by rw[a4t];walk_at "v";rw[N9 _ Q,(vO).2.2.1];rfl
 have A:∃b e,J3 (L5 (fC gk)) (K5 7) ei [U (.ob w (C5 f (aj f T m l D 0))),iD m,iD l,sd PC,iD D,iD (D*T.w9 (C1 f) m l),sd (il f.m (T.inv l)),J,J,J]=U (.next [U (.ob w (C5 f (aj f T m l D 3))),iD m,iD l,sd PC,iD D,iD (D*T.w9 (C1 f) m l),sd (il f.m (T.inv l)),b,e,J]):=by subst s;obtain⟨O,N⟩:=wC K j Q (t:=0) f5 o w J;obtain⟨M,Y⟩:=wC K j Q (t:=1) f5 o w O;obtain⟨W,x⟩:=wC K j Q (t:=2) f5 o w M;refine⟨iD 2,W,?_⟩;walk_at "v";rw[P2 rfl N,P2 rfl Y,P2 rfl x];rfl
 obtain⟨b,e,A⟩:=A;have F:R9 9 (A2 (E9 Z6 (f6 (O0 "Table" 0 "inverse") (f6 (t6 3) u5))) (L8 2) A5 gz) [U (.ob w (C5 f (aj f T m l D 3))),iD m,iD l,sd PC,iD D,iD (D*T.w9 (C1 f) m l),sd (il f.m (T.inv l)),b,e,J]=U (.next [U (.ob w (C5 f (aj f T m l D 3))),iD m,iD l,sd PC,iD D,iD (D*T.w9 (C1 f) m l),sd (il f.m (T.inv l)),b,e,U (.own (rl f.m λk=>il f.m λq=>(T.inv k q*(D*T.w9 (C1 f) m l)-(D*T.w9 (C1 f) m k)*T.inv l q).fdiv T.size))]):=by
  subst s;walk_at "v";rw[show(aj f T m l D 3).inv=T.inv from rfl,lD];walk_at "v";rw[t2 (bZ K.m1),O7 λk u=>?_];rfl;obtain⟨r,x,H⟩:=AM K.m1 (λi z=>(K.ib k i u z).mono f5) (λi z=>(K.ib l i Q z).mono f5) ((p.mul (K.yu m k j u)).mono f5) ((p.mul (K.yu m l j Q)).mono f5) (K.sb.mono f5) K.sp;refine⟨_,r,rfl,?_,H⟩;delta gz;walk_at "v";rw[D8 (p.mono f5) ((K.yu m k j u).mono f5)];walk_at "v";exact x
 have Z:cL 9 (t6 2) (A2 (L5 (t6 6)) B3 A5 ee) [U (.ob w (C5 f (aj f T m l D 3))),iD m,iD l,sd PC,iD D,iD (D*T.w9 (C1 f) m l),sd (il f.m (T.inv l)),b,e,U (.own (rl f.m λk=>il f.m λq=>(T.inv k q*(D*T.w9 (C1 f) m l)-(D*T.w9 (C1 f) m k)*T.inv l q).fdiv T.size))]=U (.next [U (.ob w (C5 f (aj f T m l D 3))),iD m,iD l,sd PC,iD D,iD (D*T.w9 (C1 f) m l),sd (il f.m (T.inv l)),b,e,U (.own (rl f.m λk=>il f.m (eD f T m l D k)))]):=by
  have L:A2 (L5 (t6 6)) B3 A5 ee [U (.ob w (C5 f (aj f T m l D 3))),iD m,iD l,sd PC,iD D,iD (D*T.w9 (C1 f) m l),sd (il f.m (T.inv l)),b,e,U (.own (rl f.m λk=>il f.m λq=>(T.inv k q*(D*T.w9 (C1 f) m l)-(D*T.w9 (C1 f) m k)*T.inv l q).fdiv T.size))]=U (.own (rl f.m λq=>.int (D*T.inv l q))):=by
   walk_at "v";rw[t2 (bZ K.m1),O7 λq hq=>⟨_,_,rfl,by delta ee;walk_at "v";rw[D8 (p.mono f5) ((K.ib l q Q hq).mono f5)],rfl⟩];rfl
  delta cL;rw[L,z9];show(jy (rl f.m _).length l).bind _=_
  rw[J8,jb Q,z9,jt];have:(rl f.m λk=>if k=l then PV.d (.own (rl f.m λq=>.int (D*T.inv l q)))else il f.m λq=>(T.inv k q*(D*T.w9 (C1 f) m l)-(D*T.w9 (C1 f) m k)*T.inv l q).fdiv T.size)=rl f.m λk=>il f.m (eD f T m l D k):=bT λk _=>by
   by_cases c:k=l
   . rw[t2 c];show il f.m _=_
     congr 2
     funext q
     delta eD;rw[t2 c]
   . rw[s9 c]
     congr 2
     funext q
     delta eD;rw[s9 c]
  rw[this];rfl
 have X:yg 9 (Y6 "Table" 0 "inverse" jG (t6 9)) [U (.ob w (C5 f (aj f T m l D 3))),iD m,iD l,sd PC,iD D,iD (D*T.w9 (C1 f) m l),sd (il f.m (T.inv l)),b,e,U (.own (rl f.m λk=>il f.m (eD f T m l D k)))]=U (.next [U (.ob w (C5 f {aj f T m l D 3 with inv:=eD f T m l D})),iD m,iD l,sd PC,iD D,iD (D*T.w9 (C1 f) m l),sd (il f.m (T.inv l)),b,e,sd (.list (rl f.m λk=>il f.m (eD f T m l D k)))]):=by walk_at "v";rw[t2 (by delta K4;simp),Jj]
 have V:Y6 "Table" 0 "size" jG (t6 5) [U (.ob w (C5 f {aj f T m l D 3 with inv:=eD f T m l D})),iD m,iD l,sd PC,iD D,iD (D*T.w9 (C1 f) m l),sd (il f.m (T.inv l)),b,e,sd (.list (rl f.m λk=>il f.m (eD f T m l D k)))]=U (.next [U (.ob w (C5 f {aj f T m l D 3 with inv:=eD f T m l D,size:=D*T.w9 (C1 f) m l})),iD m,iD l,sd PC,iD D,iD (D*T.w9 (C1 f) m l),sd (il f.m (T.inv l)),b,e,sd (.list (rl f.m λk=>il f.m (eD f T m l D k)))]):=by walk_at "v";rw[t2 (by delta K4;simp),Xa]
 have y:cM "Table" 0 "chosen" (t6 2) (t6 1) [U (.ob w (C5 f {aj f T m l D 3 with inv:=eD f T m l D,size:=D*T.w9 (C1 f) m l})),iD m,iD l,sd PC,iD D,iD (D*T.w9 (C1 f) m l),sd (il f.m (T.inv l)),b,e,sd (.list (rl f.m λk=>il f.m (eD f T m l D k)))]=U (.next [U (.ob w (C5 f (Y3 f T m l D))),iD m,iD l,sd PC,iD D,iD (D*T.w9 (C1 f) m l),sd (il f.m (T.inv l)),b,e,sd (.list (rl f.m λk=>il f.m (eD f T m l D k)))]):=by rw[GF rfl rfl rfl rfl Q];rfl
 rw[B8,G,A4,B8,I,A4,B8,E,A4,B8,S,A4,B8,A,A4,B8,F,A4,B8,Z,A4,B8,X,A4,B8,V,A4,y];subst a;simp only[z9,mK,T9,V5]
end
section
variable{T:Sx.Tb}
theorem DJ(s:fy):E5 (U2 s) (.int 3)=sd (optN s.pl):=rfl
theorem Te(a:bp f T)(d:m<f.n)(e:f.lim m=U D)(hs:H.pl=J):
  mG [.ob J (C5 f T),.dat (.int (m:Int)),.dat K,.dat (U2 H)]=U (.dat .none,[U (.ob J (C5 f (ll f T m (-(T.sg m*D))))),J,J,J]):=by
 refine ow rfl λt=>?_;rw[show((dJ t 0 [PV.ob J (C5 f T),.dat (.int m),.dat K,.dat (U2 H)]).map U++C2 (4-4) J)=[U (.ob (U (t 0)) (C5 f T)),iD m,sd K,sd (U2 H)]from rfl]
 generalize b:(U (t 0))=w;have c:O5 (A1 (u4 jc (u4 E5 (t6 3) (fC (.int 3))) (fC .none))) (t9 (Q1 (P4 "Table" "flip" 0 Q4 (P6 (t6 1) fk))) lO) K3 [U (.ob w (C5 f T)),iD m,sd K,sd (U2 H)]=U (.retO (.dat .none) [U (.ob w (C5 f (ll f T m (-(T.sg m*D))))),iD m,sd K,sd (U2 H)]):=by
  have Q:A1 (u4 jc (u4 E5 (t6 3) (fC (.int 3))) (fC .none)) [U (.ob w (C5 f T)),iD m,sd K,sd (U2 H)]=U Uf:=by walk_at "v";rw[DJ,hs];rfl
  delta O5;rw[Q,z9,t2 rfl,B8];delta Q1;rw[rL (xs:=[.int m]) rfl (wL f T) rfl (Ip a d e)];rfl
 rw[B8,c];subst b;show(U (Out.retO _ _)).bind _=_;simp only[z9,mK,T9,V5]
theorem HR(K:bp f T){v:Int}(p:m<f.n)(o:l<f.m)(hs:H.pl=U l)(x:T.full m=Uf->f.lim m≠J)(q:D=if 0<T.w9 (C1 f) m l then 1 else -1)(e:H.ch<f.n)(h:H.tp=Uf->f.lim H.ch=U v):
  mG [.ob J (C5 f T),.dat (.int (m:Int)),.dat (.list (bH f T m)),.dat (U2 H)]=U (.dat .none,[U (.ob J (C5 f (if H.tp=Uf then ll f (Y3 f T m l D) H.ch (-((Y3 f T m l D).sg H.ch*v))else Y3 f T m l D))),J,J,J]):=by
 refine ow rfl λt=>?_;generalize r:(mf (bH f T m))=PC;rw[show((dJ t 0 [PV.ob J (C5 f T),.dat (.int m),.dat PC,.dat (U2 H)]).map U++C2 (4-4) J)=[U (.ob (U (t 0)) (C5 f T)),iD m,sd PC,sd (U2 H)]from rfl]
 generalize i:(U (t 0))=w;have j:O5 (A1 (u4 jc (u4 E5 (t6 3) (fC (.int 3))) (fC .none))) (t9 (Q1 (P4 "Table" "flip" 0 Q4 (P6 (t6 1) fk))) lO) K3 [U (.ob w (C5 f T)),iD m,sd PC,sd (U2 H)]=U (.next [U (.ob w (C5 f T)),iD m,sd PC,sd (U2 H)]):=by
  have Q:A1 (u4 jc (u4 E5 (t6 3) (fC (.int 3))) (fC .none)) [U (.ob w (C5 f T)),iD m,sd PC,sd (U2 H)]=U U':=by walk_at "v";rw[DJ,hs];rfl
  delta O5;rw[Q];rfl
 have u:Q1 (P4 "Table" "turn" 0 dZ (P6 (t6 1) (P6 (u4 E5 (t6 3) (fC (.int 3))) (P6 (t6 2) fk)))) [U (.ob w (C5 f T)),iD m,sd PC,sd (U2 H)]=U (.next [U (.ob w (C5 f (Y3 f T m l D))),iD m,sd PC,sd (U2 H)]):=by
  delta Q1;have b:P6 (t6 1) (P6 (u4 E5 (t6 3) (fC (.int 3))) (P6 (t6 2) fk)) [U (.ob w (C5 f T)),iD m,sd PC,sd (U2 H)]=U (([.int m,.int l,PC]).map AV.d):=by walk_at "v";rw[DJ,hs];rfl
  rw[rL rfl (SS f T) b (by subst r;exact Wi K p o x q)];rfl
 have y:O5 (A1 (u4 E5 (t6 3) (fC (.int 4)))) (Q1 (P4 "Table" "flip" 0 Q4 (P6 (u4 E5 (t6 3) (fC (.int 2))) fk))) K3 [U (.ob w (C5 f (Y3 f T m l D))),iD m,sd PC,sd (U2 H)]=U (.next [U (.ob w (C5 f (if H.tp=Uf then ll f (Y3 f T m l D) H.ch (-((Y3 f T m l D).sg H.ch*v))else Y3 f T m l D))),iD m,sd PC,sd (U2 H)]):=by
  have Q:A1 (u4 E5 (t6 3) (fC (.int 4))) [U (.ob w (C5 f (Y3 f T m l D))),iD m,sd PC,sd (U2 H)]=U H.tp:=by rfl
  delta O5;rw[Q,z9];by_cases c:H.tp=Uf
  . rw[t2 c,t2 c];delta Q1;have b:P6 (u4 E5 (t6 3) (fC (.int 2))) fk [U (.ob w (C5 f (Y3 f T m l D))),iD m,sd PC,sd (U2 H)]=U (([.int H.ch]).map AV.d):=by rfl
    rw[rL rfl (wL f _) b (Io e (h c) ((K.lb _ v e (h c)).mono f5) (K.cb _ e))];rfl
  rw[s9 c,s9 c];rfl
 rw[B8,j,A4,B8,u,A4,y];subst i;simp only[z9,mK,T9,V5]
noncomputable def bW(Q:W5)(T:Sx.Tb)(tp:Nat->Option Q2):Nat->Nat->Q2
 | 0,j=>if T.full j=Uf then(tp j).getD q0 else q0
 |i+1,j=>if j=T.B i then I0 (T.am (C1 Q) i*Q.sc (T.B i)) (T.size*Q.un)else bW Q T tp i j
theorem a0T(K:bp f T){tp:Nat->Option Q2}(hs:∀j,j<f.n->Bt 7000 (f.sc j))(o:Bt 900 f.un)(hz:Bt 7000 T.size)(x:0<f.un)(u:∀j,j<f.n->T.full j=Uf->tp j≠J):
  dq [F5 f T,.list (rl f.n λj=>Y4 (tp j))]=U (.own (rl f.n λj=>fr (bW f T tp f.m j))):=by
 have w:Bt 8000 (T.size*f.un):=(hz.mul o).mono f5;have a:T.size*f.un≠0:=by have:=M7 K.sp x;exact M4
 delta dq;walk_at "v";rw[lD];walk_at "v";rw[t2 (bZ K.n1),O7 (g:=λj=>fr (bW f T tp 0 j)) λj p=>⟨_,if T.full j=Uf then .dat (Y4 (tp j))else .dat N8,rfl,by
  delta sA;walk_at "v";split<;>rfl,by
  show PV.d _=fr (if T.full j=Uf then(tp j).getD q0 else q0);by_cases c:T.full j=Uf;rw[t2 c,t2 c];obtain⟨v,s⟩:=Option.ne_none_iff_exists'.mp (u j p c);rw[s];rfl
  . rw[s9 c,s9 c];rfl⟩]
 walk_at "v";rw[rW rfl rfl (xQ f T) rfl,yB K];walk_at "v";rw[lD];walk_at "v";obtain⟨q,h,x3,b,rfl⟩:=ck (gt:=Y0 2 (D6 3 (D6 4 Y1))) (G:=nG) (items:=rl f.m λi=>.tuple [.int (T.B i),.int (T.am (C1 f) i)])
  (λi l=>∃x3 b,l=[sd (F5 f T),sd (.list (rl f.n λj=>Y4 (tp j))),U (.own (rl f.n λj=>fr (bW f T tp i j))),x3,b])
  ⟨J,J,rfl⟩ (by
   rintro i d l r ⟨x3,b,rfl⟩;obtain⟨Q,rfl⟩:=xE r;have e:=K.bn i Q;refine⟨[sd (F5 f T),sd (.list (rl f.n λj=>Y4 (tp j))),U (.own (rl f.n λj=>fr (bW f T tp i j))),iD (T.B i),iD (T.am (C1 f) i)],[sd (F5 f T),sd (.list (rl f.n λj=>Y4 (tp j))),U (.own (rl f.n λj=>fr (bW f T tp (i+1) j))),iD (T.B i),iD (T.am (C1 f) i)],rfl,.inl ?_,_,_,rfl⟩
   delta nG;have t:f9 W3 (f6 (u4 R5 (t6 4) (u4 E5 (G7 "Table" "scales" (t6 0)) (t6 3))) (f6 (u4 R5 (G7 "Table" "size" (t6 0)) (G7 "Table" "unit" (t6 0))) u5)) [sd (F5 f T),sd (.list (rl f.n λj=>Y4 (tp j))),U (.own (rl f.n λj=>fr (bW f T tp i j))),iD (T.B i),iD (T.am (C1 f) i)]=sd (fr (I0 (T.am (C1 f) i*f.sc (T.B i)) (T.size*f.un))):=by walk_at "v";rw[N9 _ e];walk_at "v";rw[D8 ((K.ab i Q).mono f5) ((hs _ e).mono f5),D8 (hz.mono f5) (o.mono f5)];walk_at "v";rw[gR a w]
   delta cL;rw[t,z9];show(jy (rl f.n _).length (T.B i)).bind _=_
   rw[J8,jb e,z9,jt];have:(rl f.n λk=>if k=T.B i then PV.d (.dat (fr (I0 (T.am (C1 f) i*f.sc (T.B i)) (T.size*f.un))))else fr (bW f T tp i k))=rl f.n λj=>fr (bW f T tp (i+1) j):=bT λk _=>by rw[bW];split<;>rfl
   rw[this];rfl)
 rw[J8]at h;rw[h];walk_at "v"
noncomputable def aY(Q:W5)(T:Sx.Tb)(p:Nat):Tr:=⟨I0 (T.pr 0 p) (T.size*Q.mu 0),I0 (T.pr 1 p) (T.size*Q.mu 1),I0 (T.pr 2 p) (T.size*Q.mu 2)⟩
theorem Sd(K:bp f T)(d:m<f.m)(Q:∀t,t<3->0<f.mu t/\Bt 900 (f.mu t)):ki [F5 f T,.int (m:Int)]=sd (M0 (aY f T m)):=by
 have one:∀t:Nat,t<3->fW [iD t,sd (F5 f T),iD m,J]=sd (fr (I0 (T.pr t m) (T.size*f.mu t))):=λt b=>by
  obtain⟨m0,m1⟩:=Q t b;have a:T.size*f.mu t≠0:=by have:=M7 K.sp m0;exact M4
  delta fW;walk_at "v";rw[N9 _ b];walk_at "v";rw[N9 _ d,N9 _ b];walk_at "v";rw[D8 (K.sb.mono f5) (m1.mono f5)];walk_at "v";rw[gR a ((K.sb.mul m1).mono f5)]
 delta ki;walk_at "v";have e:M6 B3 A5 fW [sd (F5 f T),iD m,J] [.int 0,.int 1,.int 2]=U [fr (I0 (T.pr 0 m) (T.size*f.mu 0)),fr (I0 (T.pr 1 m) (T.size*f.mu 1)),fr (I0 (T.pr 2 m) (T.size*f.mu 2))]:=by
  have:=O7 (gt:=B3) λi c=>⟨_,_,rfl,one i c,rfl⟩;exact this
 rw[e];rfl
theorem zX(x:f7)(h:m<=1000):fw (.list [x]) (.int (m:Int))=U (.own (rl m λ_=>x)):=by
 show(if (0<=(m:Int)/\(m:Int).toNat<=100000)/\[x].length*(m:Int).toNat<=100000 then U (PV.own (C2 (m:Int).toNat [x]).flatten)else J)=_;rw[t2 ⟨⟨by simp[*],pJ⟩,by rw[gw,Gd];lia⟩,gw,ZH]
noncomputable def eu(Q:W5)(T:Sx.Tb)(a:Nat):Nat->Nat->Q2
 | 0,j=>if j=a then(Q.sc a,1)else q0
 |i+1,j=>if j=T.B i then I0 (-T.w9 (C1 Q) a i*Q.sc (T.B i)) T.size else eu Q T a i j
theorem YY(K:bp f T)(b:m<f.n)(hs:∀j,j<f.n->Bt 7000 (f.sc j)):kS [F5 f T,.int (m:Int),.list (bH f T m)]=U (.own (rl f.n λj=>fr (eu f T m f.m j))):=by
 have s:R9 3 (u4 fw (O6 (f6 (fC N8) u5)) (f9 F6 (f6 (G7 "Table" "full" (t6 0)) u5))) [sd (F5 f T),iD m,sd (.list (bH f T m)),J,J,J]=U (.next [sd (F5 f T),iD m,sd (.list (bH f T m)),U (.own (rl f.n λ_=>N8)),J,J]):=by walk_at "v";rw[J8];rw[zX _ K.n1];rfl
 have r:cL 3 (t6 1) (y4 (f6 (u4 E5 (G7 "Table" "scales" (t6 0)) (t6 1)) (f6 (fC (.int 1)) u5))) [sd (F5 f T),iD m,sd (.list (bH f T m)),U (.own (rl f.n λ_=>N8)),J,J]=U (.next [sd (F5 f T),iD m,sd (.list (bH f T m)),U (.own (rl f.n λj=>fr (eu f T m 0 j))),J,J]):=by
  have c:y4 (f6 (u4 E5 (G7 "Table" "scales" (t6 0)) (t6 1)) (f6 (fC (.int 1)) u5)) [sd (F5 f T),iD m,sd (.list (bH f T m)),U (.own (rl f.n λ_=>N8)),J,J]=sd (fr (f.sc m,1)):=by walk_at "v";rw[N9 _ b];walk_at "v"
  delta cL;rw[c,z9];show(jy (rl f.n _).length m).bind _=_
  rw[J8,jb b,z9,jt];have:(rl f.n λk=>if k=m then PV.d (.dat (fr (f.sc m,1)))else N8)=rl f.n λj=>fr (eu f T m 0 j):=bT λk _=>by rw[eu];split<;>rfl
  rw[this];rfl
 obtain⟨p,l,e,g,rfl⟩:=ck (gt:=Y0 2 (D6 4 (D6 5 Y1))) (G:=nC) (items:=rl f.m λi=>.tuple [.int (T.B i),.int (T.w9 (C1 f) m i)])
  (λi o=>∃e g,o=[sd (F5 f T),iD m,sd (.list (bH f T m)),U (.own (rl f.n λj=>fr (eu f T m i j))),e,g])
  ⟨J,J,rfl⟩ (by
   rintro i d o q ⟨e,g,rfl⟩;obtain⟨h,rfl⟩:=xE q;have Q:=K.bn i h;refine⟨[sd (F5 f T),iD m,sd (.list (bH f T m)),U (.own (rl f.n λj=>fr (eu f T m i j))),iD (T.B i),iD (T.w9 (C1 f) m i)],[sd (F5 f T),iD m,sd (.list (bH f T m)),U (.own (rl f.n λj=>fr (eu f T m (i+1) j))),iD (T.B i),iD (T.w9 (C1 f) m i)],rfl,.inl ?_,_,_,rfl⟩
   delta nC;have c:f9 W3 (f6 (u4 R5 (gS di (t6 5)) (u4 E5 (G7 "Table" "scales" (t6 0)) (t6 4))) (f6 (G7 "Table" "size" (t6 0)) u5)) [sd (F5 f T),iD m,sd (.list (bH f T m)),U (.own (rl f.n λj=>fr (eu f T m i j))),iD (T.B i),iD (T.w9 (C1 f) m i)]=sd (fr (I0 (-T.w9 (C1 f) m i*f.sc (T.B i)) T.size)):=by walk_at "v";rw[N9 _ Q];walk_at "v";rw[D8 (((K.yu m i b h).mono f5).neg) ((hs _ Q).mono f5)];walk_at "v";rw[gR (by have:=K.sp;exact M4) (K.sb.mono f5)]
   delta cL;rw[c,z9];show(jy (rl f.n _).length (T.B i)).bind _=_
   rw[J8,jb Q,z9,jt];have:(rl f.n λk=>if k=T.B i then PV.d (.dat (fr (I0 (-T.w9 (C1 f) m i*f.sc (T.B i)) T.size)))else fr (eu f T m i k))=rl f.n λj=>fr (eu f T m (i+1) j):=bT λk _=>by rw[eu];split<;>rfl
   rw[this];rfl)
 rw[J8]at l;delta kS K6;rw[t2 (by rfl),show(Q3 [F5 f T,.int m,.list (bH f T m)]++C2 (6-3) J:Ds)=[sd (F5 f T),iD m,sd (.list (bH f T m)),J,J,J]from rfl,B8,s,A4,B8,r,A4];walk_at "v";rw[lD];walk_at "v";rw[l];walk_at "v"
end
def qM(c x:Int):Int:=(I0 c x).1*x
def VI(l:List Int):Int:=l.foldl qM 1
theorem NW(y:0<E)(f:0<M)(i:E∣D)(g:M∣D):0<qM E M/\E∣qM E M/\M∣qM E M/\qM E M∣D:=by
 obtain⟨j,l,s,o⟩:=ak f;delta qM;generalize (I0 E M).1=p at *;generalize (I0 E M).2=q at *;obtain⟨r,b⟩:=o;have hq:q≠0:=by lia
 have a:E=p*r:=by
  have:q*(p*r)=q*E:=by rw[b]at s;grind
  exact(zx hq this).symm
 have Z1:0<r:=by
  rcases eY 0 r with h|h
  exact h;have:=sr (U6 j) h;lia
 have d:0<p:=by
  rcases eY 0 p with h|h
  exact h;have:=Qr h (U6 Z1);lia
 refine⟨M7 d f,⟨q,by omega⟩,⟨p,K8 _ _⟩,?_⟩
 obtain⟨u,e⟩:=i;obtain⟨v,t⟩:=g;have k:p*u=q*v:=by
  have:r*(p*u)=r*(q*v):=by rw[a]at e;rw[b]at t;grind
  exact zx M4 this
 have n:q∣u:=by
  have:q∣p*u:=⟨v,k⟩;have h:=Int.natAbs_dvd_natAbs.mpr this;rw[dH]at h;refine Int.natAbs_dvd_natAbs.mp (Nat.Coprime.dvd_of_dvd_mul_left ?_ h);show Nat.gcd q.natAbs p.natAbs=1;rw[Nat.gcd_comm];exact l
 obtain⟨w,m⟩:=n;exact⟨w,by rw[e,a,m,b];grind⟩
theorem BZ:∀(l:List Int) (c:Int),0<c->c∣D->(∀x∈l,0<x/\x∣D)->0<l.foldl qM c/\c∣l.foldl qM c/\(∀x∈l,x∣l.foldl qM c)/\l.foldl qM c∣D:=by
 intro l_;induction l_ with
 |nil =>
  intro c h1 h2 _;exact⟨h1,dV _,λx k=>absurd k B9,h2⟩
 |cons x l ih_ =>
  intro c h1 h2 h3;obtain⟨d,h⟩:=h3 x C9;obtain⟨i,j,n,m⟩:=NW h1 d h2 h;obtain⟨e,b,f,g⟩:=ih_ (qM c x) i m λy a=>h3 y (C4 _ a);refine⟨e,hI j b,λy a=>?_,g⟩
  rcases List.mem_cons.mp a with rfl|a
  exact hI n b;exact f y a
theorem tZ(hD:0<D)(a:0<E)(h:E∣D)(b:Bt m D):Bt m E:=b.of_le (by have:=gq hD h;omega)
theorem mP(hD:0<D)(i:Bt 7000 D)(h:∀x∈b8,0<x/\x∣D):O2 [.list (b8.map .int)]=sd (.int (VI b8)):=by
 have d:∀(k:List Int) c L x,0<c->c∣D->(∀x∈k,0<x/\x∣D)->∃j,aF (K5 2) ai (k.map .int) [sd L,iD c,x]=U (.next [sd L,iD (k.foldl qM c),j]):=by
  intro k;induction k with
  |nil=>exact λc L x _ _ _=>⟨x,rfl⟩
  |cons y k o =>
   intro c L x g f n;obtain⟨b,m⟩:=n y C9;obtain⟨p,s,t,q⟩:=NW g b f m;have a:=tZ hD b m i;have e:ai [sd L,iD c,iD y]=U (.next [sd L,iD (qM c y),iD y]):=by delta ai;walk_at "r";rw[gR M4 (a.mono f5)];walk_at "r";rw[D8 ((iI b (tZ hD g f i) a).bt.mono f5) (a.mono f5)];rfl
   rw[C6,P2 rfl e,Fj];exact o _ L _ p q λz r=>n z (C4 _ r)
 obtain⟨j,e⟩:=d b8 1 (.list (b8.map .int)) J f5 ⟨D,by simp[*]⟩ h;delta O2;walk_at "r";rw[e];rfl
def wh(q:Q2)(b:Int):Int:=q.1*b.fdiv q.2
theorem rz(e:Bt 7000 o.1)(c:Bt 7000 o.2)(a:o.2≠0)(d:Bt 7000 D):jg [fr o,.int D]=sd (.int (wh o D)):=by delta jg;walk_at "r";rw[S0 a (c.mono f5)];walk_at "r";rw[D8 (e.mono f5) (d.fdiv.mono f5)];rfl
theorem xn(h:0<o.2)(hd:o.2∣D):wh o D*o.2=o.1*D:=by obtain⟨c,a⟩:=hd;delta wh;rw[a,Qc _ M4];grind
structure G6 where
 m:Nat
 n:Nat
 cost:Nat->Tr
 row:Nat->Nat->Q2
 rg:Nat->Q2
 tp:Nat->Option Q2
 fs:Nat->Nat
variable{e:G6}
def S8(x:Tr):Nat->Q2
 | 0=>x.a
 | 1=>x.b
 | 2=>x.c
 |_=>q0
theorem a1j(x:Tr)(h:m<3):E5 (M0 x) (.int (m:Int))=sd (fr (S8 x m)):=by rcases(by lia:m=0\/m=1\/m=2)with rfl|rfl|rfl<;>rfl
def G6.sc(I:G6)(j:Nat):Int:=VI ((C8 I.m).map λp=>(I.row p j).2)
def G6.cE(I:G6)(j:Nat):Nat->List (Nat×Int)
 | 0=>[]
 |i+1=>I.cE j i++(if I.row i j≠q0 then[(i,wh (I.row i j) (I.sc j))]else[])
def G6.wq(I:G6)(t j:Nat):Q2:=P1 (S8 (I.cost j) t) (I.sc j,1)
def G6.mu(I:G6)(t:Nat):Int:=VI ((C8 I.n).map λj=>(I.wq t j).2)
def G6.wt(I:G6)(t j:Nat):Int:=wh (I.wq t j) (I.mu t)
def G6.hq(I:G6)(j:Nat):Option Q2:=(I.tp j).map λq=>P1 q (1,I.sc j)
def G6.ql(I:G6):List Int:=((C8 I.m).map λp=>(I.rg p).2)++(C8 I.n).filterMap λj=>(I.hq j).map (·.2)
def G6.un(I:G6):Int:=VI I.ql
def G6.lim(I:G6)(j:Nat):Option Int:=(I.hq j).map λq=>wh q I.un
def G6.b(I:G6)(p:Nat):Int:=wh (I.rg p) I.un
def G6.L4(I:G6):W5:=⟨I.m,I.n,I.sc,λj=>I.cE j I.m,I.mu,I.wt,I.un,I.lim⟩
def G6.tab(I:G6):Sx.Tb:=⟨I.fs,λ_=>U',1,λk q=>if k=q then 1 else 0,λt k=>I.wt t (I.fs k),I.b⟩
structure F8(I:G6)(D E F:Int):Prop where
 m1:I.m<=1000
 n1:I.n<=1000
 d0:0<D
 e0:0<E
 f0:0<F
 db:Bt 900 D
 eb:Bt 900 E
 fb:Bt 900 F
 row:∀p j,p<I.m->j<I.n->D2 800 (I.row p j)/\(I.row p j).2∣D
 cost:∀t j,t<3->j<I.n->D2 800 (S8 (I.cost j) t)/\(S8 (I.cost j) t).2∣E
 rg:∀p,p<I.m->D2 800 (I.rg p)/\(I.rg p).2∣F
 tp:∀j q,j<I.n->I.tp j=U q->D2 800 q/\∀s,s∣D->q.2*s∣F
 fs:∀k,k<I.m->I.fs k<I.n
theorem F8.sc(H:F8 e D E M)(f:m<e.n):0<e.sc m/\e.sc m∣D/\Bt 900 (e.sc m)/\∀p,p<e.m->(e.row p m).2∣e.sc m:=by
 have:=BZ (D:=D) ((C8 e.m).map λp=>(e.row p m).2) 1 f5 ⟨D,by simp[*]⟩ λx I=>by obtain⟨p,a,rfl⟩:=mem_map.mp I;have:=H.row p m (mem_range.mp a) f;exact⟨this.1.pos,this.2⟩
 obtain⟨b,g,d,c⟩:=this;exact⟨b,c,tZ H.d0 b c H.db,λp a=>d _ (mem_map.mpr ⟨p,mem_range.mpr a,rfl⟩)⟩
theorem Ri(H:F8 e D E M)(b:m<e.n):kh [.list (rl e.m λp=>.list (rl e.n λm=>fr (e.row p m))),.int (m:Int)]=sd (.int (e.sc m)):=by
 delta kh;walk_at "r";rw[t2 (bZ H.m1),O7 λp a=>⟨_,.dat (.int (e.row p m).2),rfl,by delta pB;walk_at "r";rw[N9 _ b];walk_at "r",rfl⟩]
 walk_at "r";have I:(rl e.m λp=>Z7 (e.row p m).2)=((C8 e.m).map λp=>(e.row p m).2).map Z7:=by rw[fz];rfl
 rw[I,mP H.d0 (H.db.mono f5) λx c=>by obtain⟨p,a,rfl⟩:=mem_map.mp c;have:=H.row p m (mem_range.mp a) b;exact⟨this.1.pos,this.2⟩];rfl
theorem a0R(p q:Q2):iH (fr p) (fr q)=sd (.bool (decide (p≠q))):=HQ p q
theorem NV(H:F8 e D E M)(s:m<e.n):hV [.list (rl e.m λp=>.list (rl e.n λm=>fr (e.row p m))),.int (m:Int),.int (e.sc m)]=U (.own ((e.cE m e.m).map λI=>.tuple [.int (I.1:Int),.int I.2])):=by
 obtain⟨_,_,G,_⟩:=H.sc s;have u:∀k,k<=e.m->M6 (L8 2) Z3 Z5 [sd (.list (rl e.m λp=>.list (rl e.n λm=>fr (e.row p m)))),iD m,iD (e.sc m)] ((rl e.m λi=>.tuple [.int (0+i),.list (rl e.n λm=>fr (e.row i m))]).take k)=U ((e.cE m k).map λI=>.tuple [.int I.1,.int I.2]):=by
  have w:∀(q g o f) d,M6 (L8 2) Z3 Z5 d q=U o->M6 (L8 2) Z3 Z5 d g=U f->M6 (L8 2) Z3 Z5 d (q++g)=U (o++f):=by
   intro q;induction q with
   |nil=>intro g o f d a r;cases a;exact r
   |cons x q t =>
    intro g o f d a r;rw[bx];unfold M6 at a ⊢;obtain⟨bs,K,a⟩:=t4 a;obtain⟨b,L,a⟩:=t4 a;rw[K,z9,L,z9];cases b with
    |false =>
     exact t g o f d a r
    |true =>
     obtain⟨y,C,a⟩:=t4 a;obtain⟨l,B,a⟩:=t4 a;cases a;rw[C,z9,t g l f d B r];rfl
  intro k;induction k with
  |zero=>intro _;rfl
  |succ k t =>
   intro O;have h:k<e.m:=by lia
   obtain⟨v,N⟩:=H.row k m h s;have A:(rl e.m λi=>dG [.int (0+i),.list (rl e.n λm=>fr (e.row i m))]).take (k+1)=(rl e.m λi=>dG [.int (0+i),.list (rl e.n λm=>fr (e.row i m))]).take k++[.tuple [.int (0+k),.list (rl e.n λm=>fr (e.row k m))]]:=by rw[List.take_succ,O1,ph h];rfl
   rw[A,G6.cE,cy];refine w _ _ _ _ _ (t el) ?_;unfold M6;simp only[L8,X9,jV,V5,z9];have eq:Z3 (Q3 [.int (0+k),.list (rl e.n λm=>fr (e.row k m))]++[sd (.list (rl e.m λp=>.list (rl e.n λm=>fr (e.row p m)))),iD m,iD (e.sc m)])=U (decide (e.row k m≠q0)):=by unfold Z3;walk_at "r";rw[N9 _ s];walk_at "r";rw[a0R (e.row k m) q0];walk_at "r"
   rw[eq,z9];by_cases c:e.row k m=q0;rw[s9 (by simp[c]),s9 (λz=>z c)];rfl
   . rw[t2 (by simpa using c),t2 c]
     have F:Z5 (Q3 [.int (0+k),.list (rl e.n λm=>fr (e.row k m))]++[sd (.list (rl e.m λp=>.list (rl e.n λm=>fr (e.row p m)))),iD m,iD (e.sc m)])=sd (.tuple [.int (0+k),.int (wh (e.row k m) (e.sc m))]):=by
      unfold Z5;walk_at "r";rw[N9 _ s];walk_at "r";rw[rz (v.bt.mono f5) (v.bb.mono f5) (by have:=v.pos;exact M4) (G.mono f5)];walk_at "r"
     rw[F,z9];simp only[M6,z9,C6,oP,X7,PV.vG]
 have:=u e.m F3;rw[PK (by rw[J8];simp[*])]at this;unfold hV;walk_at "r";rw[vD,t2 (bZ H.m1),this];rfl
theorem Us(I:G6)(j:Nat):∀k e,e∈I.cE j k->e.1<k/\e.2=wh (I.row e.1 j) (I.sc j):=by
 intro l_;induction l_ with
 |zero =>
  intro e h;exact absurd h (by simp[G6.cE])
 |succ k ih_ =>
  intro e h;rcases List.mem_append.mp h with h|h
  have:=ih_ e h;exact⟨by lia,this.2⟩
  simp_all
theorem Ut(I:G6)(j:Nat):∀k,(I.cE j k).length<=k:=by
 intro l_;induction l_ with
 |zero =>
  simp[G6.cE]
 |succ k ih_ =>
  have:=ih_;rw[G6.cE,aa];split<;>simp<;>omega
theorem Ur(c d:List (Nat×Int))(r:Nat):O8 (c++d) r=O8 c r+O8 d r:=by
 induction c with
 |nil=>simp[O8]
 |cons e c a=>rw[bx,O8,O8,a];lia
theorem NU(I:G6)(j p:Nat):∀k,O8 (I.cE j k) p=if p<k then wh (I.row p j) (I.sc j)else 0:=by
 intro l_;induction l_ with
 |zero =>
  rfl
 |succ k ih_ =>
  rw[G6.cE,Ur,ih_];by_cases c:p=k;subst c;have g:(if p<p then wh (I.row p j) (I.sc j)else 0)=0:=s9 B4;have f:(if p<p+1 then wh (I.row p j) (I.sc j)else 0)=wh (I.row p j) (I.sc j):=t2 B4;rw[g,f];by_cases z:I.row p j=q0;have a:(if I.row p j≠q0 then[(p,wh (I.row p j) (I.sc j))]else[])=[]:=s9 (λy=>y z);rw[a,z];show 0+0=0*_;simp[*];have a:(if I.row p j≠q0 then[(p,wh (I.row p j) (I.sc j))]else[])=[(p,wh (I.row p j) (I.sc j))]:=t2 z;rw[a];simp[O8]
  . have e:O8 (if I.row k j≠q0 then[(k,wh (I.row k j) (I.sc j))]else[]) p=0:=by
      split;have d:¬k=p:=λz=>c z.symm;simp[O8,d];rfl
    rw[e];by_cases b:p<k;rw[t2 b,t2 eS];simp[*];rw[s9 b,s9 u3];rfl
theorem xV:∀fs:List (Str×PF),(fs.map (·.1)).contains B=U'->D9 B fs=J:=by
 intro l_;induction l_ with
 |nil =>
  intro _;exact rfl
 |cons a_ r ih_ =>
  obtain⟨g,x⟩:=a_;intro h;rw[C6,List.contains_cons,Pg]at h;rw[D9,s9 (λz=>by lia)];exact ih_ h.2
theorem RH:∀fs:List (Str×PF),D9 B fs=J->Q0 B b6 fs=fs++[(B,b6)]:=by
 intro l_;induction l_ with
 |nil =>
  intro _;exact rfl
 |cons a_ r ih_ =>
  obtain⟨g,x⟩:=a_;intro h;rw[D9]at h;split at h;exact nS h;rename_i c;rw[Q0,s9 c,ih_ h];rfl
theorem aW{a:PV->Option PF}{pv:PV}{p:PF}(h:r[m]? = U (U (.ob N (.ins "Table" a9))))(b:a9.length<900)(c:(a9.map (·.1)).contains B=U')(d:G r=U pv)(e:a pv=U p):Y6 "Table" m B a G r=U (.next (r.set m (U (.ob N (.ins "Table" (a9++[(B,p)])))))):=by delta Y6 gI;rw[d,z9,e,z9,h];simp only[V5,z9];rw[t2 b,RH a9 (xV a9 c)]
theorem oi(h:r[m]? = U (U (.ob N (.ins "Table" a9))))(a:D9 B a9=U (.dat K)):O0 "Table" m B r=U (.dat K):=by delta O0 gI;rw[h];simp only[V5,z9,a,Ei]
theorem HI(h:r[m]? = U (U (.ob N (.ins "Table" a9))))(a:D9 B a9=U (.own u))(b:u.length<1000000)(c:G r=U g):nq "Table" m B G r=U (.next (r.set m (U (.ob N (.ins "Table" (Q0 B (.own (u++[g.d])) a9)))))):=by delta nq gI;rw[c,z9,h];simp only[V5,z9,a,tH];rw[t2 b]
theorem Bc{c':OD}{f:List PV->Option (PV×Ds)}{xs:List f7}(h:a2[l]? = U (U (.ob N (.ins "Table" a9))))(e:(a9.map (·.1)).contains B=U')(c:c9 a2=U (xs.map AV.d))(b:f (.ob J (.ins "Table" a9)::xs.map .dat)=U (g,U (.ob J c')::r)):
  P4 "Table" B l f c9 a2=U (g,a2.set l (U (.ob N c'))):=by delta P4 gI;rw[h];simp only[V5,z9,xV a9 e];refine xg h ?_ b;delta ie;rw[h];simp only[c,z9]
theorem rM:D9 B ((B,b6)::a9)=U b6:=by rw[D9,t2 rfl]
theorem gg{g:Str}(h:(g==B)=U'):D9 B ((g,b6)::a9)=D9 B a9:=by rw[D9,s9 (by simpa using h)]
theorem a4q{q:PF}:Q0 B q ((B,b6)::a9)=(B,q)::a9:=by rw[Q0,t2 rfl]
theorem put2{g:Str}{q:PF}(h:(g==B)=U'):Q0 B q ((g,b6)::a9)=(g,b6)::Q0 B q a9:=by rw[Q0,s9 (by simpa using h)]
abbrev G6.J1(I:G6):f7:=.list (rl I.n λj=>M0 (I.cost j))
abbrev G6.ax(I:G6):f7:=.list (rl I.m λp=>.list (rl I.n λj=>fr (I.row p j)))
abbrev G6.G5(I:G6):f7:=.list (rl I.m λp=>fr (I.rg p))
abbrev G6.N1(I:G6):f7:=.list (rl I.n λj=>Y4 (I.tp j))
abbrev G6.V2(I:G6):f7:=.list (rl I.m λk=>.int (I.fs k:Int))
theorem F8.wq(H:F8 e D E M){t:Nat}(f:t<3)(c:m<e.n):D2 1700 (e.wq t m)/\(e.wq t m).2∣E:=by
 obtain⟨i,h,d,g⟩:=H.sc c;obtain⟨a,I⟩:=H.cost t m f c;refine⟨jk a (rH d f5),?_⟩;have:=(ak (t:=(S8 (e.cost m) t).1*e.sc m) (b:=(S8 (e.cost m) t).2*1) (by have:=a.pos;simp[*])).2.2.2;rw[oN]at this;delta G6.wq P1;rw[oN];exact hI this I
theorem F8.mu(H:F8 e D E M)(I:m<3):0<e.mu m/\e.mu m∣E/\Bt 900 (e.mu m)/\∀j,j<e.n->(e.wq m j).2∣e.mu m:=by
 obtain⟨b,g,f,c⟩:=BZ (D:=E) ((C8 e.n).map λj=>(e.wq m j).2) 1 f5 ⟨E,by simp[*]⟩ λx d=>by obtain⟨p,a,rfl⟩:=mem_map.mp d;have:=H.wq I (mem_range.mp a);exact⟨this.1.pos,this.2⟩
 exact⟨b,c,tZ H.e0 b c H.eb,λp a=>f _ (mem_map.mpr ⟨p,mem_range.mpr a,rfl⟩)⟩
theorem F8.wt(H:F8 e D E M)(a:m<3)(b:l<e.n):Bt 2600 (e.wt m l):=(H.wq a b).1.bt.mul (H.mu a).2.2.1.fdiv
theorem F8.hq(H:F8 e D E M)(c:m<e.n)(h:e.hq m=U o):D2 1700 o/\o.2∣M:=by
 obtain⟨b,g,d,i⟩:=H.sc c;obtain⟨r,f,rfl⟩:=Option.map_eq_some_iff.mp h;obtain⟨a,I⟩:=H.tp m r c f;have k:D2 900 (1,e.sc m):=⟨b,by simp,⟨by simp⟩,d⟩;refine⟨jk a k,?_⟩;have:=(ak (t:=r.1*1) (M7 a.pos b)).2.2.2;exact hI this (I _ g)
theorem F8.Of(H:F8 e D E M):∀x∈e.ql,0<x/\x∣M:=by
 intro x a;rcases List.mem_append.mp a with a|a
 obtain⟨p,b,rfl⟩:=mem_map.mp a;have:=H.rg p (mem_range.mp b);exact⟨this.1.pos,this.2⟩;obtain⟨j,c,h⟩:=List.mem_filterMap.mp a;obtain⟨q,hq,rfl⟩:=Option.map_eq_some_iff.mp h;have:=H.hq (mem_range.mp c) hq;exact⟨this.1.pos,this.2⟩
theorem F8.un(H:F8 e D E M):0<e.un/\e.un∣M/\Bt 900 e.un/\(∀p,p<e.m->(e.rg p).2∣e.un)/\∀j q,j<e.n->e.hq j=U q->q.2∣e.un:=by
 obtain⟨a,f,c,b⟩:=BZ e.ql 1 f5 ⟨M,by simp[*]⟩ H.Of;refine⟨a,b,tZ H.f0 a b H.fb,λp d=>c _ (List.mem_append.mpr (.inl (mem_map.mpr ⟨p,mem_range.mpr d,rfl⟩))),λj q I hq=>c _ (List.mem_append.mpr (.inr (List.mem_filterMap.mpr ⟨j,mem_range.mpr I,by rw[hq];rfl⟩)))⟩
theorem F8.lim(H:F8 e D E M){v:Int}(a:m<e.n)(h:e.lim m=U v):Bt 2600 v:=by obtain⟨q,hq,rfl⟩:=Option.map_eq_some_iff.mp h;exact(H.hq a hq).1.bt.mul H.un.2.2.1.fdiv
theorem F8.b(H:F8 e D E M){p:Nat}(a:p<e.m):Bt 1700 (e.b p):=(H.rg p a).1.bt.mul H.un.2.2.1.fdiv
noncomputable abbrev VD(I:G6):List (Str×PF):=[("scales",.dat (il I.n I.sc)),("columns",.dat (.list (rl I.n λj=>gL (I.cE j I.m))))]
noncomputable abbrev ou(I:G6)(u v:List f7):List (Str×PF):=[("scales",.dat (il I.n I.sc)),("columns",.dat (.list (rl I.n λj=>gL (I.cE j I.m)))),("multiples",.own u),("weights",.own v)]
theorem qg(H:F8 e D E M){t:Nat}(a:t<3)(w:Option Addr)(u v:List f7)(s:u.length<1000)(r:v.length<1000)(x3 c:Option PV):∃q k,aV [U (.ob w (.ins "Table" (ou e u v))),sd e.J1,iD (t:Int),x3,c]=U (.next [U (.ob w (.ins "Table" (ou e (u++[.int (e.mu t)]) (v++[il e.n (e.wt t)])))),sd e.J1,iD (t:Int),q,k]):=by
 refine⟨sd (.list (rl e.n λj=>fr (e.wq t j))),iD (e.mu t),?_⟩
 delta aV;have i:u9 3 (A2 (E9 Z6 (f6 (t6 1) (f6 (O0 "Table" 0 "scales") u5))) (L8 2) A5 X2) [U (.ob w (.ins "Table" (ou e u v))),sd e.J1,iD t,x3,c]=U (.next [U (.ob w (.ins "Table" (ou e u v))),sd e.J1,iD t,sd (.list (rl e.n λj=>fr (e.wq t j))),c]):=by
  have m:O0 "Table" 0 "scales" [U (.ob w (.ins "Table" (ou e u v))),sd e.J1,iD t,x3,c]=sd (il e.n e.sc):=oi rfl rM;have g:A2 (E9 Z6 (f6 (t6 1) (f6 (O0 "Table" 0 "scales") u5))) (L8 2) A5 X2 [U (.ob w (.ins "Table" (ou e u v))),sd e.J1,iD t,x3,c]=U (.own (rl e.n λj=>fr (e.wq t j))):=by
   walk_at "r";rw[m];walk_at "r";rw[lD];walk_at "r";rw[t2 (bZ H.n1),O7 λj b=>⟨_,.dat (fr (e.wq t j)),rfl,by delta X2;walk_at "r";rw[a1j _ a];walk_at "r";rw[nW (H.cost t j a b).1 (rH (H.sc b).2.2.1 f5) f5];rfl,rfl⟩];walk_at "r"
  rw[eH,g];rfl
 rw[B8,i,A4];have l:u9 4 (f9 O2 (f6 (A2 (L5 (t6 3)) B3 A5 eg) u5)) [U (.ob w (.ins "Table" (ou e u v))),sd e.J1,iD t,sd (.list (rl e.n λj=>fr (e.wq t j))),c]=U (.next [U (.ob w (.ins "Table" (ou e u v))),sd e.J1,iD t,sd (.list (rl e.n λj=>fr (e.wq t j))),iD (e.mu t)]):=by
  walk_at "r";rw[t2 (bZ H.n1),O7 λj b=>⟨_,.dat (.int (e.wq t j).2),rfl,by rfl,rfl⟩]
  walk_at "r";have I:(rl e.n λj=>Z7 (e.wq t j).2)=((C8 e.n).map λj=>(e.wq t j).2).map Z7:=by rw[fz];rfl
  rw[I,mP H.e0 (H.eb.mono f5) λx f=>by obtain⟨p,h,rfl⟩:=mem_map.mp f;have:=H.wq a (mem_range.mp h);exact⟨this.1.pos,this.2⟩];rfl
 rw[B8,l,A4];rw[B8,HI rfl (by rw[gg A9,gg A9,rM]) (C3 v5 f5) rfl,A4];rw[show Q0 "multiples" (.own (u++[(PV.dat (.int (e.mu t))).d])) (ou e u v)=ou e (u++[.int (e.mu t)]) v from by rw[put2 A9,put2 A9,a4q];rfl]
 have o:A2 (L5 (t6 3)) B3 A5 ef [U (.ob w (.ins "Table" (ou e (u++[.int (e.mu t)]) v))),sd e.J1,iD t,sd (.list (rl e.n λj=>fr (e.wq t j))),iD (e.mu t)]=U (.own (rl e.n λj=>.int (e.wt t j))):=by
  walk_at "r";rw[t2 (bZ H.n1),O7 λj b=>⟨_,.dat (.int (e.wt t j)),rfl,by walk_at "r";exact rz ((H.wq a b).1.bt.mono f5) ((H.wq a b).1.bb.mono f5) (by have:=(H.wq a b).1.pos;exact M4) ((H.mu a).2.2.1.mono f5),rfl⟩];walk_at "r"
 simp only[jJ];rw[HI rfl (by rw[gg A9,gg A9,gg A9,rM]) pJ o];rfl
theorem IP(H:F8 e D E M):ah [.ob J (.ins "Table" (VD e)),.dat e.J1]=U (.dat .none,[U (.ob J (.ins "Table" (ou e (rl 3 λt=>.int (e.mu t)) (rl 3 λt=>il e.n (e.wt t))))),J]):=by
 refine ow rfl λt=>?_;generalize a:(U (t 0))=w;generalize h:e.J1=C;rw[show((dJ t 0 [PV.ob J (.ins "Table" (VD e)),.dat C]).map U++C2 (5-2) J)=[U (.ob (U (t 0)) (.ins "Table" (VD e))),sd C,J,J,J]from rfl,a];rw[B8,aW rfl (by show 2<900;decide) (by show(["scales","columns"]:List Str).contains _=U';decide +kernel) rfl rfl,A4];rw[B8,aW rfl (by show 3<900;decide) (by show(["scales","columns","multiples"]:List Str).contains _=U';decide +kernel) rfl rfl,A4];simp only[jJ,bx,bu];subst h;obtain⟨I,f,j⟩:=qg H (t:=0) f5 w [] [] f5 f5 J J;obtain⟨c,i,b⟩:=qg H (t:=1) f5 w [.int (e.mu 0)] [il e.n (e.wt 0)] (by show 1<1000;decide) (by show 1<1000;decide) I f;obtain⟨g,k,d⟩:=qg H (t:=2) f5 w [.int (e.mu 0),.int (e.mu 1)] [il e.n (e.wt 0),il e.n (e.wt 1)] (by show 2<1000;decide) (by show 2<1000;decide) c i;delta J3;rw[show L5 (fC gk) [U (.ob w (.ins "Table" (ou e [] []))),sd e.J1,J,J,J]=U [.int 0,.int 1,.int 2]from rfl];rw[z9];rw[P2 rfl j];rw[P2 rfl b];rw[P2 rfl d];show mK [PV.ob J (.ins "Table" (VD e)),.dat e.J1] t (.next [U (.ob w (.ins "Table" (ou e (rl 3 λt=>.int (e.mu t)) (rl 3 λt=>il e.n (e.wt t))))),sd e.J1,_,g,k])=_;rw[<-a];simp only[mK,T9,V5]
noncomputable abbrev DT(I:G6):List (Str×PF):=ou I (rl 3 λt=>.int (I.mu t)) (rl 3 λt=>il I.n (I.wt t))
noncomputable abbrev fsU(I:G6):List (Str×PF):=[("scales",.dat (il I.n I.sc)),("columns",.dat (.list (rl I.n λj=>gL (I.cE j I.m)))),("multiples",.own (rl 3 λt=>.int (I.mu t))),("weights",.own (rl 3 λt=>il I.n (I.wt t))),("unit",.dat (.int I.un))]
noncomputable abbrev fsR(I:G6):List (Str×PF):=[("scales",.dat (il I.n I.sc)),("columns",.dat (.list (rl I.n λj=>gL (I.cE j I.m)))),("multiples",.own (rl 3 λt=>.int (I.mu t))),("weights",.own (rl 3 λt=>il I.n (I.wt t))),("unit",.dat (.int I.un)),("rights",.own (rl I.m λp=>.int (I.b p)))]
noncomputable abbrev fsM(I:G6):List (Str×PF):=[("scales",.dat (il I.n I.sc)),("columns",.dat (.list (rl I.n λj=>gL (I.cE j I.m)))),("multiples",.own (rl 3 λt=>.int (I.mu t))),("weights",.own (rl 3 λt=>il I.n (I.wt t))),("unit",.dat (.int I.un)),("rights",.own (rl I.m λp=>.int (I.b p))),("limits",.dat (.list (rl I.n λj=>gK (I.lim j))))]
theorem a0K(H:F8 e D E M)(a:m<e.n):D2 900 (1,e.sc m):=by obtain⟨c,I,b,d⟩:=H.sc a;exact⟨c,by simp,⟨by simp⟩,b⟩
theorem NT(k:Nat)(h:Nat->Option Q2)(ds:Ds):M6 B3 T3 T5 ds (rl k λj=>Y4 (h j))=U (((C8 k).filterMap λj=>(h j).map (·.2)).map .int):=by
 have a:∀l:List Nat,M6 B3 T3 T5 ds (l.map λj=>Y4 (h j))=U ((l.filterMap λj=>(h j).map (·.2)).map .int):=by
  intro l;induction l with
  |nil=>rfl
  |cons j l b =>
   rw[C6];unfold M6;simp only[B3,z9];have c:T3 (Q3 [Y4 (h j)]++ds)=U (h j).isSome:=by walk_at "r";cases h j<;>rfl
   rw[c,z9,zq];cases hj:h j with
   |none =>
    exact b
   |some q =>
    have d:T5 (Q3 [Y4 (U q)]++ds)=sd (.int q.2):=by rfl
    rw[d,z9,b];rfl
 exact a _
theorem MU(H:F8 e D E M):aL [.ob J (.ins "Table" (DT e)),.dat e.G5,.dat e.N1]=U (.dat .none,[U (.ob J (.ins "Table" (fsM e))),J,J]):=by
 refine ow rfl λt=>?_;obtain⟨u1,u2,I,r,o⟩:=H.un;generalize f:(U (t 0))=w;rw[show((dJ t 0 [PV.ob J (.ins "Table" (DT e)),.dat e.G5,.dat e.N1]).map U++C2 (5-3) J)=[U (.ob (U (t 0)) (.ins "Table" (DT e))),sd e.G5,sd e.N1,J,J]from rfl,f]
 have i:A2 (E9 Z6 (f6 (t6 2) (f6 (O0 "Table" 0 "scales") u5))) (L8 2) A5 bD [U (.ob w (.ins "Table" (DT e))),sd e.G5,sd e.N1,J,J]=U (.own (rl e.n λj=>Y4 (e.hq j))):=by
  have c:O0 "Table" 0 "scales" [U (.ob w (.ins "Table" (DT e))),sd e.G5,sd e.N1,J,J]=sd (il e.n e.sc):=oi rfl rM;walk_at "r";rw[c];walk_at "r";rw[lD];walk_at "r";rw[t2 (bZ H.n1),O7 λj a=>⟨_,.dat (Y4 (e.hq j)),rfl,by
   delta bD;walk_at "r";delta G6.hq;cases hq:e.tp j with
   |none=>rfl
   |some q =>
    simp only[mD,if_false,Y4,qX];rw[nW (H.tp j q a hq).1 (a0K H a) f5],rfl⟩]
  walk_at "r"
 rw[B8,eH,i];simp only[tQ,A4,PV.Kj,FP,jJ];have g:u4 F9 (A2 (L5 (t6 1)) B3 A5 bC) (A2 (L5 (t6 3)) B3 T3 T5) [U (.ob w (.ins "Table" (DT e))),sd e.G5,sd e.N1,sd (.list (rl e.n λj=>Y4 (e.hq j))),J]=U (.own (e.ql.map .int)):=by
  walk_at "r";rw[t2 (bZ H.m1),O7 λp d=>⟨_,.dat (.int (e.rg p).2),rfl,by delta bC;walk_at "r",rfl⟩]
  walk_at "r";rw[t2 (bZ H.n1),NT];walk_at "r";rw[Oi (by
   rw[J8,E7];have:=List.length_filterMap_le (λj=>(e.hq j).map (·.2)) (C8 e.n);rw[rj]at this;have:=H.m1;have:=H.n1
   lia)]
  delta G6.ql;rw[cy,fz];rfl
 rw[B8,eH,g];simp only[tQ,A4,PV.Kj,FP,jJ];have k:f9 O2 (f6 (t6 4) u5) [U (.ob w (.ins "Table" (DT e))),sd e.G5,sd e.N1,sd (.list (rl e.n λj=>Y4 (e.hq j))),sd (.list (e.ql.map .int))]=sd (.int e.un):=by walk_at "r";rw[mP H.f0 (H.fb.mono f5) H.Of];rfl
 rw[B8,aW (p:=.dat (.int e.un)) rfl (by show 4<900;decide) (by show(["scales","columns","multiples","weights"]:List Str).contains _=U';decide +kernel) k rfl,A4]
 simp only[jJ,bx,bu];have h:A2 (L5 (t6 1)) B3 A5 bB [U (.ob w (.ins "Table" (fsU e))),sd e.G5,sd e.N1,sd (.list (rl e.n λj=>Y4 (e.hq j))),sd (.list (e.ql.map .int))]=U (.own (rl e.m λp=>.int (e.b p))):=by
  walk_at "r";rw[t2 (bZ H.m1),O7 λp d=>⟨_,.dat (.int (e.b p)),rfl,by
   delta bB;have c:O0 "Table" 1 "unit" (Q3 [fr (e.rg p)]++[U (.ob w (.ins "Table" (fsU e))),sd e.G5,sd e.N1,sd (.list (rl e.n λj=>Y4 (e.hq j))),sd (.list (e.ql.map .int))])=sd (.int e.un):=oi rfl (by rw[gg A9,gg A9,gg A9,gg A9,rM]);simp only[f9,f6];rw[c];walk_at "r";rw[rz ((H.rg p d).1.bt.mono f5) ((H.rg p d).1.bb.mono f5) (by have:=(H.rg p d).1.pos;exact M4) (I.mono f5)]
   rfl,rfl⟩]
  walk_at "r"
 rw[B8,aW rfl (by show 5<900;decide) (by show(["scales","columns","multiples","weights","unit"]:List Str).contains _=U';decide +kernel) h rfl,A4]
 simp only[jJ,bx,bu];have l:A2 (L5 (t6 3)) B3 A5 bA [U (.ob w (.ins "Table" (fsR e))),sd e.G5,sd e.N1,sd (.list (rl e.n λj=>Y4 (e.hq j))),sd (.list (e.ql.map .int))]=U (.own (rl e.n λj=>gK (e.lim j))):=by
  walk_at "r";rw[t2 (bZ H.n1),O7 λj a=>⟨_,.dat (gK (e.lim j)),rfl,by
   delta bA;have c:O0 "Table" 1 "unit" (Q3 [Y4 (e.hq j)]++[U (.ob w (.ins "Table" (fsR e))),sd e.G5,sd e.N1,sd (.list (rl e.n λj=>Y4 (e.hq j))),sd (.list (e.ql.map .int))])=sd (.int e.un):=oi rfl (by rw[gg A9,gg A9,gg A9,gg A9,rM])
   simp only[f9,f6,fN];rw[c];walk_at "r";delta G6.lim;cases hq:e.hq j with
   |none=>rfl
   |some q =>
    simp only[mD,if_false,Y4,qX,gK];rw[rz ((H.hq a hq).1.bt.mono f5) ((H.hq a hq).1.bb.mono f5) (by have:=(H.hq a hq).1.pos;exact M4) (I.mono f5)],rfl⟩]
  walk_at "r"
 rw[aW (p:=.dat (.list (rl e.n λj=>gK (e.lim j)))) rfl (by show 6<900;decide) (by show(["scales","columns","multiples","weights","unit","rights"]:List Str).contains _=U';decide +kernel) l rfl,z9];simp only[jJ,bx,bu];rw[<-f];simp only[mK,T9,V5]
theorem WB{i:Nat}{Fk Fv:DV}{ds:Ds}(h:ds[i]? = U (U (.own u)))(c:Fv ds=U g)(b:Fk ds=sd (.int (m:Int)))(e:m<u.length):cL i Fk Fv ds=U (.next (ds.set i (U (.own (u.set m g.d))))):=by delta cL;rw[c,z9,b,z9,h];simp only[PV.vG,jb e,z9]
theorem Gz(f:m<=1000)(g:l<m):ke [.int (m:Int),.int (l:Int)]=U (.own (rl m λq=>.int (if l=q then 1 else 0))):=by
 have b:R9 2 (u4 fw (O6 (f6 (fC (.int 0)) u5)) (t6 0)) [iD m,iD l,J]=U (.next [iD m,iD l,U (.own (rl m λ_=>.int 0))]):=by walk_at "r";rw[zX _ f];rfl
 have a:=WB (i:=2) (Fk:=t6 1) (Fv:=fC (.int 1)) (ds:=[iD m,iD l,U (.own (rl m λ_=>.int 0))]) rfl rfl rfl (by rw[J8];exact g);rw[jt]at a;delta ke;delta K6;rw[show(Q3 [.int m,.int l]++C2 (3-2) J)=[iD m,iD l,J]from rfl]
 rw[B8,b,A4,B8,a,A4];have e:(rl m λq=>if q=l then(PV.dat (Z7 1)).d else Z7 0)=rl m λq=>.int (if l=q then 1 else 0):=bT λq _=>by
  by_cases c:q=l;rw[t2 c,t2 c.symm];rfl;rw[s9 c,s9 λz=>c z.symm]
 rw[e];rfl
noncomputable abbrev fsP(I:G6):List (Str×PF):=[("scales",.dat (il I.n I.sc)),("columns",.dat (.list (rl I.n λj=>gL (I.cE j I.m)))),("multiples",.own (rl 3 λt=>.int (I.mu t))),("weights",.own (rl 3 λt=>il I.n (I.wt t))),("unit",.dat (.int I.un)),("rights",.own (rl I.m λp=>.int (I.b p))),("limits",.dat (.list (rl I.n λj=>gK (I.lim j)))),("chosen",.own (rl I.m λk=>.int (I.fs k:Int))),("full",.own (rl I.n λ_=>.bool U')),("size",.dat (.int 1)),("inverse",.dat (.list (rl I.m λk=>il I.m λq=>if k=q then 1 else 0)))]
abbrev nsP:List Str:=["scales","columns","multiples","weights","unit","rights","limits","chosen","full","size","inverse"]
noncomputable abbrev lP(I:G6):List f7:=[il I.n I.sc,.list (rl I.n λj=>gL (I.cE j I.m)),.list (rl 3 λt=>.int (I.mu t)),.list (rl 3 λt=>il I.n (I.wt t)),.int I.un,.list (rl I.m λp=>.int (I.b p)),.list (rl I.n λj=>gK (I.lim j)),.list (rl I.m λk=>.int (I.fs k:Int)),.list (rl I.n λ_=>.bool U'),.int 1,.list (rl I.m λk=>il I.m λq=>if k=q then 1 else 0)]
noncomputable def CS(I:G6):f7:=(OD.ins "Table" (fsP I)).d
theorem a0l(I:G6):CS I=Ah "Table" nsP (lP I):=rfl
theorem Ie(I:G6):vy "Table" (CS I)=U (nsP.map .str,lP I):=by rw[a0l];exact Nj _ _ _
theorem Jo(I:G6):Y8 "Table" "chosen" (CS I)=U (.list (rl I.m λk=>.int (I.fs k:Int))):=by delta Y8;rw[Ie,z9];simp only[C6,U3];walk_at "f"
theorem GB(I:G6):Y8 "Table" "weights" (CS I)=U (.list (rl 3 λt=>il I.n (I.wt t))):=by delta Y8;rw[Ie,z9];simp only[C6,U3];walk_at "f"
theorem yn(H:F8 e D E M)(b:m<3):N6 [CS e,.int (m:Int)]=U (.own (rl e.m λk=>.int (e.wt m (e.fs k)))):=by
 delta N6;walk_at "v";rw[Jo];walk_at "r";rw[t2 (bZ H.m1),O7 λk a=>⟨_,.dat (.int (e.wt m (e.fs k))),rfl,by delta dw;walk_at "v";rw[GB];walk_at "r";rw[N9 _ b];walk_at "r";rw[N9 _ (H.fs k a)];walk_at "r",rfl⟩];rfl
theorem Du(n:Nat)(f:Nat->Int):lW (rl n λk=>.int (f k))=Uf:=by
 have:∀l:List Nat,lW (l.map λk=>Z7 (f k))=Uf:=by
  intro l;induction l with
  |nil=>rfl
  |cons x l a=>rw[C6,lW,a];rfl
 exact this _
theorem Yf(H:F8 e D E M):bL [.ob J (.ins "Table" []),.dat e.J1,.dat e.ax,.dat e.G5,.dat e.N1,.dat e.V2]=U (.dat .none,[U (.ob J (C5 e.L4 e.tab)),J,J,J,J,J]):=by
 refine ow rfl λt=>?_;generalize c:(U (t 0))=w;rw[show((dJ t 0 [PV.ob J (.ins "Table" []),.dat e.J1,.dat e.ax,.dat e.G5,.dat e.N1,.dat e.V2]).map U++C2 (6-6) J)=[U (.ob (U (t 0)) (.ins "Table" [])),sd e.J1,sd e.ax,sd e.G5,sd e.N1,sd e.V2]from rfl,c]
 have f:A2 (E9 R4 (f6 (f9 F6 (f6 (t6 1) u5)) u5)) B3 A5 iS [U (.ob w (.ins "Table" [])),sd e.J1,sd e.ax,sd e.G5,sd e.N1,sd e.V2]=U (.own (rl e.n λj=>.int (e.sc j))):=by
  walk_at "r";rw[J8,bS (by have:=H.n1;lia),gw,xD];walk_at "r";rw[t2 (bZ H.n1),O7 λj b=>⟨_,.dat (.int (e.sc j)),rfl,by walk_at "r";exact Ri H b,rfl⟩];walk_at "r"
 rw[B8,aW (p:=.dat (il e.n e.sc)) rfl B9 (by rfl) f rfl,A4]
 simp only[jJ,bu];have g:A2 (E9 Y9 (f6 (O0 "Table" 0 "scales") u5)) (L8 2) A5 iR [U (.ob w (.ins "Table" [("scales",.dat (il e.n e.sc))])),sd e.J1,sd e.ax,sd e.G5,sd e.N1,sd e.V2]=U (.own (rl e.n λj=>gL (e.cE j e.m))):=by
  have l:O0 "Table" 0 "scales" [U (.ob w (.ins "Table" [("scales",.dat (il e.n e.sc))])),sd e.J1,sd e.ax,sd e.G5,sd e.N1,sd e.V2]=sd (il e.n e.sc):=oi rfl rM;walk_at "r";rw[l];walk_at "r";rw[vD,t2 (bZ H.n1),O7 λj b=>⟨_,.own ((e.cE j e.m).map λI=>.tuple [.int I.1,.int I.2]),rfl,by walk_at "r";rw[X7];exact NV H b,rfl⟩];walk_at "r"
 rw[B8,aW rfl (by show 1<900;decide) (by show(["scales"]:List Str).contains _=U';decide +kernel) g rfl,A4];rw[B8,Q1,Bc (xs:=[e.J1]) rfl (by show(["scales","columns"]:List Str).contains _=U';decide +kernel) rfl (IP H),z9,A4];rw[B8,Q1,Bc (xs:=[e.G5,e.N1]) rfl (by show(["scales","columns","multiples","weights"]:List Str).contains _=U';decide +kernel) rfl (MU H),z9,A4];rw[B8,aW rfl (by show 7<900;decide) (by show(["scales","columns","multiples","weights","unit","rights","limits"]:List Str).contains _=U';decide +kernel) rfl rfl,A4];rw[B8,aW rfl (by show 8<900;decide) (by show(["scales","columns","multiples","weights","unit","rights","limits","chosen"]:List Str).contains _=U';decide +kernel) (by walk_at "r";rw[J8,zX _ H.n1]) rfl,A4];rw[B8,aW (p:=.dat (.int 1)) rfl (by show 9<900;decide) (by show(["scales","columns","multiples","weights","unit","rights","limits","chosen","full"]:List Str).contains _=U';decide +kernel) rfl rfl,A4]
 rw[B8,aW (pv:=.own (rl e.m λk=>il e.m λq=>if k=q then 1 else 0)) (p:=.dat (.list (rl e.m λk=>il e.m λq=>if k=q then 1 else 0))) rfl (by show 10<900;decide) (by show(["scales","columns","multiples","weights","unit","rights","limits","chosen","full","size"]:List Str).contains _=U';decide +kernel) (by
  walk_at "r";rw[J8,bS (by have:=H.m1;lia),gw,xD];walk_at "r";rw[t2 (bZ H.m1),O7 λk d=>⟨_,.own (rl e.m λq=>.int (if k=q then 1 else 0)),rfl,by delta iQ;walk_at "r";rw[J8];exact Gz H.m1 d,rfl⟩]
  walk_at "r") rfl,A4]
 simp only[jJ,bx,bu];rw[aW rfl (by show 11<900;decide) (by show nsP.contains _=U';decide +kernel) (by
  delta A2;rw[show L5 (fC gk) _=U (rl 3 λi=>.int i)from rfl,z9]
  rw[t2 (bZ f5),O7 λa h=>⟨_,.own (rl e.m λk=>.int (e.wt a (e.fs k))),rfl,by
   delta iP aq;have I:S3 "Table" "first_prices" N6 (S9 1) (f6 (t6 0) u5) (Q3 [.int a]++[U (.ob w (.ins "Table" (fsP e))),sd e.J1,sd e.ax,sd e.G5,sd e.N1,sd e.V2])=U (.own (rl e.m λk=>.int (e.wt a (e.fs k)))):=by exact yn H h
   rw[I,z9];simp only[Du,V5],rfl⟩]
  rfl) rfl,z9]
 simp only[jJ];rw[<-c];simp only[mK,T9];rfl
open Sx (sN pN sm det G9 dot)
theorem a0A(d:1<=m)(g:1<=l):∀(n:Nat) (f:Nat->Nat),(∀i,i<n->i≠O->f i<=m)->(O<n->f O<=l)->pN n f<=m ^ n*l:=by
 intro l_;induction l_ with
 |zero =>
  intro f _ _;rw[pN,Nat.pow_zero];simp[*]
 |succ n ih_ =>
  intro f h1 h2;by_cases c:n=O
  . have a:pN n f<=m ^ n:=by
      have:∀x,x<=n->pN x f<=m ^ x:=by
       intro x;induction x with
       |zero=>intro _;rw[pN,Nat.pow_zero];simp[*]
       |succ x h =>
        exact λj=>yT (h el) (h1 x eS u3)
      exact this n F3
    have b:f n<=l:=by rw[c];exact h2 B4
    have e:m ^ n*l<=m ^ (n+1)*l:=pj _ (by rw[EK];exact Nat.le_mul_of_pos_right _ d);exact C3 (yT a b) e
  . have a:=ih_ f (λi y=>h1 i eS) λz=>h2 eS
    calc pN n f*f n<=(m ^ n*l)*m:=yT a (h1 n B4 c)
     _=m ^ (n+1)*l:=by rw[EK,ET,ET,uu l m]
theorem xy:∀{n:Nat} {f:Nat->Nat},n<=1000->(∀i,i<n->f i<2 ^ m)->sN n f<2 ^ (m+10):=by
 intro n f a h;have:∀e,e<=n->sN e f<=e*2 ^ m:=by
  intro e;induction e with
  |zero=>intro _;rw[sN];exact eX _
  |succ e c =>
   intro b;have:=h e v5;rw[sN,Nat.succ_mul];lia
 have:=this n F3;have:0<2 ^ m:=EG f5;have:n*2 ^ m<=1000*2 ^ m:=pj _ a;lia
theorem Bt.sm(a:l<=1000)(h:∀i,i<l->Bt m (C i)):Bt (m+10) (Sx.sm l C):=⟨pd (Sx.Lr l C) (xy a λi b=>(h i b).lt)⟩
theorem AA{d k:Nat}{M:Nat->Nat->Int}(b:∀i,i<m->i≠k->sN m (λr=>(M i r).natAbs)<=2 ^ l)(a:k<m->sN m (λr=>(M k r).natAbs)<=2 ^ d):Bt (l*m+d+1) (det m M):=⟨by
 have h:=C3 (Sx.NP m M) (a0A (EG f5) (EG f5) m (λi=>sN m λr=>(M i r).natAbs) b a)
 rw[<-Nat.pow_mul,<-Nat.pow_add]at h;exact pd h (Pf f5 B4)⟩
theorem Bt.sign(hs:D=1\/D = -1)(h:D*E=M)(b:Bt m M):Bt m E:=b.of_le (by rw[<-h];rcases hs with rfl|rfl<;>simp)
structure Small(Q:W5)(b:Nat->Int)(c:Nat):Prop where
 m1:Q.m<=1000
 n1:Q.n<=1000
 c1:c*Q.m<=2000
 c2:c<=1000
 cn:∀j,j<Q.n->sN Q.m (λp=>(O8 (Q.col j) p).natAbs)<=2 ^ c
 cl:∀j,j<Q.n->(Q.col j).length<=1000
 cb:∀j,j<Q.n->∀e∈Q.col j,e.1<Q.m/\Bt 7000 e.2
 wb:∀t j,t<3->j<Q.n->Bt 2600 (Q.wt t j)
 w0:∀t j,3<=t->Q.wt t j=0
 lb:∀j v,j<Q.n->Q.lim j=U v->Bt 2600 v/\0<=v
 bb:∀p,p<Q.m->Bt 2600 (b p)
section
variable{T:Sx.Tb}
theorem a2t{f:Nat->Nat}(h:l<m):f l<=sN m f:=by
 induction m with
 |zero=>simp_all
 |succ m a =>
  rw[sN];by_cases z:l=m;rw[z];simp[*];have:=a (pa (ri v5) v5);exact Nat.le_add_right_of_le v5
theorem Small.col{Q:W5}(S:Small Q C m)(d:l<Q.n)(a:O<Q.m):Bt (m+1) (O8 (Q.col l) O):=⟨by
 have:=S.cn l d;have:=a2t (f:=λO=>(O8 (Q.col l) O).natAbs) a;have:2 ^ m<2 ^ (m+1):=Pf f5 B4
 lia⟩
theorem Small.det(S:Small f C m)(L:Sx.R7 (f.pb C) T){k:Nat}(h:k<f.m){x:Nat->Int}(e:sN f.m (λr=>(x r).natAbs)<=2 ^ l):Bt (m*f.m+l+1) (dot f.m (T.inv k) x):=by
 obtain⟨s,g,b,Q⟩:=L.sg;refine Bt.sign g (Q k h x) (AA (k:=k) (λi j a=>?_) λ_=>?_);rw[show(λr=>(G9 (T.M (f.pb C)) k x i r).natAbs)=λr=>(O8 (f.col (T.B i)) r).natAbs from by funext r;rw[Sx.aD _ _ _ a];rfl];exact S.cn _ (L.bn i j);rw[show(λr=>(G9 (T.M (f.pb C)) k x k r).natAbs)=λr=>(x r).natAbs from by funext r;rw[Sx.bP]];exact e
theorem Small.tab(S:Small f C l)(K:Sx.Ok (f.pb C) T):bp f T:=by
 have L:=K.J4;have:=S.c1;have:=S.c2;have c:Bt 2001 T.size:=by
  obtain⟨s,x,D,E⟩:=L.sg;have:=AA (d:=0) (k:=f.m) (λi b _=>S.cn _ (L.bn i b)) (λz=>by simp_all);exact(Bt.sign x D this).mono (zc v5)
 have w:∀k q,k<f.m->q<f.m->Bt 2012 (T.inv k q):=λk q e hq=>by
  have h:sN f.m (λr=>(Sx.unit q r).natAbs)<2 ^ (1+10):=xy S.m1 λi _=>by delta Sx.unit;split<;>decide
  have:=S.det L e (fA h);rw[Sx.rV _ hq]at this;exact this.mono B4
 have w9:∀a k,a<f.n->k<f.m->Bt 3001 (T.w9 (C1 f) a k):=λa k o e=>(S.det L e (S.cn a o)).mono u3
 have rt:∀p,p<f.m->Bt 3612 (T.rt p):=λp Q=>by
  rw[K.rt p Q];have x:Bt (2600+(l+1)+10) (Sx.fsum (f.pb C) T λj=>(f.pb C).A j p):=Bt.sm S.n1 λj u=>by
   split
   . refine Bt.mul ?_ (S.col u Q);show Bt 2600 ((f.lim j).getD 0)
     cases hl:f.lim j with
     |none=>exact Bt.mono (m:=1) ⟨by decide⟩ f5
     |some v=>exact(S.lb j v u hl).1
   exact Bt.mono (m:=1) ⟨by decide⟩ (Nat.succ_pos _)
  exact(((S.bb p Q).mono (n:=3611) f5).sub (x.mono u3))
 have am:∀k,k<f.m->Bt 5623 (T.am (C1 f) k):=λk e=>by exact(S.det L e (fA (xy S.m1 λp Q=>(rt p Q).lt))).mono B4
 have y:∀t q,t<3->q<f.m->Bt 4622 (T.pr t q):=λt q g hq=>by rw[L.pr t q hq];exact Bt.sm S.m1 λk e=>((S.wb t _ g (L.bn k e)).mul (w k q e hq)).mono f5
 refine⟨S.m1,S.n1,S.cl,S.cb,λt j g u=>(S.wb t j g u).mono f5,λj v u B=>(S.lb j v u B).1.mono f5,L.bn,λp Q=>(rt p Q).mono f5,λk q e hq=>(w k q e hq).mono f5,λt q g hq=>(y t q g hq).mono f5,c.mono f5,L.pos,λk e=>(am k e).mono f5,λa k o e=>(w9 a k o e).mono f5,λt a g o=>?_⟩;exact((((S.wb t a g o).mul c).mono (n:=5633) f5).sub ((Bt.sm S.m1 λp Q=>(y t p g Q).mul (S.col o Q)).mono u3)).mono f5
end
open Sx (sN pN sm det G9 dot)
section
variable{T:Sx.Tb}
theorem yo(hs:0<D)(h:D*E=M):D*M.fdiv D=M:=by rw[<-h,Qc _ M4]
theorem GA(S:Small f C m)(K:Sx.Ok (f.pb C) T){a:Nat}{g:Int}(n:l<f.m):Sx.EA (f.pb C) T a l g (Y3 f T a l g):=by
 have L:=K.J4;refine⟨λk w=>rfl,rfl,λq hq=>?_,λr q s hq d=>?_,λt q hq=>?_⟩;show eD f T a l g l q=_;delta eD;simp;show T.size*eD f T a l g r q=_;delta eD;rw[s9 d];obtain⟨z,Q⟩:=L.exact n g r q s hq d;exact yo L.pos Q
 . show T.size*(if t<3 then vQ f T a l g t else T.pr t) q=_;by_cases h:t<3
   . rw[t2 h];delta vQ;obtain⟨z,Q⟩:=L.a1A n g t hq;have e:T.pr t q*(g*T.w9 (C1 f) a l)-(-g*T.rest (C1 f) t a)*T.inv l q=T.pr t q*(g*T.w9 (f.pb C) a l)+g*T.rest (f.pb C) t a*T.inv l q:=by
      show T.pr t q*(g*T.w9 (C1 f) a l)-(-g*T.rest (C1 f) t a)*T.inv l q=T.pr t q*(g*T.w9 (C1 f) a l)+g*T.rest (C1 f) t a*T.inv l q;lia
     rw[e];exact yo L.pos Q
   . rw[s9 h];have i:∀j,(f.pb C).c t j=0:=λj=>S.w0 t j (mz v5)
     have o:∀q,q<f.m->T.pr t q=0:=λq hq=>by rw[L.pr t q hq];exact Sx.iT λk _=>by rw[i,cR]
     have v:T.rest (f.pb C) t a=0:=by
      delta Sx.Tb.rest;rw[i,cR];have:dot (f.pb C).m (T.pr t) ((f.pb C).A a)=0:=Sx.iT λp u=>by rw[o p u,cR]
      rw[this];rfl
     rw[o q hq,v];simp
theorem flip_flip(c:f.lim m=U D):Sx.KA (f.pb C) T m (ll f T m (-(T.sg m*D))):=by
 refine⟨λ_ _=>rfl,rfl,λ_ _ _ _=>rfl,λ_ _ _=>rfl,λj _=>rfl,λp _=>?_⟩;show T.rt p + -(T.sg m*D)*O8 (f.col m) p=T.rt p-T.sg m*(Sx.uv (f.pb C) m*O8 (f.col m) p)
 have:Sx.uv (f.pb C) m=D:=by delta Sx.uv;show(f.lim m).getD 0=D;rw[c];rfl
 rw[this,yG,P7];rfl
theorem aN:∀{k:Nat},H∈stI f T m k↔H∈vi f m\/∃i,i<k/\H∈stK f T m i:=by
 intro l_;induction l_ with
 |zero =>
  constructor;exact .inl;rintro(h|⟨i,b,_⟩);exact h;exact nt
 |succ k ih_ =>
  rw[stI,jU,ih_];constructor;rintro((h|⟨i,b,h⟩)|h);exact .inl h;exact .inr ⟨i,eS,h⟩;exact .inr ⟨k,by simp[*],h⟩;rintro(h|⟨i,b,h⟩);exact .inl (.inl h);by_cases z:i=k;rw[z]at h;exact .inr h;exact .inl (.inr ⟨i,pa (ri v5) v5,h⟩)
theorem iX:H∈vi f m ↔ ∃v,f.lim m=U v/\H=⟨v,1,m,J,U'⟩:=by
 delta vi;cases h:f.lim m with
 |none=>simp
 |some v=>simp
theorem aM:H∈stK f T m l↔(0<T.sg m*T.w9 (C1 f) m l/\H=⟨T.am (C1 f) l,T.sg m*T.w9 (C1 f) m l,T.B l,U l,U'⟩)\/(T.sg m*T.w9 (C1 f) m l<0/\∃v,f.lim (T.B l)=U v/\H=⟨v*T.size-T.am (C1 f) l,-(T.sg m*T.w9 (C1 f) m l),T.B l,U l,Uf⟩):=by
 delta stK;by_cases c:0<T.sg m*T.w9 (C1 f) m l;rw[t2 c];constructor;exact λh=>.inl ⟨c,by simpa using h⟩;rintro(⟨_,h⟩|⟨h,_⟩);simpa using h;lia
 . rw[s9 c];by_cases b:T.sg m*T.w9 (C1 f) m l<0
   . rw[t2 b];cases h:f.lim (T.B l)with
     |none =>
      constructor;intro z;simp at z;rintro(⟨z,_⟩|⟨_,v,z,_⟩);exact nt;exact nE z
     |some v =>
      constructor;intro z;exact .inr ⟨b,v,rfl,by simpa using z⟩;rintro(⟨z,_⟩|⟨_,d,z,e⟩);exact nt;cases z;simpa using e
   . rw[s9 b];constructor;intro z;simp at z
     . rintro(⟨z,_⟩|⟨z,_⟩)<;>exact nt
theorem zF(h:H∈stI f T m l):0<H.bot:=by
 rcases aN.mp h with h|⟨i,_,h⟩
 obtain⟨v,_,rfl⟩:=iX.mp h;exact Int.one_pos
 . rcases aM.mp h with ⟨b,rfl⟩|⟨b,v,_,rfl⟩
   exact b
   simp_all
theorem Zr(K:bp f T)(Q:m<f.n)(h:H∈stI f T m f.m):II H:=by
 have d:∀x:Int,Bt 7000 x->Bt 7000 (T.sg m*x):=λx g=>by
  rcases Sx.rF T m with ⟨_,e⟩|⟨_,e⟩<;>rw[e]
  exact g.of_le B4;exact g.of_le B4
 refine⟨?_,?_,zF h⟩
 . rcases aN.mp h with h|⟨i,b,h⟩
   obtain⟨v,c,rfl⟩:=iX.mp h;exact(K.lb m v Q c).mono f5
   . rcases aM.mp h with ⟨_,rfl⟩|⟨_,v,c,rfl⟩
     exact(K.ab i b).mono f5;exact((((K.lb _ v (K.bn i b) c).mul K.sb)).sub ((K.ab i b).mono f5)).mono f5
 . rcases aN.mp h with h|⟨i,b,h⟩
   obtain⟨v,c,rfl⟩:=iX.mp h;exact Bt.mono ⟨by show(1:Int).natAbs<2 ^ 1;decide⟩ f5
   . rcases aM.mp h with ⟨_,rfl⟩|⟨_,v,c,rfl⟩
     exact(d _ (K.yu m i Q b)).mono f5;exact(d _ (K.yu m i Q b)).neg.mono f5
theorem Wr(S:Small f C m)(K:Sx.Ok (f.pb C) T)(b:l<f.n)(hs:H∈stI f T l f.m)(p:∀r∈stI f T l f.m,le H r):Sx.ug (f.pb C) T l H.top H.bot:=by
 have e:∀r∈stI f T l f.m,H.top*r.bot<=r.top*H.bot:=λr o=>by
  have:=p r o;unfold le at this;lia
 refine⟨?_,(zF hs),λv d=>?_,λk Q g=>?_,λk v Q g d=>?_⟩
 . rcases aN.mp hs with h|⟨i,j,h⟩
   obtain⟨v,d,rfl⟩:=iX.mp h;exact(S.lb l v b d).2
   . rcases aM.mp h with ⟨_,rfl⟩|⟨_,v,d,rfl⟩
     exact K.lo i j;have:=K.hi i v j d;show 0<=v*T.size-T.am (f.pb C) i;simp[*]
 . have:=e ⟨v,1,l,J,U'⟩ (aN.mpr (.inl (iX.mpr ⟨v,d,rfl⟩)))
   simp_all
 exact e ⟨T.am (C1 f) k,T.sg l*T.w9 (C1 f) l k,T.B k,U k,U'⟩ (aN.mpr (.inr ⟨k,Q,aM.mpr (.inl ⟨g,rfl⟩)⟩));exact e ⟨v*T.size-T.am (C1 f) k,-(T.sg l*T.w9 (C1 f) l k),T.B k,U k,Uf⟩ (aN.mpr (.inr ⟨k,Q,aM.mpr (.inr ⟨g,v,d,rfl⟩)⟩))
noncomputable def nextT(Q:W5)(T:Sx.Tb)(a:Nat)(s:fy):Sx.Tb:=match s.pl with
 |none=>ll Q T a (-(T.sg a*(Q.lim a).getD 0))
 |some l=>if s.tp=Uf then ll Q (Y3 Q T a l (if 0<T.w9 (C1 Q) a l then 1 else -1)) s.ch (-((Y3 Q T a l (if 0<T.w9 (C1 Q) a l then 1 else -1)).sg s.ch*(Q.lim s.ch).getD 0))else Y3 Q T a l (if 0<T.w9 (C1 Q) a l then 1 else -1)
theorem XQ(KT:bp f T)(K:Sx.Ok (f.pb C) T)(d:m<f.n)(hs:H∈stI f T m f.m):mG [.ob J (C5 f T),.dat (.int (m:Int)),.dat (.list (bH f T m)),.dat (U2 H)]=U (.dat .none,[U (.ob J (C5 f (nextT f T m H))),J,J,J]):=by
 rcases aN.mp hs with h|⟨l,e,h⟩
 . obtain⟨v,c,rfl⟩:=iX.mp h;rw[Te KT d c rfl];delta nextT
   simp_all
 . have Q:=λz=>(K.fu m d z).1
   rcases aM.mp h with ⟨g,rfl⟩|⟨g,v,c,rfl⟩
   rw[HR KT (v:=0) d e rfl Q rfl (KT.bn l e) (λz=>by exact nT z)];rfl;rw[HR KT d e rfl Q rfl (KT.bn l e) (λ_=>c)];delta nextT;simp only[c,Option.getD_some]
theorem MK(S:Small f C m)(K:Sx.Ok (f.pb C) T){a:Nat}(E:Sx.R3 (f.pb C) T a)(hs:H∈stI f T a f.m)(c:∀r∈stI f T a f.m,le H r):Sx.Step (f.pb C) T a H.top (nextT f T a H):=by
 have I:=Wr S K E.an hs c;rcases aN.mp hs with h|⟨l,q,h⟩
 obtain⟨v,i,rfl⟩:=iX.mp h;refine .flip i rfl I ?_;delta nextT;simp only[i];exact flip_flip i
 . have N:=K.J4.bn l q;have o:T.full (T.B l)=U':=by
    cases z:T.full (T.B l)with
    |false=>rfl
    |true=>exact absurd rfl ((K.fu _ N z).2 l q)
   have n:=(E.nb K.J4) l q;have:H.pl=U l/\H.ch=T.B l:=by rcases aM.mp h with ⟨_,rfl⟩|⟨_,v,_,rfl⟩<;>exact⟨rfl,rfl⟩
   have:T.w9 (C1 f) a l≠0:=λz=>by rcases aM.mp h with ⟨Q,_⟩|⟨Q,_⟩<;>rw[z,V9]at Q<;>exact nt
   generalize F:(if 0<T.w9 (C1 f) a l then 1 else -1)=g
   have b:g=1\/g = -1:=by rw[<-F];split<;>simp
   have D:0<g*T.w9 (f.pb C) a l:=by
    show 0<g*T.w9 (C1 f) a l
    rw[<-F];split<;>lia
   have x:H.top=0->∀k,k<(f.pb C).m->(0<T.sg a*T.w9 (f.pb C) a k/\T.am (f.pb C) k=0)\/(T.sg a*T.w9 (f.pb C) a k<0/\∃v,(f.pb C).u (T.B k)=U v/\T.am (f.pb C) k=v*T.size)->T.B l<=T.B k:=by
    intro R k M O;rcases O with ⟨Q,G⟩|⟨Q,v,i,G⟩
    . have:=c ⟨T.am (C1 f) k,T.sg a*T.w9 (C1 f) a k,T.B k,U k,U'⟩ (aN.mpr (.inr ⟨k,M,aM.mpr (.inl ⟨Q,rfl⟩)⟩));unfold le at this;have:T.am (C1 f) k=0:=G
      simp_all
    . have:=c ⟨v*T.size-T.am (C1 f) k,-(T.sg a*T.w9 (C1 f) a k),T.B k,U k,Uf⟩ (aN.mpr (.inr ⟨k,M,aM.mpr (.inr ⟨Q,v,i,rfl⟩)⟩));unfold le at this;have:T.am (C1 f) k=v*T.size:=G
      simp_all
   have d:∀j,(Y3 f T a l g).full j=if j=a then U' else T.full j:=λj=>by
    show(T6 f T a).full j=_;delta T6;by_cases z:T.full a=Uf;rw[t2 z];show(if j=a then !T.full a else T.full j)=_;rw[z];rfl;rw[s9 z];by_cases y:j=a;rw[t2 y,y];simpa using z;rw[s9 y]
   have w:∀p,(Y3 f T a l g).rt p=T.rt p+(if T.full a=Uf then Sx.uv (f.pb C) a*(f.pb C).A a p else 0):=λp=>by
    show(T6 f T a).rt p=_;delta T6;by_cases z:T.full a=Uf
    . rw[t2 z,t2 z];show T.rt p + -(T.sg a*(f.lim a).getD 0)*O8 (f.col a) p=T.rt p+(f.lim a).getD 0*O8 (f.col a) p
      have:T.sg a = -1:=by delta Sx.Tb.sg;rw[t2 z]
      congr 1
      congr 1
      simp[*]
    rw[s9 z,s9 z,qR]
   have t:=GA S K (a:=a) (g:=g) q;rcases aM.mp h with ⟨Q,rfl⟩|⟨Q,v,i,rfl⟩
   . refine .move (tp:=U') q b D I ⟨λ_=>⟨rfl,rfl⟩,λz=>by exact nT z⟩ ?_ x;delta nextT;simp only[mD,if_false];rw[F];refine⟨t,λj P=>?_,λp Q=>?_⟩;rw[d];by_cases z:j=a;rw[t2 z,t2 z];rw[s9 z,s9 z];by_cases y:j=T.B l;rw[t2 y,y,o];rw[s9 y];rw[w];simp
   . refine .move (tp:=Uf) q b D I ⟨λz=>(nF z),λ_=>⟨?_,rfl,?_⟩⟩ ?_ x
     . show v*T.size-_=Sx.uv (f.pb C) (T.B l)*T.size-_
       have:Sx.uv (f.pb C) (T.B l)=v:=by delta Sx.uv;show(f.lim (T.B l)).getD 0=v;rw[i];rfl
       rw[this];rfl
     show f.lim (T.B l)≠J;rw[i];simp
     delta nextT;simp only[V5];rw[F];have L:(Y3 f T a l g).sg (T.B l)=1:=by delta Sx.Tb.sg;rw[d,s9 n,o];rfl
     refine⟨⟨t.b,t.size,t.il,t.ir,t.pr⟩,λj P=>?_,λp Q=>?_⟩;show(if j=T.B l then !(Y3 f T a l g).full (T.B l)else(Y3 f T a l g).full j)=_;rw[d,d,s9 n,o];by_cases z:j=a;rw[s9 (by rw[z];exact λy=>n y.symm),t2 z,t2 z];rw[s9 z,s9 z];rfl;show(Y3 f T a l g).rt p + -((Y3 f T a l g).sg (T.B l)*(f.lim (T.B l)).getD 0)*O8 (f.col (T.B l)) p=_;have e:(if Uf=Uf then Sx.uv (f.pb C) (T.B l)*(f.pb C).A (T.B l) p else 0)=(f.lim (T.B l)).getD 0*O8 (f.col (T.B l)) p:=t2 rfl;rw[w,L,e,dF,yG];rfl
end
structure Data where
 c:f7
 r:f7
 g:f7
 t:f7
 f:f7
section
variable{Q:W5}{b:Nat->Int}{c:Nat}{tp:Nat->Option Q2}
noncomputable abbrev eo(Z:Data)(Q:W5)(w:Option Addr)(T:Sx.Tb)(r:Option Nat)(x7 x8:Option PV):Ds:=[U (.dat Z.c),U (.dat Z.r),U (.dat Z.g),U (.dat Z.t),U (.dat Z.f),U (.ob w (C5 Q T)),U (.dat (optN r)),x7,x8]
abbrev IV(Q:W5)(tp:Nat->Option Q2):f7:=.list (rl Q.n λj=>Y4 (tp j))
noncomputable abbrev JM(Q:W5)(tp:Nat->Option Q2)(T:Sx.Tb):f7:=.list (rl Q.n λj=>fr (bW Q T tp Q.m j))
noncomputable abbrev QB(Q:W5)(T:Sx.Tb)(a:Nat):f7:=.list (rl Q.n λj=>fr (eu Q T a Q.m j))
theorem HW(h:∀d∈u,LF d=Uf):lW u=Uf:=by
 induction u with
 |nil=>rfl
 |cons x u b=>rw[lW,h x C9,b λd a=>h d (C4 _ a)];rfl
theorem JU(q:Q2):LF (fr q)=Uf:=rfl
theorem Dr{f:Nat->f7}(h:∀i,LF (f i)=Uf):lW (rl m f)=Uf:=HW λd a=>by obtain⟨i,_,rfl⟩:=mem_map.mp a;exact h i
theorem a1a(s:fy):LF (U2 s)=Uf:=by delta U2;cases s.pl<;>rfl
theorem qG(h:G r=U (.own u))(a:lW u=Uf):aq G r=U (.own u):=by
 delta aq
 simp_all
theorem Aj(h:G r=sd K)(a:LF K=Uf):aq G r=sd K:=by
 delta aq
 simp_all
theorem a3g(h:G r=U g):f9 b3 (f6 G u5) r=b3 [g.d]:=by delta f9 f6 u5;rw[h];rfl
theorem call2(h:v r=U g)(a:G r=U R):f9 b3 (f6 v (f6 G u5)) r=b3 [g.d,R.d]:=by delta f9 f6 u5;rw[h];rw[a];rfl
theorem HX(r:Option Nat):LF (optN r)=Uf:=by cases r<;>rfl
structure EB(Q:W5)(b:Nat->Int)(c:Nat)(tp:Nat->Option Q2):Prop where
 s:Small Q b c
 sc:∀j,j<Q.n->Bt 900 (Q.sc j)
 un:0<Q.un/\Bt 900 Q.un
 mu:∀t,t<3->0<Q.mu t/\Bt 900 (Q.mu t)
 tl:∀j,j<Q.n->(tp j=J↔Q.lim j=J)
theorem EB.mix(H:EB Q b c tp)(K:Sx.Ok (Q.pb b) d3):dq [F5 Q d3,IV Q tp]=U (.own (rl Q.n λj=>fr (bW Q d3 tp Q.m j))):=
 a0T (H.s.tab K) (λj a=>(H.sc j a).mono f5) H.un.2 (H.s.tab K).sb H.un.1 λj a z y=>(K.fu j a z).1 ((H.tl j a).mp y)
theorem IY(H:EB Q b c tp)(K:Sx.Ok (Q.pb b) d3)(E:Sx.R3 (Q.pb b) d3 m)(Z:Data)(A:Z.t=IV Q tp)(w:Option Addr)(x7 x8:Option PV):
  (stI Q d3 m Q.m=[]/\bE (eo Z Q w d3 (U m) x7 x8)=U (.ret (.dat (.tuple [.str "endless",JM Q tp d3,QB Q d3 m])))) \/
  ∃s T' r x L,bE (eo Z Q w d3 (U m) x7 x8)=U (.next (eo Z Q w T' r x L))/\Sx.Step (Q.pb b) d3 m s T'/\(r=J->∀j,j<Q.n->¬Sx.R3 (Q.pb b) T' j)/\∀a',r=U a'->Sx.R3 (Q.pb b) T' a'/\(s=0->∀j,j<a'->¬Sx.R3 (Q.pb b) T' j):=by
 have KT:=H.s.tab K;have h:=E.an;generalize l:(mf (bH Q d3 m))=PC;have S:u9 7 (aq (S3 "Table" "paces" Z4 (S9 5) (f6 (t6 6) u5))) (eo Z Q w d3 (U m) x7 x8)=U (.next (eo Z Q w d3 (U m) (sd PC) x8)):=by
  have e:S3 "Table" "paces" Z4 (S9 5) (f6 (t6 6) u5) (eo Z Q w d3 (U m) x7 x8)=U (.own (bH Q d3 m)):=by exact SA KT h
  rw[eH,qG e (Du _ _),<-l];rfl
 have C:u9 8 (f9 cv (f6 (aq (f9 jh (f6 (S9 5) (f6 (t6 6) (f6 (t6 7) u5))))) u5)) (eo Z Q w d3 (U m) (sd PC) x8)=U (.next (eo Z Q w d3 (U m) (sd PC) (sd (gH ((stI Q d3 m Q.m).foldl gp J))))):=by
  have e:f9 jh (f6 (S9 5) (f6 (t6 6) (f6 (t6 7) u5))) (eo Z Q w d3 (U m) (sd PC) x8)=U (.own ((stI Q d3 m Q.m).map U2)):=by rw[<-l];exact QX KT h
  have p:f9 cv (f6 (aq (f9 jh (f6 (S9 5) (f6 (t6 6) (f6 (t6 7) u5))))) u5) (eo Z Q w d3 (U m) (sd PC) x8)=sd (gH ((stI Q d3 m Q.m).foldl gp J)):=by
   rw[a3g (qG e (HW λd G=>by obtain⟨s,_,rfl⟩:=mem_map.mp G;exact a1a s))];exact Ub λs f=>Zr KT h f
  rw[eH,p];rfl
 have u:=Nz (stI Q d3 m Q.m) J (λs f=>zF f) (λr z=>by exact nE z)
 delta bE;rw[B8,S,A4,B8,C,A4,B8];cases ho:(stI Q d3 m Q.m).foldl gp J with
 |none =>
  refine .inl ⟨(u.1 ho).2,?_⟩;have M:aq (f9 dq (f6 (S9 5) (f6 (t6 3) u5))) (eo Z Q w d3 (U m) (sd PC) (sd (gH J)))=U (.own (rl Q.n λj=>fr (bW Q d3 tp Q.m j))):=by
   refine qG ?_ (Dr λi=>JU _);show dq [F5 Q d3,Z.t]=_;rw[A];exact H.mix K
  have p:aq (f9 kS (f6 (S9 5) (f6 (t6 6) (f6 (t6 7) u5)))) (eo Z Q w d3 (U m) (sd PC) (sd (gH J)))=U (.own (rl Q.n λj=>fr (eu Q d3 m Q.m j))):=by
   refine qG ?_ (Dr λi=>JU _);rw[<-l];exact YY KT h λj g=>(H.sc j g).mono f5
  delta O5;simp only[E8,y4,f6,M,p];rfl
 |some s =>
  obtain⟨m1,_,B⟩:=u.2 s ho;have f:s∈stI Q d3 m Q.m:=by
   rcases m1 with z|z
   exact nE z;exact z
  have q:=MK H.s K E f B;have P:A1 (u4 jc (t6 8) (fC .none)) (eo Z Q w d3 (U m) (sd PC) (sd (gH (U s))))=U U':=rfl;have N:Q1 (jF mG (ie 5 (P6 (t6 6) (P6 (t6 7) (P6 (t6 8) fk))))) (eo Z Q w d3 (U m) (sd PC) (sd (gH (U s))))=U (.next (eo Z Q w (nextT Q d3 m s) (U m) (sd PC) (sd (gH (U s))))):=by
   delta Q1;rw[xg (xs:=[.int m,PC,U2 s]) rfl rfl (by rw[<-l];exact XQ KT K h f)];rfl
  obtain⟨r,D,F,V⟩:=Bb (H.s.tab (q.ok K E)) (decide (s.top=0));refine .inr ⟨s.top,nextT Q d3 m s,r,sd PC,sd (gH (U s)),?_,q,λy j g z=>?_,λa' o=>?_⟩
  . delta O5;rw[P];simp only[z9,mD,if_false,K3,A4,B8,N];rw[eH,Aj ?_ (HX r)];rfl
    . have:(u4 S5 (u4 E5 (t6 8) (fC (.int 0))) (fC (.int 0))) (eo Z Q w (nextT Q d3 m s) (U m) (sd PC) (sd (gH (U s))))=sd (.bool (decide (s.top=0))):=by rfl
      exact D
  have:=(gn_enter g b).mpr z;rw[F y j g]at this;exact nT this;obtain⟨O,I,R⟩:=V a' o;refine⟨(gn_enter O b).mp I,λv j g z=>?_⟩;have:=(gn_enter (yP v5 v5) b).mpr z;rw[R (by simpa using v) j g]at this;exact nT this
structure WS where
 T:Sx.Tb
 a:Nat
 cf:Bool
 x7:Option PV
 x8:Option PV
structure WS.Ok(Q:W5)(b:Nat->Int)(s:WS):Prop where
 ok:Sx.Ok (Q.pb b) s.T
 en:Sx.R3 (Q.pb b) s.T s.a
 cr:s.cf=Uf->∀j,j<s.a->¬Sx.R3 (Q.pb b) s.T j
inductive Ends(Z:Data)(Q:W5)(b:Nat->Int)(tp:Nat->Option Q2)(w:Option Addr):Out->Prop
 |best {T x7 x8}:Sx.Ok (Q.pb b) T->(∀j,j<Q.n->¬Sx.R3 (Q.pb b) T j)->Ends Z Q b tp w (.next (eo Z Q w T J x7 x8))
 |endless {T:Sx.Tb}{a:Nat}:Sx.Ok (Q.pb b) T->Sx.R3 (Q.pb b) T a->stI Q T a Q.m=[]->Ends Z Q b tp w (.ret (.dat (.tuple [.str "endless",JM Q tp T,QB Q T a])))
theorem xm{Fc:DB}(a:Fc r=U Uf)(b:b5 r=U (.next a2)):O3 Fc b5 (m+1) r=O3 Fc b5 m a2:=by
 rw[O3,a]
 simp_all
theorem KL(H:EB Q b c tp)(Z:Data)(B:Z.t=IV Q tp)(w:Option Addr)(g:WS)(A:g.Ok Q b):∃m o,O3 cY bE m (eo Z Q w g.T (U g.a) g.x7 g.x8)=U o/\Ends Z Q b tp w o:=by
 have l:∀T a (x7 x8),cY (eo Z Q w T (U a) x7 x8)=U Uf:=λ_ _ _ _=>rfl;have I:∀T (x7 x8),cY (eo Z Q w T J x7 x8)=U U':=λ_ _ _=>rfl
 let j:WS->Prop:=λs=>∃m o,O3 cY bE m (eo Z Q w s.T (U s.a) s.x7 s.x8)=U o/\Ends Z Q b tp w o
 refine uP λK=>?_
 have u:∀s:{s:WS // s.Ok Q b/\¬j s},∃x:{s:WS // s.Ok Q b/\¬j s},∃top,Sx.Step (Q.pb b) s.1.T s.1.a top x.1.T/\(x.1.cf=Uf↔top=0):=by
  rintro⟨s,f,k⟩;rcases IY H f.ok f.en Z B w s.x7 s.x8 with ⟨h,N⟩|⟨top,F,r,n,v,h,q,E,O⟩
  refine absurd ⟨1,_,?_,.endless f.ok f.en h⟩ k;rw[O3,l];simp only[z9,V5,N]
  . have p:=q.ok f.ok f.en;cases r with
    |none =>
     refine absurd ⟨2,_,?_,.best (x7:=n) (x8:=v) p (E rfl)⟩ k;rw[xm (l _ _ _ _) h,O3,I];rfl
    |some y =>
     obtain⟨M,G⟩:=O y rfl;refine⟨⟨⟨F,y,decide (top=0),n,v⟩,⟨p,M,λz=>G (oX z)⟩,λz=>k ?_⟩,top,q,by simp⟩;obtain⟨m,o,L,D⟩:=z;exact⟨m+1,o,by rw[xm (l _ _ _ _) h];exact L,D⟩
 let q0:{s:WS // s.Ok Q b/\¬j s}:=⟨g,A,K⟩
 let d:Nat->{s:WS // s.Ok Q b/\¬j s}:=λi=>Nat.rec q0 (λ_ s=>(u s).choose) i
 have e:=λi=>(u (d i)).choose_spec;exact Sx.SW (C:=⟨λi=>(d i).1.T,λi=>(d i).1.a,λi=>(e i).choose,λi=>(d i).1.cf⟩) ⟨λi=>(d i).2.1.ok,λi=>(d i).2.1.en,λi=>(d i).2.1.cr,λi=>(e i).choose_spec.1,λi=>(e i).choose_spec.2⟩
end
open Sx (sN pN sm det G9 dot)
structure jY(I:G6)(c:Nat):Prop where
 fi:∀k p,k<I.m->p<I.m->I.row p (I.fs k)=if p=k then(1,1)else q0
 inj:∀k l,k<I.m->l<I.m->I.fs k=I.fs l->k=l
 r0:∀p,p<I.m->0<=(I.rg p).1
 t0:∀j q,j<I.n->I.tp j=U q->0<=q.1
 ft:∀k q,k<I.m->I.tp (I.fs k)=U q->(I.rg k).1*q.2<=q.1*(I.rg k).2
 cn:∀j,j<I.n->sN I.m (λp=>(wh (I.row p j) (I.sc j)).natAbs)<=2 ^ c
 c1:c*I.m<=2000
 c2:c<=1000
section
variable{I:G6}
theorem Rk{g:Nat->Nat}(h:∀i,i<m->e8 i=g i):sN m e8=sN m g:=Nat.le_antisymm (Sx.BO λi a=>oQ (h i a)) (Sx.BO λi a=>oQ (h i a).symm)
theorem Ek(I:G6)(j:Nat)(a:m<I.m):O8 (I.L4.col j) m=wh (I.row m j) (I.sc j):=by
 show O8 (I.cE j I.m) m=_;rw[NU,t2 a]
theorem Dq(H:F8 I D E M){v:Int}(b:m<I.n)(h:I.lim m=U v):∃q,I.tp m=U q/\0<q.2/\v*(q.2*I.sc m)=q.1*I.un:=by
 obtain⟨e,k,l,s⟩:=H.sc b;obtain⟨r,c,rfl⟩:=Option.map_eq_some_iff.mp h;have g:=H.un.2.2.2.2 m r b c;obtain⟨q,hq,rfl⟩:=Option.map_eq_some_iff.mp c;obtain⟨d,o⟩:=H.tp m q b hq;obtain⟨i,p,f,F⟩:=ak (M7 d.pos e);refine⟨q,hq,d.pos,?_⟩;have a:wh (P1 q (1,I.sc m)) I.un*(I0 (q.1*1) (q.2*I.sc m)).2=(I0 (q.1*1) (q.2*I.sc m)).1*I.un:=(xn (H.hq b c).1.pos g);generalize wh (P1 q (1,I.sc m)) I.un=v at a ⊢;generalize (I0 (q.1*1) (q.2*I.sc m)).1=x at *;generalize (I0 (q.1*1) (q.2*I.sc m)).2=y at *;have:y*(v*(q.2*I.sc m))=y*(q.1*I.un):=by
  calc y*(v*(q.2*I.sc m))=(v*y)*(q.2*I.sc m):=by grind
   _=(x*I.un)*(q.2*I.sc m):=by rw[a]
   _=(x*(q.2*I.sc m))*I.un:=by grind
   _=(q.1*1*y)*I.un:=by rw[f]
   _=y*(q.1*I.un):=by grind
 exact zx M4 this
theorem oo:I.tp m=J↔I.lim m=J:=by delta G6.lim G6.hq;simp
theorem wt0(I:G6)(t j:Nat)(h:3<=t):I.wt t j=0:=by
 have:S8 (I.cost j) t=q0:=by
  match t,h with
  |t+3,_=>rfl
 delta G6.wt wh G6.wq;rw[this];have:(P1 q0 (I.sc j,1)).1=0:=by delta P1 I0;rw[cR,Int.zero_fdiv]
 simp_all
theorem G6.side(H:F8 I D E M)(G:jY I m):EB I.L4 I.b m I.tp:=by
 refine⟨⟨H.m1,H.n1,G.c1,G.c2,λj a=>?_,λj a=>C3 (Ut I j I.m) H.m1,λj a e k=>?_,λt j d a=>H.wt d a,λt j d=>wt0 I t j d,λj v a g=>⟨H.lim a g,?_⟩,λp f=>(H.b f).mono f5⟩,λj a=>(H.sc a).2.2.1,⟨H.un.1,H.un.2.2.1⟩,λt d=>⟨(H.mu d).1,(H.mu d).2.2.1⟩,λj _=>oo⟩;rw[Rk λp f=>by rw[Ek I j f]];exact G.cn j a;obtain⟨h,i⟩:=Us I j I.m e k;refine⟨h,?_⟩;rw[i];exact((H.row e.1 j h a).1.bt.mul (H.sc a).2.2.1.fdiv).mono f5
 . obtain⟨q,hq,q2,e⟩:=Dq H a g;have:=hJ (G.t0 j q a hq) (U6 H.un.1);rcases eY v 0 with z|z
   have:=zv z (M7 q2 (H.sc a).1);lia;exact z
theorem Cz(H:F8 I D E M)(G:jY I m)(g:l<I.m):I.sc (I.fs l)=1:=by
 obtain⟨e,i,h,d⟩:=BZ (D:=1) ((C8 I.m).map λp=>(I.row p (I.fs l)).2) 1 f5 ⟨1,by rfl⟩ λx b=>by
  obtain⟨p,f,rfl⟩:=mem_map.mp b;rw[G.fi l p g (mem_range.mp f)];split;exact⟨by decide,⟨1,rfl⟩⟩;simp
 have a:I.sc (I.fs l)∣1:=d;have:=gq f5 a;have:0<I.sc (I.fs l):=e;exact uE v5 v5
theorem ym(H:F8 I D E M)(G:jY I m)(b:l<I.m)(a:O<I.m):O8 (I.L4.col (I.fs l)) O=if l=O then 1 else 0:=by
 rw[Ek I _ a,Cz H G b,G.fi l O b a];by_cases z:O=l;rw[t2 z,t2 z.symm];rfl;rw[s9 z,s9 λy=>z y.symm];rfl
theorem Iv(x:Nat->Int)(b:l<m):dot m (λq=>if l=q then 1 else 0) x=x l:=by
 delta Sx.dot;rw[Sx.W8 b λi _ a=>by
  show(if l=i then 1 else 0)*x i=0
  rw[s9 (λz=>a z.symm),cR]]
 simp
theorem NA(H:F8 I D E M)(G:jY I m):Sx.R7 (I.L4.pb I.b) I.tab:=by
 have l:∀k r,k<I.m->r<I.m->I.tab.M (I.L4.pb I.b) k r=if k=r then 1 else 0:=λk r h j=>ym H G h j;refine⟨H.fs,G.inj,⟨1,.inl rfl,?_,λr j x=>?_⟩,by show 0<1;decide,λp q e hq=>?_,λt q hq=>?_⟩;show 1*1=det I.m (I.tab.M (I.L4.pb I.b));rw[Sx.Z2 l,Sx.IA];rfl
 . show 1*dot I.m (λq=>if r=q then 1 else 0) x=det I.m (G9 (I.tab.M (I.L4.pb I.b)) r x)
   have a:r<I.m:=j;rw[Iv x a,dF];have n:det I.m (G9 (I.tab.M (I.L4.pb I.b)) r x)=det I.m (G9 (λm r=>if m=r then 1 else 0) r λp=>sm I.m λi=>x i*Sx.unit i p):=Sx.Z2 λk p h e=>by
    by_cases z:k=r;rw[z,Sx.bP,Sx.bP,Sx.KN x e];rw[Sx.aD _ _ _ z,Sx.aD _ _ _ z,l k p h e]
   rw[n,Sx.Iz _ a x Sx.unit I.m,Sx.W8 a λi f g=>?_]
   . have:det I.m (G9 (λm r=>if m=r then 1 else 0) r (Sx.unit r))=1:=by
       refine Eq.trans ?_ (Sx.IA I.m);exact Sx.Z2 λk p h e=>by
        by_cases z:k=r;rw[z,Sx.bP];delta Sx.unit;by_cases y:p=r;rw[t2 y,t2 y.symm];rw[s9 y,s9 λw=>y w.symm];rw[Sx.aD _ _ _ z]
     rw[this,oN]
   . have:det I.m (G9 (λm r=>if m=r then 1 else 0) r (Sx.unit i))=0:=Sx.rX f a g λp e=>by
       rw[Sx.aD _ _ _ g,Sx.bP];delta Sx.unit;by_cases y:i=p;rw[t2 y,t2 y.symm];rw[s9 y,s9 λw=>y w.symm]
     rw[this,V9]
 show sm I.m (λk=>(if k=q then 1 else 0)*O8 (I.L4.col (I.fs k)) p)=if p=q then 1 else 0;have d:q<I.m:=hq;rw[Sx.W8 d λi _ f=>by rw[s9 f,cR],t2 rfl,dF,ym H G d e];by_cases y:p=q;rw[t2 y,t2 y.symm];rw[s9 y,s9 λw=>y w.symm];show I.wt t (I.fs q)=sm I.m λk=>I.wt t (I.fs k)*(if k=q then 1 else 0);have d:q<I.m:=hq;rw[Sx.W8 d λi _ f=>by simp_all,t2 rfl,oN]
theorem Ua(H:F8 I D E M)(G:jY I m):Sx.Ok (I.L4.pb I.b) I.tab:=by
 have g:∀k,k<I.m->I.tab.am (I.L4.pb I.b) k=I.b k:=λk a=>Iv I.b a;have i:∀k,k<I.m->I.b k*(I.rg k).2=(I.rg k).1*I.un:=λk a=>xn (H.rg k a).1.pos (H.un.2.2.2.1 k a);refine⟨NA H G,λp o=>?_,λj n z=>(nT z),λk a=>?_,λk v a l=>?_⟩
 . have:Sx.fsum (I.L4.pb I.b) I.tab (λj=>(I.L4.pb I.b).A j p)=0:=Sx.iT λj _=>by rfl
   rw[this];show I.b p=I.b p-0;simp[*]
 . rw[g k a];have h:=i k a;have:=hJ (G.r0 k a) (U6 H.un.1);have f:=(H.rg k a).1.pos;rcases eY (I.b k) 0 with z|z
   have:=zv z f;lia;exact z
 . rw[g k a];show I.b k<=v*1
   rw[oN];have d:=a;obtain⟨q,hq,q2,e⟩:=Dq H (H.fs k d) l;rw[Cz H G d,oN]at e;have h:=i k d;have f:=(H.rg k d).1.pos;have:=jM (G.ft k q d hq) (U6 H.un.1);generalize (I.rg k).1=x at *;generalize (I.rg k).2=y at *;have:(q.2*y)*I.b k<=(q.2*y)*v:=by
    have:(q.2*y)*I.b k=x*q.2*I.un:=by
     calc (q.2*y)*I.b k=q.2*(I.b k*y):=by grind
      _=q.2*(x*I.un):=by rw[h]
      _=x*q.2*I.un:=by grind
    lia
   exact zw this (M7 q2 f)
inductive Res(I:G6):f7->Prop
 |best {T}:Sx.Ok (I.L4.pb I.b) T->(∀j,j<I.n->¬Sx.R3 (I.L4.pb I.b) T j)->Res I (.tuple [.str "best",JM I.L4 I.tp T,.list (rl I.m λp=>M0 (aY I.L4 T p))])
 |endless {T:Sx.Tb}{a:Nat}:Sx.Ok (I.L4.pb I.b) T->Sx.R3 (I.L4.pb I.b) T a->stI I.L4 T a I.m=[]->Res I (.tuple [.str "endless",JM I.L4 I.tp T,QB I.L4 T a])
theorem a0Z(x:Tr):LF (M0 x)=Uf:=rfl
theorem Lp(H:F8 I D E M)(G:jY I m):∃d,pA [I.J1,I.ax,I.G5,I.N1,I.V2]=sd d/\Res I d:=by
 have S:=G6.side H G;have l:=Ua H G;have y:R9 5 (rR "Table" bL (f6 (t6 0) (f6 (t6 1) (f6 (t6 2) (f6 (t6 3) (f6 (t6 4) u5)))))) [sd I.J1,sd I.ax,sd I.G5,sd I.N1,sd I.V2,J,J,J,J]=U (.next [sd I.J1,sd I.ax,sd I.G5,sd I.N1,sd I.V2,U (.ob J (C5 I.L4 I.tab)),J,J,J]):=by
  have e:rR "Table" bL (f6 (t6 0) (f6 (t6 1) (f6 (t6 2) (f6 (t6 3) (f6 (t6 4) u5))))) [sd I.J1,sd I.ax,sd I.G5,sd I.N1,sd I.V2,J,J,J,J]=U (.ob J (C5 I.L4 I.tab)):=by
   delta rR;rw[show f6 (t6 0) (f6 (t6 1) (f6 (t6 2) (f6 (t6 3) (f6 (t6 4) u5)))) [sd I.J1,sd I.ax,sd I.G5,sd I.N1,sd I.V2,J,J,J,J]=U [I.J1,I.ax,I.G5,I.N1,I.V2]from rfl,z9];rw[show([I.J1,I.ax,I.G5,I.N1,I.V2]).map PV.dat=[.dat I.J1,.dat I.ax,.dat I.G5,.dat I.N1,.dat I.V2]from rfl,Yf H];rfl
  rw[Ar,e];rfl
 generalize k:(⟨I.J1,I.ax,I.G5,I.N1,I.V2⟩:Data)=Z;obtain⟨r,q,K,N⟩:=Bb (S.s.tab l) U';have A:u9 6 (aq (f9 iM (f6 (S9 5) (f6 (fC (.bool U')) u5)))) [sd I.J1,sd I.ax,sd I.G5,sd I.N1,sd I.V2,U (.ob J (C5 I.L4 I.tab)),J,J,J]=U (.next (eo Z I.L4 J I.tab r J J)):=by
  rw[eH,Aj ?_ (HX r),<-k];rfl;rw[call2 rfl rfl];exact q
 have wh:∃c o,O3 cY bE c (eo Z I.L4 J I.tab r J J)=U o/\Ends Z I.L4 I.b I.tp J o:=by
  cases r with
  |none =>
   refine⟨1,_,?_,.best (x7:=J) (x8:=J) l λj t z=>?_⟩;rfl;have:=(gn_enter t I.b).mpr z;rw[K rfl j t]at this;exact nT this
  |some a =>
   obtain⟨F,u,_⟩:=N a rfl;exact KL S Z (by rw[<-k];rfl) J ⟨I.tab,a,U',J,J⟩ ⟨l,(gn_enter F I.b).mp u,λz=>by exact nT z⟩
 obtain⟨c,o,w,L⟩:=wh;delta pA K6;rw[show(Q3 [I.J1,I.ax,I.G5,I.N1,I.V2]++C2 (9-5) J)=[sd I.J1,sd I.ax,sd I.G5,sd I.N1,sd I.V2,J,J,J,J]from rfl]
 rw[B8,y,A4,B8,A,A4,B8,(Kc w)];cases L with
 |endless f k2 v=>exact⟨_,rfl,.endless f k2 v⟩
 | @best T g h f k2 =>
  refine⟨_,?_,.best f k2⟩;have C:aq (f9 dq (f6 (S9 5) (f6 (t6 3) u5))) (eo Z I.L4 J T J g h)=U (.own (rl I.n λj=>fr (bW I.L4 T I.tp I.m j))):=by
   refine qG ?_ (Dr λi=>JU _);rw[call2 rfl (by rw[<-k];rfl)];exact S.mix f
  have q:A2 (E9 R4 (f6 (f9 F6 (f6 (t6 1) u5)) u5)) B3 A5 sy (eo Z I.L4 J T J g h)=U (.own (rl I.m λp=>M0 (aY I.L4 T p))):=by
   have B:E9 R4 (f6 (f9 F6 (f6 (t6 1) u5)) u5) (eo Z I.L4 J T J g h)=U (rl I.m λi=>.int i):=by rw[<-k];walk_at "r";rw[J8,bS (by have:=H.m1;lia),gw,xD]
   delta A2;rw[B,z9,t2 (bZ H.m1),O7 λp x=>⟨_,.dat (M0 (aY I.L4 T p)),rfl,by refine Aj ?_ (a0Z _);exact Sd (S.s.tab f) x S.mu,rfl⟩];rfl
  rw[A4];simp only[E8,y4,f6,C,q];rfl
end
def a3v(k:Nat)(l:List (Option Q2)):Prop:=∀t,U t∈l->D2 k t
abbrev ku:Tr:=⟨q0,q0,q0⟩
theorem Zg(h:1<=m):iK m ku:=⟨qI h,qI h,qI h⟩
def a4K(k:Nat)(l:List Tr):Prop:=∀x∈l,iK k x
def smI(costs:List Tr)(mix:List Q2):Nat->Tr
 | 0=>ku
 |i+1=>BR (smI costs mix i) (costs.getD i ku) (mix.getD i q0)
noncomputable def zW(x:Tr)(q:Q2):Tr:=⟨P1 x.a q,P1 x.b q,P1 x.c q⟩
noncomputable def Ez(x y:Tr):Tr:=⟨dE x.a y.a,dE x.b y.b,dE x.c y.c⟩
theorem XS(d:iK m b7)(hq:D2 l o):iK (m+l) (zW b7 o):=⟨jk d.a hq,jk d.b hq,jk d.c hq⟩
theorem YE{y:Tr}(d:iK m b7)(e:iK l y):iK (m+l+1) (Ez b7 y):=⟨tE d.a e.a,tE d.b e.b,tE d.c e.c⟩
theorem NM{a c d:Int}(j:0<D)(hd:0<d):((a:Rat)/(D:Rat)<(c:Rat)/(d:Rat))↔a*d<c*D:=by
 have e:(0:Rat)<D:=by exact_mod_cast j
 have f:(0:Rat)<d:=by exact_mod_cast hd
 have i:(a:Rat)/D*(D*d)=a*d:=by grind
 have g:(c:Rat)/d*(D*d)=c*D:=by grind
 constructor
 . intro h;have:=Qm h (eI e f);rw[i,g]at this
   exact_mod_cast this
 . intro h;have k:(a:Rat)*d<c*D:=by exact_mod_cast h
   refine Rat.lt_of_mul_lt_mul_right ?_ (yM (eI e f));rw[i,g];exact k
theorem sY{p q:Q2}(a:0<p.2)(hq:0<q.2):nU p q=decide (val p<val q):=by delta nU val;rw[decide_eq_decide];exact(NM a hq).symm
theorem bO:val (0,1)=0:=by rw[val_one];rfl
theorem XR(b:0<o.2):o.1<0↔val o<0:=by
 have:=NM (a:=o.1) (c:=0) (d:=1) b f5;have e:((0:Int):Rat)/((1:Int))=0:=by rw[show((0:Rat))=0 from rfl];grind
 rw[e]at this;delta val
 simp_all
theorem xS(a:0<o.2):0<=o.1↔0<=val o:=by
 have:=XR a;constructor
 . exact λh=>Rat.not_lt.mp λz=>by lia
 exact λh=>Int.not_lt.mp λz=>Rat.not_lt.mpr h (this.mp z)
def Uj(row mix:List Q2):Nat->Rat
 | 0=>0
 |i+1=>Uj row mix i+val (row.getD i q0)*val (mix.getD i q0)
noncomputable def ZD(costs:List Tr)(rows:List (List Q2))(prices:List Tr)(j:Nat):Nat->Tr
 | 0=>costs.getD j ku
 |i+1=>BR (ZD costs rows prices j i) (prices.getD i ku) (a4s ((rows.getD i []).getD j q0))
abbrev rtL(costs:List Tr)(rows:List (List Q2))(prices:List Tr):List Tr:=(C8 costs.length).map λj=>ZD costs rows prices j rows.length
abbrev m1:Q2:=(-1,1)
structure a4I(n m kr kp B:Nat)(costs:List Tr)(rows:List (List Q2))(prices:List Tr):Prop where
 nl:n<=1000
 ml:m<=1000
 cl:costs.length=n
 pl:prices.length=m
 rl:rows.length=m
 rw:∀r∈rows,r.length=n/\a2c kr r
 pf:a4K kp prices
 bf:∀j,j<n->∀i,i<=m->iK B (ZD costs rows prices j i)
 bd:B+(kp+1+kr)<=7998
noncomputable def flI(rests:List Tr)(tp:List (Option Q2))(init:Tr):Nat->Tr
 | 0=>init
 |j+1=>if a1K (rests.getD j ku) ku=Uf then BR (flI rests tp init j) (rests.getD j ku) ((tp.getD j J).getD q0)else flI rests tp init j
structure a5i(n m kr kp kg kt B C:Nat)(costs:List Tr)(rows:List (List Q2))(rights:List Q2)(tp:List (Option Q2))(prices:List Tr):Prop where
 r:a4I n m kr kp B costs rows prices
 gl:rights.length=m
 tl:tp.length=n
 gf:a2c kg rights
 tf:a3v kt tp
 cf:∀j,j<=n->iK C (flI (rtL costs rows prices) tp (smI prices rights rights.length) j)
 b1:1+(kp+kg+1)*m+(kp+kg)<=7998
 b2:C+(B+kt)<=7998
def w5(f:Nat->Rat):Nat->Rat
 | 0=>0
 |n+1=>w5 f n+f n
theorem E6{g:Nat->Rat}:∀n,(∀i,i<n->a6 i=g i)->w5 a6 n=w5 g n:=by
 intro l_;induction l_ with
 |zero =>
  intro _;exact rfl
 |succ n ih_ =>
  intro h;show w5 a6 n+a6 n=w5 g n+g n;rw[ih_ λi a=>h i eS,h n B4]
theorem rD(f g:Nat->Rat):∀n,w5 (λi=>f i-g i) n=w5 f n-w5 g n:=by
 intro l_;induction l_ with
 |zero =>
  show 0=0-0;grind
 |succ n ih_ =>
  show w5 (λi=>f i-g i) n+(f n-g n)=(w5 f n+f n)-(w5 g n+g n);rw[ih_];grind
theorem ez(f:Nat->Rat)(c:Rat):∀n,w5 f n*c=w5 (λi=>f i*c) n:=by
 intro l_;induction l_ with
 |zero =>
  show 0*c=0;grind
 |succ n ih_ =>
  show(w5 f n+f n)*c=w5 (λi=>f i*c) n+f n*c;rw[<-ih_];grind
theorem de(f g:Nat->Rat):∀n,w5 (λi=>f i+g i) n=w5 f n+w5 g n:=by
 intro l_;induction l_ with
 |zero =>
  show 0=0+0;grind
 |succ n ih_ =>
  show w5 (λi=>f i+g i) n+(f n+g n)=(w5 f n+f n)+(w5 g n+g n);rw[ih_];grind
theorem lF:∀n,w5 (λ_=>0) n=0:=by
 intro l_;induction l_ with
 |zero =>
  exact rfl
 |succ n ih_ =>
  show w5 (λ_=>0) n+0=0;rw[ih_];grind
theorem Lh(f:Nat->Nat->Rat)(m:Nat):∀n,w5 (λj=>w5 (λi=>f i j) m) n=w5 (λi=>w5 (λj=>f i j) n) m:=by
 intro l_;induction l_ with
 |zero =>
  show 0=w5 (λi=>0) m;rw[lF]
 |succ n ih_ =>
  show w5 (λj=>w5 (λi=>f i j) m) n+w5 (λi=>f i n) m=w5 (λi=>w5 (λj=>f i j) n+f i n) m;rw[ih_,de]
structure Part(π:Tr->Q2):Prop where
 more:∀x y q,π (BR x y q)=dE (π x) (P1 (π y) q)
 ok:∀k x,iK k x->D2 k (π x)
 a0O:π ku=q0
def NN(a b c:Rat):Prop:=0<a\/(a=0/\(0<b\/(b=0/\0<=c)))
theorem NN.add{b c x y:Rat}(h:NN A b c)(k:NN x y z):NN (A+x) (b+y) (c+z):=by unfold NN at *;grind
theorem NN.zero:NN 0 0 0:=.inr ⟨rfl,.inr ⟨rfl,cU⟩⟩
theorem NN.mul{b k:Rat}(h:NN z b A)(d:0<=k):NN (z*k) (b*k) (A*k):=by
 by_cases a:k=0
 . subst a;have e:∀x:Rat,x*0=0:=λx=>by grind
   rw[e,e,e];exact NN.zero
 . have p:0<k:=by grind
   rcases h with h|⟨rfl,h|⟨rfl,h⟩⟩
   exact .inl (eI h p);exact .inr ⟨by grind,.inl (eI h p)⟩;exact .inr ⟨by grind,.inr ⟨by grind,Rat.mul_nonneg h d⟩⟩
theorem NN.sum{fa b a:Nat->Rat}:∀n,(∀j,j<n->NN (fa j) (b j) (a j))->NN (w5 fa n) (w5 b n) (w5 a n)
 | 0,_=>NN.zero
 |n+1,h=>(NN.sum n λj c=>h j eS).add (h n B4)
theorem Az(row mix:List Q2):∀n,Uj row mix n=w5 (λj=>val (row.getD j q0)*val (mix.getD j q0)) n:=by
 intro l_;induction l_ with
 |zero =>
  exact rfl
 |succ n ih_ =>
  show Uj row mix n+_=w5 _ n+_;rw[ih_]
open Sx (sm)
theorem Cm(h:0<o.2)(hd:o.2∣D):((wh o D:Int):Rat)=val o*(D:Rat):=by
 have:((wh o D):Rat)*o.2=o.1*D:=by exact_mod_cast (xn h hd)
 have:=gj (show o.2≠0 by exact M4);delta val;grind
theorem nM(f:Nat->Int):∀n,((sm n f:Int):Rat)=w5 (λi=>((f i:Int):Rat)) n:=by
 intro l_;induction l_ with
 |zero =>
  exact rfl
 |succ n ih_ =>
  show((sm n f+f n:Int))=w5 _ n+_;rw[hU,ih_]
section
variable{T:Sx.Tb}
noncomputable def pick(P:Sx.Pb)(T:Sx.Tb)(g:Nat->Int)(j:Nat):Int:=sm P.m λk=>if T.B k=j then g k else 0
theorem CT(L:Sx.R7 a7 T)(g f:Nat->Int):sm a7.n (λj=>f j*pick a7 T g j)=sm a7.m λk=>g k*f (T.B k):=by
 have e:sm a7.n (λj=>f j*pick a7 T g j)=sm a7.n λj=>sm a7.m λk=>if T.B k=j then g k*f j else 0:=Sx.A6 λj _=>by delta pick;rw[<-Sx.L0];exact Sx.A6 λk _=>by split<;>grind
 rw[e,Sx.qt];exact Sx.A6 λk b=>by rw[Sx.W8 (L.bn k b) λi _ a=>s9 λz=>a z.symm,t2 rfl]
theorem zL(L:Sx.R7 a7 T)(g:Nat->Int)(b:m<a7.m):pick a7 T g (T.B m)=g m:=by delta pick;rw[Sx.W8 b λi c a=>s9 λz=>a (L.inj i m c b z),t2 rfl]
theorem vk(g:Nat->Int)(h:∀k,k<a7.m->T.B k≠m):pick a7 T g m=0:=Sx.iT λk a=>s9 (h k a)
def yv(P:Sx.Pb)(T:Sx.Tb)(j:Nat):Int:=(if T.full j=Uf then T.size*Sx.uv P j else 0)+pick P T (T.am P) j
theorem UT(L:Sx.R7 a7 T)(f:Nat->Int):sm a7.n (λj=>f j*yv a7 T j)=T.size*Sx.fsum a7 T f+sm a7.m λk=>T.am a7 k*f (T.B k):=by
 have e:sm a7.n (λj=>f j*yv a7 T j)=sm a7.n λj=>(T.size*(if T.full j=Uf then Sx.uv a7 j*f j else 0))+f j*pick a7 T (T.am a7) j:=Sx.A6 λj _=>by delta yv;split<;>grind
 rw[e,Sx.jn,Sx.L0,CT L];rfl
theorem YH(K:Sx.Ok a7 T)(a:m<a7.m):sm a7.n (λj=>a7.A j m*yv a7 T j)=T.size*a7.b m:=by rw[UT K.J4,K.J4.Rm a,K.rt m a];grind
theorem YI(K:Sx.Ok a7 T)(t:Nat):sm a7.n (λj=>a7.c t j*yv a7 T j)=T.obj a7 t:=UT K.J4 _
theorem TM(P:Sx.Pb)(T:Sx.Tb)(x y:Int)(f g:Nat->Int):Sx.fsum P T (λj=>x*f j-y*g j)=x*Sx.fsum P T f-y*Sx.fsum P T g:=by delta Sx.fsum;rw[<-Sx.L0,<-Sx.L0,<-Sx.jm];exact Sx.A6 λj _=>by split<;>grind
theorem JE(K:Sx.Ok a7 T)(t:Nat):T.obj a7 t=Sx.dot a7.m (T.pr t) a7.b+Sx.fsum a7 T (T.rest a7 t):=by
 have f:(sm a7.m λk=>T.am a7 k*a7.c t (T.B k))=Sx.dot a7.m (T.pr t) T.rt:=by rw[Sx.xI K.J4];exact Sx.A6 λk _=>K8 _ _
 have e:Sx.dot a7.m (T.pr t) T.rt=Sx.dot a7.m (T.pr t) a7.b-Sx.fsum a7 T λj=>Sx.dot a7.m (T.pr t) (a7.A j):=by
  have a:Sx.dot a7.m (T.pr t) T.rt=Sx.dot a7.m (T.pr t) λp=>a7.b p-Sx.fsum a7 T λj=>a7.A j p:=Sx.A6 λp d=>by rw[K.rt p d]
  rw[a,Sx.Iu]
  congr 1
  delta Sx.dot Sx.fsum;have b:(sm a7.m λr=>T.pr t r*sm a7.n λj=>if T.full j=Uf then Sx.uv a7 j*a7.A j r else 0)=sm a7.m λr=>sm a7.n λj=>if T.full j=Uf then Sx.uv a7 j*(T.pr t r*a7.A j r)else 0:=Sx.A6 λr _=>by rw[<-Sx.L0];exact Sx.A6 λj _=>by split<;>grind
  rw[b,Sx.qt];exact Sx.A6 λj _=>by
   split;rw[Sx.L0];exact Sx.iT λ_ _=>rfl
 have g:Sx.fsum a7 T (T.rest a7 t)=Sx.fsum a7 T (λj=>T.size*a7.c t j-1*Sx.dot a7.m (T.pr t) (a7.A j)):=Sx.A6 λj _=>by
  split;delta Sx.Tb.rest;grind;rfl
 delta Sx.Tb.obj;rw[f,e,g,TM];grind
def vv(P:Sx.Pb)(T:Sx.Tb)(a j:Nat):Int:=(if j=a then T.size else 0)-pick P T (T.w9 P a) j
theorem v_sum(L:Sx.R7 a7 T)(b:m<a7.n)(f:Nat->Int):sm a7.n (λj=>f j*vv a7 T m j)=f m*T.size-sm a7.m λk=>T.w9 a7 m k*f (T.B k):=by
 have e:sm a7.n (λj=>f j*vv a7 T m j)=sm a7.n λj=>(if j=m then f m*T.size else 0)-f j*pick a7 T (T.w9 a7 m) j:=Sx.A6 λj _=>by
  delta vv;by_cases z:j=m;rw[t2 z,t2 z,z];grind;rw[s9 z,s9 z];grind
 rw[e,Sx.jm,CT L,Sx.W8 b λi _ c=>s9 c,t2 rfl]
theorem YZ(L:Sx.R7 a7 T)(b:m<a7.n)(t:Nat):sm a7.n (λj=>a7.c t j*vv a7 T m j)=T.rest a7 t m:=by rw[v_sum L b,Sx.pG L];grind
end
section
variable{T:Sx.Tb}
abbrev G6.pb(I:G6):Sx.Pb:=I.L4.pb I.b
theorem Ht(H:F8 e D E M)(a:m<e.m)(b:l<e.n):((e.pb.A l m:Int):Rat)=val (e.row m l)*(e.sc l:Rat):=by
 show((O8 (e.L4.col l) m):Rat)=_;rw[Ek e l a];exact Cm (H.row m l a b).1.pos ((H.sc b).2.2.2 m a)
theorem xc(H:F8 e D E M)(b:m<3)(a:l<e.n):((e.pb.c m l:Int):Rat)=val (S8 (e.cost l) m)*(e.sc l:Rat)*(e.mu m:Rat):=by
 show((e.wt m l):Rat)=_;delta G6.wt;rw[Cm (H.wq b a).1.pos ((H.mu b).2.2.2 l a)];delta G6.wq;rw[sX (H.cost m l b a).1.pos B9,val_one]
theorem LC(H:F8 e D E M)(a:m<e.m):((e.pb.b m:Int):Rat)=val (e.rg m)*(e.un:Rat):=Cm (H.rg m a).1.pos (H.un.2.2.2.1 m a)
theorem vf(H:F8 e D E M)(c:m<e.n)(h:e.tp m=U o):((Sx.uv e.pb m:Int):Rat)*(e.sc m:Rat)=val o*(e.un:Rat)/\∃v,e.lim m=U v/\Sx.uv e.pb m=v:=by
 cases hl:e.lim m with
 |none=>rw[oo.mpr hl]at h;exact nE h
 |some v =>
  obtain⟨f,a,d,b⟩:=Dq H c hl;rw[h]at a;cases a;have I:Sx.uv e.pb m=v:=by delta Sx.uv;show(e.lim m).getD 0=v;rw[hl];rfl
  refine⟨?_,v,rfl,I⟩;have:(v:Rat)*(o.2*(e.sc m))=o.1*e.un:=by exact_mod_cast b
  have:=gj (show o.2≠0 by exact M4);delta val;grind
theorem T1(h:0<D):(0:Rat)<(D:Rat):=by exact_mod_cast h
abbrev Y5(I:G6)(T:Sx.Tb)(j:Nat):Q2:=bW I.L4 T I.tp I.m j
theorem XU:∀i,(∀k,k<i->T.B k≠m)->bW e.L4 T e.tp i m=bW e.L4 T e.tp 0 m:=by
 intro l_;induction l_ with
 |zero =>
  intro _;exact rfl
 |succ i ih_ =>
  intro h;show(if m=T.B i then _ else bW e.L4 T e.tp i m)=_;rw[s9 λz=>h i B4 z.symm];exact ih_ λk a=>h k eS
theorem XW(L:Sx.R7 e.pb T)(a:m<e.m):∀i,m<i->i<=e.m->bW e.L4 T e.tp i (T.B m)=I0 (T.am (C1 e.L4) m*e.sc (T.B m)) (T.size*e.un):=by
 intro l_;induction l_ with
 |zero =>
  intro h _;exact absurd h (mm _)
 |succ i ih_ =>
  intro h hi;rw[bW];by_cases z:i=m;rw[z,t2 rfl];rfl;rw[s9 λy=>z (L.inj i m (by assumption) a y.symm)];exact ih_ u3 el
theorem rK(K:Sx.Ok e.pb T)(b:m<e.n):(∃k,k<e.m/\T.B k=m/\T.full m=U'/\Y5 e T m=I0 (T.am e.pb k*e.sc m) (T.size*e.un))\/((∀k,k<e.m->T.B k≠m)/\((T.full m=Uf/\∃q,e.tp m=U q/\Y5 e T m=q)\/(T.full m=U'/\Y5 e T m=q0))):=by
 by_cases h:∃k,k<e.m/\T.B k=m
 . obtain⟨k,a,rfl⟩:=h;refine .inl ⟨k,a,rfl,?_,XW K.J4 a e.m a F3⟩;cases z:T.full (T.B k)with
   |false=>rfl
   |true=>exact absurd rfl ((K.fu _ b z).2 k a)
 . have c:=λk a z=>h ⟨k,a,z⟩
   refine .inr ⟨c,?_⟩;have I:Y5 e T m=bW e.L4 T e.tp 0 m:=XU e.m c;cases z:T.full m with
   |false=>exact .inr ⟨rfl,by rw[I,bW,s9 (by rw[z];decide)]⟩
   |true =>
    cases hq:e.tp m with
    |none=>exact absurd (oo.mp hq) ((K.fu m b z).1)
    |some q=>exact .inl ⟨rfl,q,rfl,by rw[I,bW,t2 z,hq];rfl⟩
theorem zZ(H:F8 e D E M)(K:Sx.Ok e.pb T)(c:m<e.n):val (Y5 e T m)*((T.size:Rat)*(e.un:Rat))=(e.sc m:Rat)*((yv e.pb T m:Int):Rat):=by
 rcases rK K c with ⟨k,d,rfl,a,I⟩|⟨b,⟨a,q,hq,I⟩|⟨a,I⟩⟩
 . rw[I,fX (M7 K.J4.pos H.un.1)];have:yv e.pb T (T.B k)=T.am e.pb k:=by delta yv;rw[s9 (by simp_all),zL K.J4 _ d,X7]
   have:=eI (T1 K.J4.pos) (T1 H.un.1);grind
 . rw[I];have:yv e.pb T m=T.size*Sx.uv e.pb m:=by delta yv;rw[t2 a,vk _ b,qR]
   have:=(vf H c hq).1;rw[‹yv e.pb T m=_›,fB];grind
 . rw[I];have:yv e.pb T m=0:=by delta yv;rw[s9 (by rw[a];decide),vk _ b,X7]
   rw[this,bO];grind
theorem Tg(H:F8 e D E M)(K:Sx.Ok e.pb T)(a:m<e.m):w5 (λj=>val (e.row m j)*val (Y5 e T j)) e.n=val (e.rg m):=by
 have:w5 (λj=>val (e.row m j)*val (Y5 e T j)) e.n*(T.size*e.un)=val (e.rg m)*(T.size*e.un):=by
  rw[ez,E6 (g:=λj=>((e.pb.A j m*yv e.pb T j:Int))) e.n λj b=>by have:=zZ H K b;rw[fB,Ht H a b];grind];rw[<-nM (λj=>e.pb.A j m*yv e.pb T j),show sm e.n (λj=>e.pb.A j m*yv e.pb T j)=_ from YH K a,fB,LC H a];grind
 have:((T.size:Rat)*e.un)≠0:=by have:=eI (T1 K.J4.pos) (T1 H.un.1);grind
 grind
theorem Th(H:F8 e D E M)(K:Sx.Ok e.pb T)(b:m<3):w5 (λj=>val (S8 (e.cost j) m)*val (Y5 e T j)) e.n*((T.size:Rat)*(e.un:Rat)*(e.mu m:Rat))=((T.obj e.pb m:Int):Rat):=by
 rw[ez,E6 (g:=λj=>((e.pb.c m j*yv e.pb T j:Int))) e.n λj a=>by have:=zZ H K a;rw[fB,xc H b a];grind];rw[<-nM (λj=>e.pb.c m j*yv e.pb T j),show sm e.n (λj=>e.pb.c m j*yv e.pb T j)=_ from YI K m]
end
open Sx (sm)
section
variable{T:Sx.Tb}
abbrev zE(I:G6)(T:Sx.Tb)(a j:Nat):Q2:=eu I.L4 T a I.m j
theorem We:∀i,(∀k,k<i->T.B k≠l)->eu e.L4 T m i l=if l=m then(e.sc m,1)else q0:=by
 intro l_;induction l_ with
 |zero =>
  intro _;exact rfl
 |succ i ih_ =>
  intro h;show(if l=T.B i then _ else eu e.L4 T m i l)=_;rw[s9 λz=>h i B4 z.symm];exact ih_ λk b=>h k eS
theorem Wf(L:Sx.R7 e.pb T)(b:l<e.m):∀i,l<i->i<=e.m->eu e.L4 T m i (T.B l)=I0 (-T.w9 (C1 e.L4) m l*e.sc (T.B l)) T.size:=by
 intro l_;induction l_ with
 |zero =>
  intro h _;exact absurd h (mm _)
 |succ i ih_ =>
  intro h hi;rw[eu];by_cases z:i=l;rw[z,t2 rfl];rfl;rw[s9 λy=>z (L.inj i l (by assumption) b y.symm)];exact ih_ u3 el
theorem Cg(L:Sx.R7 e.pb T)(j:Nat):(∃k,k<e.m/\T.B k=j/\zE e T m j=I0 (-T.w9 e.pb m k*e.sc j) T.size)\/((∀k,k<e.m->T.B k≠j)/\zE e T m j=if j=m then(e.sc m,1)else q0):=by
 by_cases h:∃k,k<e.m/\T.B k=j;obtain⟨k,b,rfl⟩:=h;exact .inl ⟨k,b,rfl,Wf L b e.m b F3⟩;have c:=λk b z=>h ⟨k,b,z⟩;exact .inr ⟨c,We e.m c⟩
theorem Wc(L:Sx.R7 e.pb T)(nb:∀k,k<e.m->T.B k≠m)(j:Nat):val (zE e T m j)*(T.size:Rat)=(e.sc j:Rat)*((vv e.pb T m j:Int):Rat):=by
 have:=T1 L.pos;rcases Cg L j with ⟨k,c,rfl,I⟩|⟨b,I⟩
 . rw[I,fX L.pos];have:vv e.pb T m (T.B k) = -T.w9 e.pb m k:=by delta vv;rw[s9 (nb k c),zL L _ c,Int.zero_sub]
   rw[this,fB];grind
 . rw[I];by_cases z:j=m
   . have:vv e.pb T m j=T.size:=by delta vv;rw[t2 z,vk _ b,ur]
     rw[this,t2 z,val_one,z]
   . have:vv e.pb T m j=0:=by delta vv;rw[s9 z,vk _ b,ur]
     rw[this,s9 z,bO];grind
theorem QA(H:F8 e D E M)(L:Sx.R7 e.pb T)(d:m<e.n)(nb:∀k,k<e.m->T.B k≠m)(b:l<3):w5 (λj=>val (S8 (e.cost j) l)*val (zE e T m j)) e.n*((T.size:Rat)*(e.mu l:Rat))=((T.rest e.pb l m:Int):Rat):=by
 rw[ez,E6 (g:=λj=>((e.pb.c l j*vv e.pb T m j:Int))) e.n λj I=>by have:=Wc L nb j;rw[fB,xc H b I];grind];rw[<-nM (λj=>e.pb.c l j*vv e.pb T m j),show sm e.n (λj=>e.pb.c l j*vv e.pb T m j)=_ from YZ L d l]
theorem BH(K:Sx.Ok e.pb T)(i:Sx.R3 e.pb T m)(h:stI e.L4 T m e.m=[]):e.lim m=J/\T.full m=U'/\∀k,k<e.m->T.w9 e.pb m k<=0/\(T.w9 e.pb m k<0->e.lim (T.B k)=J):=by
 have b:∀s,s∉stI e.L4 T m e.m:=λs c=>by simp_all
 have d:e.lim m=J:=by
  cases z:e.lim m with
  |none=>rfl
  |some v=>exact absurd (aN.mpr (.inl (iX.mpr ⟨v,z,rfl⟩))) (b ⟨v,1,m,J,U'⟩)
 have f:T.full m=U':=by
  cases z:T.full m with
  |false=>rfl
  |true=>exact absurd d (K.fu m i.an z).1
 have sg:T.sg m=1:=by delta Sx.Tb.sg;rw[f];rfl
 refine⟨d,f,λk I=>⟨?_,λg=>?_⟩⟩
 . rcases eY 0 (T.w9 e.pb m k)with z|z
   exact absurd (aN.mpr (.inr ⟨k,I,aM.mpr (.inl ⟨by rw[sg,dF];exact z,rfl⟩)⟩)) (b _);exact z
 . cases z:e.lim (T.B k)with
   |none=>rfl
   |some v=>exact absurd (aN.mpr (.inr ⟨k,I,aM.mpr (.inr ⟨by rw[sg,dF];exact g,v,z,rfl⟩)⟩)) (b _)
theorem Cw(f:0<A)(h:z*A=(D:Rat)):(0<z↔0<D)/\(z=0↔D=0)/\(0<=z↔0<=D):=by
 have c:0<z->0<D:=λx=>by
  have:=eI x f;rw[h]at this
  exact_mod_cast this
 have d:z=0->D=0:=λx=>by
  have:(D:Rat)=0:=by grind
  exact_mod_cast this
 have b:z<0->D<0:=λx=>by
  have:=eI (show 0 < -z by grind) f
  have e : -z*A=((-D:Int)):=by rw[yY,<-h];grind
  rw[e]at this;have:0 < -D:=by exact_mod_cast this
  simp_all
 have a:z<0\/z=0\/0<z:=by grind
 refine⟨⟨c,λx=>?_⟩,⟨d,λx=>?_⟩,⟨λx=>?_,λx=>?_⟩⟩
 . rcases a with t|t|t
   have:=b t;lia
   . have:=d t;simp_all
   exact t
 . rcases a with t|t|t
   . have:=b t;simp_all
   exact t
   . have:=c t;simp_all
 . rcases a with t|t|t
   grind;have:=d t;simp[*];have:=c t;exact dO
 . rcases a with t|t|t
   have:=b t;lia;grind;grind
theorem a2N{y k l m:Rat}{r:Nat->Int}(e:0<k)(b:0<l)(c:0<m)(a:A*k=(r 0:Rat))(f:y*l=(r 1:Rat))(d:z*m=(r 2:Rat)):NN A y z↔¬Sx.Neg r:=by
 obtain⟨i,n,_⟩:=Cw e a;obtain⟨g,h,_⟩:=Cw b f;obtain⟨_,_,j⟩:=Cw c d;delta NN Sx.Neg;lia
theorem AX(H:F8 e D E M)(L:Sx.R7 e.pb T){p:Nat}(a:m<3):val (S8 (aY e.L4 T p) m)*((T.size:Rat)*(e.mu m:Rat))=((T.pr m p:Int):Rat):=by
 have I:S8 (aY e.L4 T p) m=I0 (T.pr m p) (T.size*e.mu m):=by rcases lt3 a with rfl|rfl|rfl<;>rfl
 have:=eI (T1 L.pos) (T1 (H.mu a).1);rw[I,fX (M7 L.pos (H.mu a).1),fB];grind
def fq(I:G6)(T:Sx.Tb)(t j:Nat):Rat:=val (S8 (I.cost j) t)-w5 (λp=>val (S8 (aY I.L4 T p) t)*val (I.row p j)) I.m
theorem CF(H:F8 e D E M)(L:Sx.R7 e.pb T){t:Nat}(a:t<3)(b:m<e.n):fq e T t m*((e.sc m:Rat)*(e.mu t:Rat)*(T.size:Rat))=((T.rest e.pb t m:Int):Rat):=by
 have I:w5 (λp=>val (S8 (aY e.L4 T p) t)*val (e.row p m)) e.m*((e.sc m)*(e.mu t)*T.size)=((Sx.dot e.m (T.pr t) (e.pb.A m))):=by
  rw[ez,E6 (g:=λp=>((T.pr t p*e.pb.A m p:Int))) e.m λp d=>by have:=AX (p:=p) H L a;rw[fB,Ht H d b];grind];rw[<-nM (λp=>T.pr t p*e.pb.A m p)];rfl
 have f:((T.rest e.pb t m):Rat)=((e.pb.c t m))*T.size-((Sx.dot e.m (T.pr t) (e.pb.A m))):=by
  show((e.pb.c t m*T.size-Sx.dot e.m (T.pr t) (e.pb.A m):Int):Rat)=_;simp
 delta fq;rw[f,xc H a b,<-I];grind
theorem CQ(H:F8 e D E M)(L:Sx.R7 e.pb T)(c:m<3):w5 (λp=>val (S8 (aY e.L4 T p) m)*val (e.rg p)) e.m*((T.size:Rat)*(e.un:Rat)*(e.mu m:Rat))=((Sx.dot e.m (T.pr m) e.pb.b:Int):Rat):=by
 rw[ez,E6 (g:=λp=>((T.pr m p*e.pb.b p:Int))) e.m λp a=>by have:=AX (p:=p) H L c;rw[fB,LC H a];grind];rw[<-nM (λp=>T.pr m p*e.pb.b p)];rfl
theorem Kt(K:Sx.Ok e.pb T)(ne:∀m,m<e.n->¬Sx.R3 e.pb T m)(a:m<e.n):(e.lim m=U 0)\/(T.full m=U'/\¬Sx.Neg λt=>T.rest e.pb t m)\/(T.full m=Uf/\(Sx.Neg (λt=>T.rest e.pb t m)\/∀t,t<3->T.rest e.pb t m=0)):=by
 by_cases z:e.lim m=U 0;exact .inl z
 . have nn:=λy=>ne m a ⟨a,z,y⟩
   cases hf:T.full m with
   |false =>
    have sg:T.sg m=1:=by delta Sx.Tb.sg;rw[hf];rfl
    refine .inr (.inl ⟨rfl,λy=>nn (y.congr λt _=>by rw[sg,dF])⟩)
   |true =>
    have:T.sg m = -1:=by delta Sx.Tb.sg;rw[hf];rfl
    refine .inr (.inr ⟨rfl,?_⟩);unfold Sx.Neg at *;by_cases w:T.rest e.pb 0 m=0/\T.rest e.pb 1 m=0/\T.rest e.pb 2 m=0
    . exact .inr λt b=>by
        rcases lt3 b with rfl|rfl|rfl
        exact w.1;exact w.2.1;exact w.2.2
    left;lia
theorem Bp(H:F8 e D E M)(K:Sx.Ok e.pb T)(ne:∀m,m<e.n->¬Sx.R3 e.pb T m)(d:m<e.n)(f:c7=Uf↔Sx.Neg λt=>T.rest e.pb t m):(c7=Uf->e.tp m≠J)/\∀t,t<3->(if c7=Uf then fq e T t m*val ((e.tp m).getD q0)else 0)*((T.size:Rat)*(e.un:Rat)*(e.mu t:Rat))=((if T.full m=Uf then Sx.uv e.pb m*T.rest e.pb t m else 0:Int):Rat):=by
 have k:=Kt K ne d;constructor
 . intro a c;have g:=oo.mp c;rcases k with k|⟨_,k⟩|⟨i,_⟩
   lia;exact k (f.mp a);exact(K.fu m d i).1 g
 . intro t c;have:val ((e.tp m).getD q0)*e.un=((Sx.uv e.pb m))*(e.sc m):=by
    cases htp:e.tp m with
    |none =>
     have:Sx.uv e.pb m=0:=by delta Sx.uv;show(e.lim m).getD 0=0;rw[oo.mp htp];rfl
     rw[this];show val q0*_=0*_;rw[bO];grind
    |some q =>
     have:=(vf H d htp).1;grind
   have h:e.lim m=U 0->Sx.uv e.pb m=0:=λz=>by delta Sx.uv;show(e.lim m).getD 0=0;rw[z];rfl
   by_cases a:c7=Uf
   . rw[t2 a];have I:((if T.full m=Uf then Sx.uv e.pb m*T.rest e.pb t m else 0))=Sx.uv e.pb m*T.rest e.pb t m:=by
      by_cases b:T.full m=Uf;rw[t2 b]
      . rw[s9 b];rcases k with k|⟨_,k⟩|⟨k,_⟩
        rw[h k,cR];exact absurd (f.mp a) k;exact absurd k b
     rw[I,fB,<-(CF H K.J4 c d)];grind
   . rw[s9 a];have I:((if T.full m=Uf then Sx.uv e.pb m*T.rest e.pb t m else 0))=0:=by
      by_cases b:T.full m=Uf
      . rw[t2 b];rcases k with k|⟨k,_⟩|⟨_,k|k⟩
        rw[h k,cR]
        . simp_all
        exact absurd (f.mpr k) a;rw[k t c,V9]
      rw[s9 b]
     rw[I];grind
theorem GS(H:F8 e D E M)(K:Sx.Ok e.pb T)(ne:∀j,j<e.n->¬Sx.R3 e.pb T j){ch:Nat->Bool}(d:∀j,j<e.n->(ch j=Uf↔Sx.Neg λm=>T.rest e.pb m j))(a:m<3):
  w5 (λp=>val (S8 (aY e.L4 T p) m)*val (e.rg p)) e.m+w5 (λj=>if ch j=Uf then fq e T m j*val ((e.tp j).getD q0)else 0) e.n=w5 (λj=>val (S8 (e.cost j) m)*val (Y5 e T j)) e.n:=by
 have:=eI (eI (T1 K.J4.pos) (T1 H.un.1)) (T1 (H.mu a).1);have:=CQ H K.J4 a;have:=Th H K a;have:w5 (λj=>if ch j=Uf then fq e T m j*val ((e.tp j).getD q0)else 0) e.n*(T.size*e.un*(e.mu m))=((Sx.fsum e.pb T (T.rest e.pb m))):=by
  rw[ez,E6 e.n λj c=>(Bp H K ne c (d j c)).2 m a];rw[<-nM (λj=>if T.full j=Uf then Sx.uv e.pb j*T.rest e.pb m j else 0)];rfl
 have:((T.obj e.pb m):Rat)=((Sx.dot e.m (T.pr m) e.pb.b))+((Sx.fsum e.pb T (T.rest e.pb m))):=by rw[JE K m,hU];rfl
 generalize (T.size:Rat)*e.un*(e.mu m)=z at *;grind
end
open Sx (sN pN sm det G9 dot)
section
variable{T:Sx.Tb}
theorem xR{c:Rat}(h:¬NN z A c):NN (-z) (-A) (-c):=by unfold NN at *;grind
theorem Kk(b:∀p,p<e.m->w5 (λj=>val (e.row p j)*a6 j) e.n=val (e.rg p))(t:Nat):
  w5 (λj=>val (S8 (e.cost j) t)*a6 j) e.n=w5 (λj=>fq e T t j*a6 j) e.n+w5 (λp=>val (S8 (aY e.L4 T p) t)*val (e.rg p)) e.m:=by
 have c:w5 (λp=>val (S8 (aY e.L4 T p) t)*val (e.rg p)) e.m=w5 (λj=>w5 (λp=>val (S8 (aY e.L4 T p) t)*val (e.row p j)*a6 j) e.m) e.n:=by
  rw[Lh];refine E6 e.m λp a=>?_;rw[<-b p a,Rat.mul_comm,ez];refine E6 e.n λj _=>?_;grind
 rw[c,<-de];refine E6 e.n λj _=>?_;rw[<-ez];delta fq;grind
theorem Ku(H:F8 e D E M)(K:Sx.Ok e.pb T)(ne:∀j,j<e.n->¬Sx.R3 e.pb T j)(w:∀j,j<e.n->0<=a6 j)(x:∀j q,j<e.n->e.tp j=U q->a6 j<=val q)(s:∀p,p<e.m->w5 (λj=>val (e.row p j)*a6 j) e.n=val (e.rg p)){Δ:Nat->Rat}(hD:∀t,Δ t=w5 (λj=>val (S8 (e.cost j) t)*a6 j) e.n-w5 (λj=>val (S8 (e.cost j) t)*val (Y5 e T j)) e.n):
  NN (Δ 0) (Δ 1) (Δ 2):=by
 classical
 let f:=λj=>decide (Sx.Neg λt=>T.rest e.pb t j)
 have I:∀j,j<e.n->(f j=Uf↔Sx.Neg λt=>T.rest e.pb t j):=λj _=>decide_eq_true_iff
 let g:=λt j=>fq e T t j*a6 j-(if f j=Uf then fq e T t j*val ((e.tp j).getD q0)else 0)
 have a:∀t,t<3->Δ t=w5 (g t) e.n:=λt d=>by rw[hD,Kk (T:=T) s t,<-GS H K ne I d,rD];grind
 rw[a 0 f5,a 1 f5,a 2 f5];refine NN.sum e.n λj b=>?_;have l:∀t,t<3->(0:Rat)<(e.sc j)*(e.mu t)*T.size:=λt d=>eI (eI (T1 (H.sc b).1) (T1 (H.mu d).1)) (T1 K.J4.pos);have i:=λt d=>CF H K.J4 (t:=t) d b;have o:=a2N (r:=λt=>T.rest e.pb t j) (l 0 f5) (l 1 f5) (l 2 f5) (i 0 f5) (i 1 f5) (i 2 f5);by_cases h:f j=Uf
 . have u:=(Bp H K ne b (I j b)).1 h;obtain⟨q,hq⟩:=Option.ne_none_iff_exists'.mp u;have v:NN (- fq e T 0 j) (- fq e T 1 j) (- fq e T 2 j):=by exact xR λz=>o.mp z ((I j b).mp h)
   have:=v.mul (k:=val q-a6 j) (by grind)
   have c:∀t,g t j = - fq e T t j*(val q-a6 j):=λt=>by grind
   rw[c,c,c];exact this
 . have c:∀t,g t j=fq e T t j*a6 j:=λt=>by grind
   rw[c,c,c];exact(o.mpr λz=>h ((I j b).mpr z)).mul (w j b)
end
section
variable{T:Sx.Tb}
theorem Dp(h:e.tp m=U o):e.lim m≠J:=by delta G6.lim G6.hq;rw[h];simp
theorem Wd(K:Sx.Ok e.pb T)(f:Sx.R3 e.pb T m)(h:stI e.L4 T m e.m=[])(hq:e.tp l=U o):val (zE e T m l)=0:=by
 obtain⟨g,_,I⟩:=BH K f h;rcases Cg K.J4 l with ⟨k,d,k2,b⟩|⟨_,b⟩
 . obtain⟨c,a⟩:=I k d;have i:T.w9 e.pb m k=0:=by
    rcases FQ c with z|z
    exact absurd (k2▸a z) (Dp hq);exact z
   rw[b,i,fX K.J4.pos,Int.neg_zero,cR];show 0/_=0;rw[EF,yL]
 rw[b,s9 (λz=>Dp hq (by rw[z];exact g))];exact bO
theorem GN(H:F8 e D E M)(K:Sx.Ok e.pb T)(b:Sx.R3 e.pb T m)(h:stI e.L4 T m e.m=[])(fr:∀j,j<e.n->e.tp j=J->e.cost j=ku):False:=by
 have z:∀t,t<3->T.rest e.pb t m=0:=λt c=>by
  have w:=QA H K.J4 b.an (b.nb K.J4) c;have I:w5 (λj=>val (S8 (e.cost j) t)*val (zE e T m j)) e.n=0:=by
   rw[E6 e.n λj d=>?_,lF]
   cases q:e.tp j with
   |none =>
    rw[fr j d q];have:val (S8 ku t)=0:=by rcases(by lia:t=0\/t=1\/t=2)with rfl|rfl|rfl<;>exact bO
    rw[this,yL]
   |some f=>rw[Wd K b h q,oO]
  rw[I,yL]at w
  exact_mod_cast w.symm
 exact Sx.iY (λt c=>by rw[z t c,V9]) b.neg
end
open Sx (sN pN sm det G9 dot)
structure Hr where
 V0:Int
 need:Int
 line:Option (Int×Int×Int×Int)
noncomputable def lh:Option (Int×Int×Int×Int)->f7
 |none=>.none
 |some (a,b,c,d)=>.tuple [.int a,.int b,.int c,.int d]
def B6(h:Hr):f7:=.tuple [.int h.V0,.int h.need,lh h.line]
structure Wk where
 name:Str
 aH:Int
 first:Int
 last:Int
 most:Int
noncomputable def cI(w:Wk):f7:=.tuple [.str w.name,.int w.aH,.int w.first,.int w.last,.int w.most]
structure A8 where
 hs:List Hr
 size:Int
 start:Int
 fill:Int
 take:Int
 kept:Q2
 left:Q2
 rest:Int
 ws:List Wk
variable{d:A8}
abbrev A8.n(h:A8):Nat:=h.hs.length
abbrev A8.w(h:A8):Nat:=h.ws.length
noncomputable def K9(h:A8):f7:=.tuple [.int h.size,.int h.start,.int h.fill,.int h.take,fr h.kept,fr h.left,.int h.rest]
def y6(h:A8):f7:=.tuple [.tuple (h.hs.map B6),K9 h,.tuple (h.ws.map cI)]
theorem xJ{q:Q2}(a:D2 m o)(hq:D2 l q)(h:m+l<=7998):cW [fr o,fr q]=sd (fr (dE o q)):=by
 have e:Bt 60000 o.1:=a.bt.mono (C3 xT f5);have b:Bt 60000 o.2:=a.bb.mono (C3 xT f5);have g:Bt 60000 q.1:=hq.bt.mono (C3 Dl f5);have c:Bt 60000 q.2:=hq.bb.mono (C3 Dl f5);obtain⟨i,j,d⟩:=Si a.pos hq.pos a.low hq.low;have bs:Bt 8000 (gc o.2 q.2):=(a1s a.pos a.bb).mono (C3 xT f5);have f:∀t,Bt 8000 (gc t (gc o.2 q.2)):=λt=>BV M4 bs;delta cW;walk_at "r";rw[lS (U6 a.pos) (U6 hq.pos)];walk_at "r";simp only[S0 (show gc o.2 q.2≠0 by exact M4) bs];walk_at "r";simp only[D8,e,b.fdiv,g,c.fdiv];walk_at "r";rw[lS (by split<;>omega) B4,Aq];walk_at "r";simp only[S0 (show gc (o.1*q.2.fdiv (gc o.2 q.2)+q.1*o.2.fdiv (gc o.2 q.2)) (gc o.2 q.2)≠0 by exact M4) (f _),S0 (show gc o.2 q.2≠0 by exact M4) bs];walk_at "r";rw[D8 b.fdiv c.fdiv];delta dE;rw[d];rfl
theorem TN{q:Int×Int}(h:D2 m q):D2 m (-q.1,q.2):=⟨h.pos,by have:=h.low;simpa using this,h.bt.neg,h.bb⟩
theorem Sg(p q:Int×Int):dE p (-q.1,q.2)=fL p q:=by
 show I0 (p.1*q.2 + -q.1*p.2) _=I0 (p.1*q.2-q.1*p.2) _;rw[yG];rfl
theorem MQ{q:Q2}(a:D2 m o)(hq:D2 l q)(h:m+l<=7998):Q5 [fr o,fr q]=sd (fr (fL o q)):=by
 delta Q5;walk_at "r";rw[show(dG [.int (-q.1),.int q.2])=fr (-q.1,q.2)from rfl,xJ a (TN hq) h,Sg];rfl
structure Ch where
 k:List Key
 c:Tr
 t:Option Q2
 ns:List (Nat×Q2)
variable{c6:Ch}{d6:List Ch}
noncomputable def oj(p:Nat×Q2):f7:=.tuple [.int (p.1:Int),fr p.2]
def Q6(x:Ch):f7:=.tuple [N3 x.k,M0 x.c,Y4 x.t,.list (x.ns.map oj)]
def Q8(h:Hr):Q2:=if h.V0<=h.need then(1,1)else(-1,1)
def outF(h:Hr):Q2:=if h.V0<=h.need then(-1,1)else(1,1)
def nr(p:Int):Tr:=⟨(0,1),(0,1),(p,1)⟩
def k2(s:Str)(t:Nat):List Key:=[.inr s,.inl (t:Int)]
def Dx:Tr:=⟨(1,1),(0,1),(0,1)⟩
def Zb:Tr:=⟨(0,1),(1,1),(0,1)⟩
noncomputable def dN(t:Nat)(h:Hr):List Ch:=match h.line with
 |none=>[]
 |some (a,b,c,d)=>[⟨k2 "bought" t,nr a,U (b,1),[(t,Q8 h)]⟩,⟨k2 "given" t,nr (-c),U (d,1),[(t,outF h)]⟩]
noncomputable def eT(t:Nat)(h:Hr):List Ch:=[⟨k2 "lacked" t,Dx,U (h.need,1),[(t,Q8 h)]⟩,⟨k2 "spilt" t,⟨(0,1),(0,1),(0,1)⟩,J,[(t,outF h)]⟩]++dN t h
theorem qF(h:Hr):fe [B6 h]=sd (fr (Q8 h)):=by
 delta fe;walk_at "r";simp only[B6];walk_at "r";delta Q8;by_cases e:h.V0<=h.need;rw[t2 e,t2 e];rfl;rw[s9 e,s9 e];rfl
theorem CW(h:Hr):eN [B6 h]=sd (fr (outF h)):=by
 delta eN;walk_at "r";rw[qF];delta Q8 outF;by_cases e:h.V0<=h.need
 . rw[t2 e,t2 e];kernel_rfl
 . rw[s9 e,s9 e];kernel_rfl
theorem xf(p:Int):nP [.int p]=sd (M0 (nr p)):=rfl
theorem dD(h:t6 m r=sd (.int (l:Int))):X3 (f6 (fC (.str B)) (f6 (t6 m) u5)) r=sd (N3 (k2 B l)):=by
 delta X3;have:f6 (fC (.str B)) (f6 (t6 m) u5) r=U [.str B,.int l]:=by delta f6;rw[h];rfl
 rw[this];rfl
theorem Yh(t:Nat)(h:Hr):dX [.int (t:Int),B6 h]=U (.own ((eT t h).map Q6)):=by
 have g:=qF h;have f:=CW h;obtain⟨j,i,e⟩:=h;delta dX;cases e with
 |none =>
  walk_at "r";rw[g,f,dD rfl,dD rfl];rfl
 |some l =>
  obtain⟨a,b,c,d⟩:=l;walk_at "r";rw[g,f,dD rfl,dD rfl];simp only[B6,lh]at g f ⊢;walk_at "r";rw[dD rfl,xf,g];walk_at "r";rw[kP _ rfl B9];walk_at "r";rw[dD rfl,xf,f];rfl
theorem u6{G2:DO}{ds1:Ds}(h:b5 r=U (.next ds1))(b:G2 ds1=e9):t9 b5 G2 r=e9:=by rw[B8,h,A4,b]
theorem M5(a:u.length=m)(h:b5 (Q3 u++C2 (l-m) J)=U (.ret g)):K6 m l b5 u=U g:=by delta K6;rw[t2 a,h];rfl
theorem A0{pv:PV}(h:G r=U pv)(a:r.set m (sd pv.d)=a2):u9 m G r=U (.next a2):=by rw[eH,h,<-a];rfl
theorem ar{a:DL}{items l:List f7}(h:a r=U items)(b:items.length<=1000000)(c:M6 d5 A5 G r items=U l):A2 a d5 A5 G r=U (.own l):=by
 delta A2
 simp_all
def Z1:Hr:=⟨0,0,J⟩
abbrev A8.hr(h:A8)(i:Nat):Hr:=h.hs.getD i Z1
def ia(N t:Nat)(q:Q2):List (Nat×Q2):=(C8 (N-t)).map λi=>(N+t+i,q)
def wY(h:A8)(t:Nat):Int:=if t+1=h.hs.length then h.rest else 0
noncomputable def cF(h:A8)(t:Nat):List Ch:=
 [⟨k2 "filled" t,⟨(0,1),(0,1),(0,1)⟩,U (h.fill,1),(t,outF (h.hs.getD t Z1))::ia h.hs.length t (fL (0,1) h.kept)⟩,
  ⟨k2 "taken" t,⟨(0,1),(0,1),(0,1)⟩,U (h.take,1),(t,P1 (Q8 (h.hs.getD t Z1)) h.left)::ia h.hs.length t (1,1)⟩,
  ⟨k2 "level" t,nr (-wY h t),U (h.size,1),[(h.hs.length+t,(1,1))]⟩]
theorem CC{q:Q2}(N:l<=m)(k:m<=1000)(a:t6 2 r=sd (.int (m:Int)))(d:t6 1 r=sd (.int (l:Int)))(h:∀p:Nat,G (sd (.int (p:Int))::r)=sd (oj (p,q))):
  A2 (E9 js (f6 (u4 F9 (t6 2) (t6 1)) (f6 (u4 R5 (fC (.int 2)) (t6 2)) u5))) B3 A5 G r=U (.own ((ia m l q).map oj)):=by
 have e:E9 js (f6 (u4 F9 (t6 2) (t6 1)) (f6 (u4 R5 (fC (.int 2)) (t6 2)) u5)) r=U (bc ((m+l:Nat)) (m-l)):=by
  have b:Bt 60000 1000:=⟨by lia⟩
  have f:R5 (.int 2) (.int m)=sd (.int (2*m)):=D8 (b.of_le f5) (b.of_le B4);have c:u4 F9 (t6 2) (t6 1) r=sd (.int (m+l)):=by delta u4;rw[a,d];rfl
  have g:u4 R5 (fC (.int 2)) (t6 2) r=sd (.int (2*m)):=by
   delta u4 fC
   simp_all
  delta E9 f6;rw[c,g];show js [.int (m+l),.int (2*m)]=_;rw[CD ⟨⟨FW _,by lia⟩,by lia,by lia⟩];rw[show(2*(m:Int)-(m+l)).toNat=m-l by lia];rfl
 refine ar e ?_ ?_;rw[qu];lia;rw[sf λi j=>⟨_,h (m+l+i),rfl⟩];delta ia;rw[fz];rfl
theorem QW(h:A8)(j:D2 20 h.kept)(k:D2 20 h.left)(f:l<h.n)(c:h.n<=1000):fD [y6 h,.int (l:Int)]=U (.own ((cF h l).map Q6)):=by
 refine M5 rfl ?_;refine u6 (A0 (pv:=.dat (.int h.n)) ?_ rfl) ?_;show F6 [.tuple (h.hs.map B6)]=_;delta F6 d1;simp;refine u6 (A0 (pv:=.dat (B6 (h.hs.getD l Z1))) ?_ rfl) ?_;show E5 (.tuple (h.hs.map B6)) (.int l)=_;rw[vw,dQ rfl (by simp_all),O1,iz,K7 f];rfl;refine u6 (A0 rfl rfl) ?_;refine u6 (A0 (CC (q:=fL (0,1) h.kept) el c rfl rfl λp=>?_) rfl) ?_;show((((Q5 [fr (0,1),fr h.kept]).bind λx=>U [x.d]).bind λt=>U (Z7 p::t)).bind λt=>if t.length<=1000000 then U (PV.dat (.tuple t))else J)=_;rw[MQ (m:=1) ⟨by decide,by decide,⟨by decide⟩,⟨by decide⟩⟩ j f5];rfl;refine u6 (A0 (CC (q:=(1,1)) el c rfl rfl λp=>rfl) rfl) ?_;refine u6 (A0 (pv:=.dat (.int (wY h l))) ?_ rfl) ?_;show(((S5 (.int l) (.int (h.n-1))).bind λx=>Oh x.d).bind λb=>if b=Uf then U (PV.dat (.int h.rest))else sd (.int 0))=_;rw[rS];delta wY;by_cases e:l+1=h.n;rw[t2 e,iq (show(l:Int)=h.n-1 by lia)];rfl;rw[s9 e,Z9 (show ¬(l:Int)=h.n-1 by lia)];rfl
 have g:∀q,((ia h.n l q).map oj).length<=1000:=λq=>by rw[E7];delta ia;rw[E7,rj];exact C3 (EE _ _) v5
 have a:∀d q,F9 (.list [d]) (.list ((ia h.n l q).map oj))=U (.own (d::(ia h.n l q).map oj)):=λd q=>by delta F9;have:=g q;simp only[X9,jV];rw[t2 u3];rfl
 walk_at "r";rw[dD rfl,dD rfl,dD rfl,CW,qF];walk_at "r";have i:D2 1 (Q8 (h.hr l)):=by delta Q8;split<;>exact⟨by decide,by decide,⟨by decide⟩,⟨by decide⟩⟩
 rw[show E5 (K9 h) (.int 2)=sd (.int h.fill)from rfl,show E5 (K9 h) (.int 3)=sd (.int h.take)from rfl,show E5 (K9 h) (.int 5)=sd (fr h.left)from rfl,show E5 (K9 h) (.int 0)=sd (.int h.size)from rfl,xf];walk_at "r";rw[nW i k f5];walk_at "r";rw[a,a];rfl
def eQ:Wk:=⟨md,0,0,0,0⟩
abbrev A8.wk(h:A8)(i:Nat):Wk:=h.ws.getD i eQ
noncomputable def vN(h:A8)(j t:Nat):Ch:=⟨[.inr "worked",.inl (t:Int),.inl (j:Int)],⟨(0,1),(0,1),(0,1)⟩,U ((h.ws.getD j eQ).most,1),[(t,outF (h.hs.getD t Z1)),(2*h.hs.length+j,(1,1))]⟩
noncomputable def cJ(h:A8)(j:Nat):Ch:=⟨k2 "undone" j,Zb,U ((h.ws.getD j eQ).aH,1),[(2*h.hs.length+j,(1,1))]⟩
def GZ(w:Wk):Nat:=(w.last+1-w.first).toNat
def bN(h:A8)(j:Nat):List Ch:=cJ h j::(C8 (GZ (h.ws.getD j eQ))).map λi=>vN h j ((h.ws.getD j eQ).first.toNat+i)
theorem Ii(h:A8)(a:m<h.n):E5 (.tuple (h.hs.map B6)) (.int (m:Int))=sd (B6 (h.hs.getD m Z1)):=by
 rw[vw,dQ rfl (by simp_all),O1,iz,K7 a];rfl
theorem Wa(h:A8)(a:m<h.w):E5 (.tuple (h.ws.map cI)) (.int (m:Int))=sd (cI (h.ws.getD m eQ)):=by
 rw[vw,dQ rfl (by simp_all),O1,iz,K7 a];rfl
theorem Q9{f:f7->f7->Option PV}{Fa Fb:DV}{x y:PV}(b:Fa r=U x)(a:Fb r=U y):u4 f Fa Fb r=f x.d y.d:=by
 delta u4
 simp_all
theorem KH(h:A8){w:Wk}(c:h.ws.getD m eQ=w)(e:O<h.n){l:List f7}(b:l.length<1000000)(a:Option PV):
  eO [sd (y6 h),sd (.int (m:Int)),sd (cI w),sd (.int ((2*h.n+m:Nat):Int)),U (.own l),sd (.int (O:Int)),a] =
   U (.next [sd (y6 h),sd (.int (m:Int)),sd (cI w),sd (.int ((2*h.n+m:Nat):Int)),U (.own (l++[Q6 (vN h m O)])),sd (.int (O:Int)),sd (.list [oj (O,outF (h.hr O)),oj (2*h.n+m,(1,1))])]):=by
 refine u6 (A0 (pv:=.own [oj (O,outF (h.hr O)),oj (2*h.n+m,(1,1))]) ?_ rfl) ?_;show(((((((E5 (.tuple (h.hs.map B6)) (.int O)).bind λx=>U [x.d]).bind eN).bind λx=>U [x.d]).bind λl=>U (Z7 O::l)).bind λl=>if l.length<=1000000 then U (PV.dat (.tuple l))else J).bind λx=>U [x.d,.tuple [.int ((2*h.n+m)),.tuple [.int 1,.int 1]]]).bind (λl=>if l.length<=1000000 then U (PV.own l)else J)=_;rw[Ii h e,z9,z9,show(PV.dat (B6 (h.hr O))).d=B6 (h.hr O)from rfl,CW];rfl;rw[kI];refine Eq.trans (D3 (λo=>Ey o 4 _) (?_:_=U (PV.dat (Q6 (vN h m O))))) (kP _ rfl b);delta vN;rw[c];rfl
theorem VZ(h:A8)(s:m<h.w)(E:h.n<=1000)(r:0<=(h.wk m).first)(D:(h.wk m).first<=(h.wk m).last)(u:(h.wk m).last<(h.n:Int)):gx [y6 h,.int (m:Int)]=U (.own ((bN h m).map Q6)):=by
 have p:Bt 60000 1000:=⟨by lia⟩;have y:R5 (.int 2) (.int h.n)=sd (.int (2*h.n)):=D8 (p.of_le f5) (p.of_le B4);have j:=Wa h s;generalize d:h.ws.getD m eQ=w at j r u D;refine M5 rfl ?_;refine u6 (A0 j rfl) ?_;refine u6 (A0 (pv:=.dat (.int ((2*h.n+m:Nat)))) ?_ rfl) ?_
 . have z:f9 F6 (f6 (u4 E5 (t6 0) (fC (.int 0))) u5) [sd (y6 h),sd (.int m),sd (cI w),J,J,J,J]=sd (.int h.n):=by
     show F6 [.tuple (h.hs.map B6)]=_;delta F6 d1;simp only[E7]
   have c:=Q9 (f:=R5) (Fa:=fC (.int 2)) rfl z;have g:=Q9 (f:=F9) (Fb:=t6 1) (c.trans y) rfl;assumption
 refine u6 (ds1:=[sd (y6 h),sd (.int m),sd (cI w),sd (.int ((2*h.n+m))),U (.own [Q6 (cJ h m)]),J,J]) ?_ ?_
 . rw[Ar];have c:O6 (f6 (y4 (f6 (X3 (f6 (fC (.str "undone")) (f6 (t6 1) u5))) (f6 (fC xh) (f6 (y4 (f6 (u4 E5 (t6 2) (fC (.int 1))) (f6 (fC (.int 1)) u5))) (f6 (O6 (f6 (y4 (f6 (t6 3) (f6 (y4 (f6 (fC (.int 1)) (f6 (fC (.int 1)) u5))) u5))) u5)) u5))))) u5) [sd (y6 h),sd (.int m),sd (cI w),sd (.int ((2*h.n+m))),J,J,J]=U (.own [Q6 (cJ h m)]):=by delta cJ;rw[d];rfl
   exact D3 (λo=>JW o 4 _) c
 have A:∃b a,J3 (E9 js (f6 (u4 E5 (t6 2) (fC (.int 2))) (f6 (u4 F9 (u4 E5 (t6 2) (fC (.int 3))) (fC (.int 1))) u5))) (K5 5) eO [sd (y6 h),sd (.int m),sd (cI w),sd (.int ((2*h.n+m:Nat))),U (.own [Q6 (cJ h m)]),J,J]
   = U (.next [sd (y6 h),sd (.int m),sd (cI w),sd (.int ((2*h.n+m:Nat))),U (.own ((bN h m).map Q6)),b,a]):=by
  have g:E9 js (f6 (u4 E5 (t6 2) (fC (.int 2))) (f6 (u4 F9 (u4 E5 (t6 2) (fC (.int 3))) (fC (.int 1))) u5)) [sd (y6 h),sd (.int m),sd (cI w),sd (.int ((2*h.n+m:Nat))),U (.own [Q6 (cJ h m)]),J,J]=U (bc w.first (GZ w)):=by
   show js [.int w.first,.int (w.last+1)]=_;rw[CD ⟨⟨by lia,by lia⟩,by lia,by lia⟩];rfl
  delta J3;rw[g,z9];obtain⟨t,B,b,a,x⟩:=rO (gt:=K5 5) (n:=GZ w) (ds:=[sd (y6 h),sd (.int m),sd (cI w),sd (.int ((2*h.n+m:Nat))),U (.own [Q6 (cJ h m)]),J,J])
   (λi k=>∃b a,k=[sd (y6 h),sd (.int m),sd (cI w),sd (.int ((2*h.n+m:Nat))),U (.own ((cJ h m::(C8 i).map λi=>vN h m (w.first.toNat+i)).map Q6)),b,a])
   ⟨J,J,rfl⟩ (by
    rintro i k v ⟨b,a,e⟩;subst e;have:i<(w.last+1-w.first).toNat:=v;have C:w.first.toNat+i<h.n:=by lia
    have q:=KH h d C (l:=(cJ h m::(C8 i).map λi=>vN h m (w.first.toNat+i)).map Q6) (by simp;lia) a;rw[show((w.first.toNat+i:Nat))=w.first+i by lia]at q
    exact⟨_,_,rfl,.inl q,_,_,by rw[iw,cy];simp only[C6,cy];rfl⟩)
  refine⟨b,a,?_⟩;rw[B,x];delta bN;rw[d]
 obtain⟨b,a,e⟩:=A;exact u6 e rfl
def ao(h:A8)(t:Nat):List Ch:=eT t (h.hs.getD t Z1)++cF h t
def y9(h:A8):List Ch:=(C8 h.hs.length).flatMap (ao h)++(C8 h.ws.length).flatMap (bN h)
theorem yc(t:Nat)(h:Hr):(eT t h).length<=4:=by
 delta eT dN;cases h.line with
 |none=>simp
 |some l=>simp
theorem Ed{i:List f7}(h:G r=U (.own i))(a:r[m]? = U (U (.own u)))(b:u.length+i.length<=1000000)(e:r.set m (U (.own (u++i)))=a2):ot m G r=U (.next a2):=by delta ot;rw[h,z9,a,<-e];exact t2 b
theorem A7{Fa Fb:DV}{ds:Ds}{x y:PV}(b:Fa ds=U x)(a:Fb ds=U y)(e:b3 [x.d,y.d]=a8):f9 b3 (f6 Fa (f6 Fb u5)) ds=a8:=by delta f9 f6;rw[b,z9,a,z9];exact e
structure jZ(h:A8):Prop where
 k:D2 20 h.kept
 l:D2 20 h.left
 n:h.hs.length<=1000
 w:h.ws.length<=100
 f:∀j,j<h.ws.length->0<=(h.ws.getD j eQ).first/\(h.ws.getD j eQ).first<=(h.ws.getD j eQ).last/\(h.ws.getD j eQ).last<(h.hs.length:Int)
theorem Uw(h:A8)(H:jZ h)(a:m<h.n){l:List Ch}(b:l.length<=900000):
  gB [sd (y6 h),U (.own (l.map Q6)),sd (.int (m:Int)),sd (B6 (h.hr m))]=U (.next [sd (y6 h),U (.own ((l++ao h m).map Q6)),sd (.int (m:Int)),sd (B6 (h.hr m))]):=by
 have:=yc m (h.hr m);refine u6 (Ed (A7 rfl rfl (Yh m _)) rfl (by rw[E7,E7];lia) rfl) ?_;refine Ed (A7 rfl rfl (QW h H.k H.l a H.n)) rfl ?_ ?_;rw[aa,E7,E7,E7];show _+3<=_;lia;delta ao;simp only[cy,zg];rfl
theorem Uv(h:A8)(H:jZ h)(b:m<h.w){l:List Ch}(g:l.length<=900000)(a:Option PV):
  gA [sd (y6 h),U (.own (l.map Q6)),sd (.int (m:Int)),a]=U (.next [sd (y6 h),U (.own ((l++bN h m).map Q6)),sd (.int (m:Int)),a]):=by
 obtain⟨d,e,c⟩:=H.f m b;have:=H.n;refine Ed (A7 rfl rfl (VZ h b H.n d e c)) rfl ?_ ?_;rw[E7,E7];delta bN GZ;rw[X9,E7,rj];lia;simp
theorem zK(h:A8):∀i,((C8 i).flatMap (ao h)).length<=7*i:=by
 intro l_;induction l_ with
 |zero =>
  exact F7
 |succ i ih_ =>
  have:=ih_;have:=yc i (h.hr i);rw[iw,uK,aa];have:(List.flatMap (ao h) [i]).length=(eT i (h.hr i)).length+3:=by rw[zf,za,bw];delta ao;rw[aa];rfl
  lia
theorem KI(h:A8)(H:jZ h){c:Nat}(a:h.n<c):∀i,i<=h.w->((C8 i).flatMap (bN h)).length<=c*i:=by
 intro l_;induction l_ with
 |zero =>
  intro _;exact F7
 |succ i ih_ =>
  intro hi;have:=ih_ el;obtain⟨d,e,b⟩:=H.f i v5;rw[iw,uK,aa,Nat.mul_succ];have:(List.flatMap (bN h) [i]).length<=c:=by
   rw[zf,za,bw];delta bN GZ;rw[X9,E7,rj];lia
  exact yU v5 v5
theorem Kn(h:A8)(H:jZ h):kl [y6 h]=U (.own ((y9 h).map Q6)):=by
 have:=H.n;have:=H.w;refine M5 rfl ?_;refine u6 rfl ?_;have u:∃b a,J3 (E9 Y9 (f6 (u4 E5 (t6 0) (fC (.int 0))) u5)) (Y0 2 (D6 2 (D6 3 Y1))) gB [sd (y6 h),U (.own []),J,J]
   = U (.next [sd (y6 h),U (.own (((C8 h.n).flatMap (ao h)).map Q6)),b,a]):=by
  delta J3;rw[show E9 Y9 (f6 (u4 E5 (t6 0) (fC (.int 0))) u5) [sd (y6 h),U (.own []),J,J]=U (S6 0 (h.hs.map B6))from rfl,z9]
  obtain⟨q,r,b,a,o⟩:=ck (gt:=Y0 2 (D6 2 (D6 3 Y1))) (ds:=[sd (y6 h),U (.own []),J,J])
   (λi f=>∃b a,f=[sd (y6 h),U (.own (((C8 i).flatMap (ao h)).map Q6)),b,a]) ⟨J,J,rfl⟩ (by
    rintro i d f m ⟨b,a,e⟩;subst e;rw[rT,O1]at m;have k:i<h.n:=by
     rcases EL i h.n with z|z
     exact z;rw[uM z]at m;cases m
    rw[K7 k]at m;have t:h.hr i=h.hs[i]:=by simp_all
    have j:=Uw h H k (l:=(C8 i).flatMap (ao h)) (by have:=zK h i;lia);rw[t]at j;cases m;rw[show(i:Int)=0+i from(X7 _).symm]at j
    refine⟨_,_,rfl,.inl j,sd (.int (0+i)),sd (B6 h.hs[i]),?_⟩;rw[iw,uK,zf,za,bw])
  rw[wX,E7]at o;exact⟨b,a,by rw[r,o]⟩
 obtain⟨b,a,v⟩:=u;refine u6 v ?_;have s:∃g,J3 (E9 R4 (f6 (f9 F6 (f6 (u4 E5 (t6 0) (fC (.int 2))) u5)) u5)) (K5 2) gA [sd (y6 h),U (.own (((C8 h.n).flatMap (ao h)).map Q6)),b,a]
   = U (.next [sd (y6 h),U (.own ((y9 h).map Q6)),g,a]):=by
  have p:E9 R4 (f6 (f9 F6 (f6 (u4 E5 (t6 0) (fC (.int 2))) u5)) u5) [sd (y6 h),U (.own (((C8 h.n).flatMap (ao h)).map Q6)),b,a]=U (bc 0 h.w):=by
   show R4 [.int (((h.ws.map cI).length))]=_;rw[E7,bS u3];rfl
  delta J3;rw[p,z9];obtain⟨q,r,g,o⟩:=rO (gt:=K5 2) (n:=h.w) (ds:=[sd (y6 h),U (.own (((C8 h.n).flatMap (ao h)).map Q6)),b,a])
   (λi f=>∃g,f=[sd (y6 h),U (.own (((C8 h.n).flatMap (ao h)++(C8 i).flatMap (bN h)).map Q6)),g,a]) ⟨b,by simp⟩ (by
    rintro i f k ⟨g,e⟩;subst e;have:=zK h h.n;have:=KI h H (c:=1001) (zc v5) i el;have j:=Uv h H k (l:=(C8 h.n).flatMap (ao h)++(C8 i).flatMap (bN h)) (by rw[aa];lia) a;rw[show(i:Int)=0+i from(X7 _).symm]at j
    refine⟨_,_,rfl,.inl j,sd (.int (0+i)),?_⟩;rw[iw,uK,zf,za,bw,zg])
  exact⟨g,by rw[r,o];rfl⟩
 obtain⟨g,p⟩:=s;exact u6 p rfl
def kZ(x:Hr):Q2:=(if x.need-x.V0<0 then -(x.need-x.V0)else x.need-x.V0,1)
def N0(h:A8):List Q2:=h.hs.map kZ++C2 h.hs.length (h.start,1)++h.ws.map λw=>(w.aH,1)
theorem CG(n:Nat)(x:f7):(C2 n [x]).flatten=C2 n x:=by simp
theorem aE{ds:Ds}{pv:PV}(h:G ds=U pv):E8 G ds=U (.ret pv):=by delta E8;rw[h];rfl
theorem LB(h:A8)(H:jZ h):lu [y6 h]=U (.own ((N0 h).map fr)):=by
 have:=H.n;have:=H.w;refine M5 rfl ?_;refine u6 (A0 (ar rfl (by rw[E7];exact C3 v5 f5) (comp_map λx _=>⟨_,rfl,rfl⟩)) rfl) ?_
 have b:f9 F6 (f6 (u4 E5 (t6 0) (fC (.int 0))) u5) [sd (y6 h),sd (.list (h.hs.map λx=>fr (kZ x))),J]=sd (.int h.n):=by
  show F6 [.tuple (h.hs.map B6)]=_;delta F6 d1;simp
 refine u6 (A0 (pv:=.own (C2 h.n (fr (h.start,1)))) ((Q9 rfl b).trans ?_) rfl) ?_;show fw (.list [fr (h.start,1)]) (.int h.n)=_;delta fw;simp only[X9,jV,gw];rw[t2 ⟨⟨by simp[*],C3 v5 f5⟩,by lia⟩,CG]
 . have c:A2 (L5 (u4 E5 (t6 0) (fC (.int 2)))) B3 A5 mU [sd (y6 h),sd (.list (h.hs.map λx=>fr (kZ x))),sd (.list (C2 h.n (fr (h.start,1))))]=U (.own (h.ws.map λw=>fr (w.aH,1))):=
     ar rfl (by rw[E7];exact pJ) (comp_map λx _=>⟨_,rfl,rfl⟩)
   have a:u4 F9 (t6 1) (t6 2) [sd (y6 h),sd (.list (h.hs.map λx=>fr (kZ x))),sd (.list (C2 h.n (fr (h.start,1))))]=U (.own ((h.hs.map λx=>fr (kZ x))++C2 h.n (fr (h.start,1)))):=by refine(Q9 rfl rfl).trans ?_;exact t2 (by rw[E7,ro];lia)
   refine aE ((Q9 (f:=F9) a c).trans ?_);refine(t2 (by rw[aa,E7,E7,ro];lia)).trans ?_;delta N0;simp only[cy,fz,OW];rfl
theorem Yo(p q:Q2):S5 (fr p) (fr q)=sd (.bool (decide (p=q))):=by
 have a:(if aT (fr p)=Uf/\aT (fr q)=Uf then U (PV.dat (.bool (!PyData.eqv (fr p) (fr q))))else J)=U (PV.dat (.bool (decide (p≠q)))):=(HQ p q);show(if aT (fr p)=Uf/\aT (fr q)=Uf then U (PV.dat (.bool (V8 (fr p) (fr q))))else J)=_
 simp_all
def qj(x:Hr):Str:=if x.V0<=x.need then "lacked" else "spilt"
def W9(h:A8):List (List Key):=((C8 h.hs.length).map λt=>k2 (qj (h.hs.getD t Z1)) t)++((C8 h.hs.length).map λt=>k2 "level" t)++(C8 h.ws.length).map λj=>k2 "undone" j
theorem tK(g:b9->f7)(a:b9)(l:List b9):l.map g=rl l.length λi=>g (l.getD i a):=by
 refine ra (by simp[rl]) λi d e=>?_
 have c:i<l.length:=by simpa using d
 simp[K7 c]
theorem yC{Fa Fb:DV}{ds:Ds}(a:Fa ds=U g)(b:Fb ds=U R):f6 Fa (f6 Fb u5) ds=U [g.d,R.d]:=by delta f6;rw[a,z9,b,z9];rfl
theorem a1w(h:A8)(t:Nat)(x:Hr)(ds:Ds):kn (sd (.int ((t:Nat):Int))::sd (B6 x)::ds)=sd (N3 (k2 (qj x) t)):=by
 have b:fN (A1 (u4 S5 (f9 fe (f6 (t6 1) u5)) (y4 (f6 (fC (.int 1)) (f6 (fC (.int 1)) u5))))) (fC (.str "lacked")) (fC (.str "spilt")) (sd (.int t)::sd (B6 x)::ds)=sd (.str (qj x)):=by
  have a:u4 S5 (f9 fe (f6 (t6 1) u5)) (y4 (f6 (fC (.int 1)) (f6 (fC (.int 1)) u5))) (sd (.int t)::sd (B6 x)::ds)=sd (.bool (decide (Q8 x=(1,1)))):=
   (Q9 (x:=.dat (fr (Q8 x))) (y:=.dat (fr (1,1))) (qF x) rfl).trans (Yo _ _)
  delta fN A1;rw[a];delta qj Q8;by_cases e:x.V0<=x.need;rw[t2 e,t2 e];rfl;rw[s9 e,s9 e];rfl
 refine(D3 (λo=>yI o _) (yC b rfl)).trans ?_;rfl
theorem Tc(h:A8)(H:jZ h):fg [y6 h]=U (.own ((W9 h).map N3)):=by
 have:=H.n;have:=H.w;refine M5 rfl ?_;refine u6 (A0 (ar (items:=rl h.n λt=>.tuple [.int (0+t),B6 (h.hr t)]) ?_ (by rw[J8];exact C3 v5 f5) (O7 λt b=>⟨[.int (0+t),B6 (h.hr t)],.dat (N3 (k2 (qj (h.hr t)) t)),rfl,?_,rfl⟩)) rfl) ?_;show U (S6 0 (h.hs.map B6))=_;rw[tK B6 Z1,vD];rw[show(0:Int)+t=t from X7 _];exact a1w h t _ _
 have d:∀a,E9 R4 (f6 (f9 F6 (f6 (u4 E5 (t6 0) (fC (.int 0))) u5)) u5) (sd (y6 h)::a)=U (bc 0 h.n):=λa=>by
  show R4 [.int (((h.hs.map B6).length))]=_;rw[E7,bS u3];rfl
 have f:∀a,E9 R4 (f6 (f9 F6 (f6 (u4 E5 (t6 0) (fC (.int 2))) u5)) u5) (sd (y6 h)::a)=U (bc 0 h.w):=λa=>by
  show R4 [.int (((h.ws.map cI).length))]=_;rw[E7,bS u3];rfl
 refine u6 (A0 (ar (d _) (by rw[qu];exact C3 v5 f5) (sf λt b=>⟨.dat (N3 (k2 "level" t)),?_,rfl⟩)) rfl) ?_;exact dD (by rw[show(0:Int)+t=t from X7 _];rfl)
 have e:A2 (E9 R4 (f6 (f9 F6 (f6 (u4 E5 (t6 0) (fC (.int 2))) u5)) u5)) B3 A5 km [sd (y6 h),sd (.list (rl h.n λt=>N3 (k2 (qj (h.hr t)) t))),sd (.list (rl h.n λt=>N3 (k2 "level" t)))]=U (.own (rl h.w λj=>N3 (k2 "undone" j))):=
  ar (f _) (by rw[qu];exact pJ) (sf λt b=>⟨.dat (N3 (k2 "undone" t)),dD (by rw[show(0:Int)+t=t from X7 _];rfl),rfl⟩)
 have c:u4 F9 (t6 1) (t6 2) [sd (y6 h),sd (.list (rl h.n λt=>N3 (k2 (qj (h.hr t)) t))),sd (.list (rl h.n λt=>N3 (k2 "level" t)))]=U (.own ((rl h.n λt=>N3 (k2 (qj (h.hr t)) t))++rl h.n λt=>N3 (k2 "level" t))):=by refine(Q9 rfl rfl).trans ?_;exact t2 (by rw[J8,J8];lia)
 refine aE ((Q9 c e).trans ?_);refine(t2 (by rw[aa,J8,J8,J8];lia)).trans ?_;delta W9;simp only[cy,fz];rfl
theorem Ud(x y:Key):V8 (cj x) (cj y)=decide (x=y):=by rw[qY,decide_eq_true_iff];cases x<;>cases y<;>simp[cj,V8]
theorem Ef:∀a b:List Key,uB (a.map cj) (b.map cj)=decide (a=b)
 | [],[]=>by rfl
 | [],_::_=>by rfl
 |_::_,[]=>by rfl
 |x::a,y::b=>by rw[C6,C6,uB,Ud,Ef a b];simp
def Qs(k:List Key):Prop:=∀s:Str,(gY s:Key)∈k->EJ s=Uf
theorem Dw:∀a:List Key,Qs a->gu (a.map cj)=Uf:=by
 intro l_;induction l_ with
 |nil =>
  intro _;rfl
 |cons x a ih_ =>
  intro h;rw[C6,gu,ih_ λs b=>h s (C4 _ b)]
  cases x with
  |inl i=>rfl
  |inr s=>simp[cj,fT,h s C9]
theorem Tq:∀ks:List (List Key),(∀k∈ks,Qs k)->gu ((ks.map N3).map un)=Uf:=by
 intro l_;induction l_ with
 |nil =>
  intro _;rfl
 |cons k ks ih_ =>
  intro h;rw[C6,C6,gu,ih_ λa b=>h a (C4 _ b)];show(fT (.tuple (k.map cj))&&Uf)=Uf;rw[fT,Dw k (h k C9)];rfl
theorem Ul:∀a:List Key,Fg (a.map cj)<=1:=by
 intro l_;induction l_ with
 |nil =>
  simp[Fg]
 |cons x a ih_ =>
  have:=ih_;rw[C6,Fg];cases x<;>simp[cj,EI]<;>omega
theorem NC(k:List Key):∀ks:List (List Key),(((ks.map N3).map un).findIdx? λe=>V8 e (un (N3 k)))=ks.findIdx? λa=>decide (a=k):=by
 intro l_;induction l_ with
 |nil =>
  exact rfl
 |cons a ks ih_ =>
  rw[C6,C6,OV,OV,ih_];have:V8 (un (N3 a)) (un (N3 k))=decide (a=k):=by
   show V8 (.tuple (a.map cj)) (.tuple (k.map cj))=_;rw[V8,Ef]
  rw[this]
theorem Nk{ks:List (List Key)}(b:∀a∈ks,Qs a)(l:ks.length<=1000000)(c:ks[m]? = U b4)(k:ks.Nodup):kH (.list (ks.map N3)) [N3 b4]=sd (.int (m:Int)):=by
 show Ai (.list ((ks.map N3).map un)) [un (N3 b4)]=_
 delta Ai;have g:(un (N3 b4)).canLay0=Uf:=by
  show fT (.tuple (b4.map cj))=Uf;rw[fT,Dw b4 (b b4 (pq c))]
 have f:(un (N3 b4)).depth<=10:=by
  have:=Ul b4;show EI (.tuple (b4.map cj))<=10;rw[EI];exact pd v5 f5
 simp only;rw[t2 ⟨Tq ks b,g,f,by rw[E7,E7];exact l⟩,NC]
 have:(ks.findIdx? λa=>decide (a=b4))=U m:=by
  obtain⟨h,d⟩:=List.getElem?_eq_some_iff.mp c;rw[List.findIdx?_eq_some_iff_getElem];refine⟨h,iq d,λi n=>?_⟩;simp only[uH];intro e;have:=(OQ k).mp (e.trans d.symm);lia
 rw[this];rfl
theorem lJ{s':Str}(h:k2 B m=k2 s' l):B=s'/\m=l:=by
 injection h with h1 h2
 injection h1 with h1
 injection h2 with h2 _
 injection h2 with h2
 exact⟨h1,by lia⟩
theorem a2R{s':Str}(t t':Nat)(h:B≠s'):k2 B t≠k2 s' t':=λe=>h (lJ e).1
theorem Yg(h:A8)(t:Nat):(ao h t).Pairwise λa b=>a.k≠b.k:=by
 have e:∀l:List Ch,(l.map (·.k)).Nodup->l.Pairwise λa b=>a.k≠b.k:=λl f=>List.pairwise_map.mp f;have p:∀c:List Str,c.Nodup->(c.map λs=>k2 s t).Nodup:=λc d=>List.pairwise_map.mpr (d.imp λz=>a2R t t z)
 refine e _ ?_;delta ao eT dN cF;cases(h.hr t).line with
 |none=>exact p ["lacked","spilt","filled","taken","level"] A9
 |some l=>exact p ["lacked","spilt","bought","given","filled","taken","level"] A9
theorem tT(h:A8)(t:Nat)(a:c6∈ao h t):∃s:Str,s∈(["lacked","spilt","bought","given","filled","taken","level"]:List Str)/\c6.k=k2 s t:=by
 unfold ao eT dN cF at a;cases hl:(h.hr t).line with
 |none =>
  rw[hl]at a;simp only[bx,bu,T4,cz,ag]at a;rcases a with rfl|rfl|rfl|rfl|rfl<;>exact⟨_,by grind,rfl⟩
 |some l =>
  rw[hl]at a;simp only[bx,bu,T4,cz,ag]at a;rcases a with rfl|rfl|rfl|rfl|rfl|rfl|rfl<;>exact⟨_,by grind,rfl⟩
theorem sW(h:A8)(j:Nat)(a:c6∈bN h j):c6.k=k2 "undone" j\/∃i,c6.k=[.inr "worked",.inl (((h.wk j).first.toNat+i:Nat):Int),.inl (j:Int)]:=by
 rcases List.mem_cons.mp a with rfl|a
 exact .inl rfl;obtain⟨i,_,rfl⟩:=mem_map.mp a;exact .inr ⟨i,rfl⟩
theorem Wb(h:A8)(j:Nat):(bN h j).Pairwise λa b=>a.k≠b.k:=by
 refine List.Pairwise.cons (λx c=>?_) ?_;obtain⟨i,_,rfl⟩:=mem_map.mp c;intro e;have:=D3 mh e;simp[cJ,vN,k2]at this;refine List.pairwise_map.mpr ((Fz).imp λ{a b} ne e=>?_);simp only[vN]at e;exact ne u3
theorem pL(h:A8):((y9 h).map (·.k)).Nodup:=by
 refine List.pairwise_map.mpr ?_;refine List.pairwise_append.mpr ⟨?_,?_,?_⟩;refine List.pairwise_flatMap.mpr ⟨λt _=>Yg h t,(Fz).imp λ{a b} ne x c y d e=>?_⟩;obtain⟨s,_,g⟩:=tT h a c;obtain⟨m,_,f⟩:=tT h b d;rw[g,f]at e;exact ne (lJ e).2
 . refine List.pairwise_flatMap.mpr ⟨λt _=>Wb h t,(Fz).imp λ{a b} ne x c y d e=>?_⟩
   rcases sW h a c with g|⟨i,g⟩<;>rcases sW h b d with f|⟨n,f⟩<;>rw[g,f]at e
   exact ne (lJ e).2;have:=D3 mh e;simp[k2]at this;have:=D3 mh e;simp[k2]at this;simp only[List.cons.injEq]at e;exact ne u3
 . intro x c y d e;obtain⟨t,_,c⟩:=List.mem_flatMap.mp c;obtain⟨j,_,d⟩:=List.mem_flatMap.mp d;obtain⟨s,l,g⟩:=tT h t c;rcases sW h j d with f|⟨i,f⟩<;>rw[g,f]at e
   rw[(lJ e).1]at l;exact absurd l A9;have:=D3 mh e;simp[k2]at this
theorem MZ(t:Nat)(h:EJ B=Uf):Qs (k2 B t):=λz a=>by
 unfold k2 at a
 simp_all
theorem Yc(h:A8):∀k∈(y9 h).map (·.k),Qs k:=by
 intro k d;obtain⟨x,a,rfl⟩:=mem_map.mp d;rcases List.mem_append.mp a with a|a
 . obtain⟨t,_,a⟩:=List.mem_flatMap.mp a;obtain⟨s,c,e⟩:=tT h t a;rw[e];have:∀s∈(["lacked","spilt","bought","given","filled","taken","level"]:List Str),EJ s=Uf:=by decide +kernel
   exact MZ t (this s c)
 . obtain⟨j,_,a⟩:=List.mem_flatMap.mp a;rcases sW h j a with e|⟨i,e⟩
   rw[e];exact MZ j A9;rw[e];intro z b;simp only[T4,cz,ag,Sum.inr.injEq,reduceCtorEq]at b;rw[b];decide +kernel
def fm(m n:Nat)(M:Nat->Nat->f7):PV:=.ob J (.seq Uf (kz ((C8 m).map λp=>PF.own (rl n (M p)))))
def rA(M:Nat->Nat->f7)(p j:Nat)(d:f7):Nat->Nat->f7:=λa b=>if a=p/\b=j then d else M a b
theorem ZI(f:Nat->f7)(d:f7):(rl m f).set l d=rl m λb=>if b=l then d else f b:=by
 refine ra (by simp[rl]) λi a c=>?_;simp only[FA,qZ,FN];by_cases e:l=i;rw[t2 e,t2 e.symm];rw[s9 e,s9 λz=>e z.symm]
theorem Rc{j:Nat}{M:Nat->Nat->f7}{Fv:DV}{ds:Ds}(c:ds[2]? = U (U (fm m l M)))(f:O<m)(h:j<l)(n:G ds=sd (.int (O:Int)))(p:v ds=sd (.int (j:Int)))(o:Fv ds=U g):
  vB 2 G v Fv ds=U (.next (ds.set 2 (U (fm m l (rA M O j g.d))))):=by
 have k:zN 2 O ds=U (J,kz ((C8 m).map λO=>PF.own (rl l (M O))),md,O,rl l (M O)):=by
  delta zN;rw[c];simp only[fm];rw[jb (by simp[kz];exact f),z9];simp[kz,f]
 delta vB;rw[o,n,p];show((zN 2 O ds).bind λx=>(jy x.2.2.2.2.length j).bind λj=>U (Out.next (ds.set 2 (U (.ob x.1 (.seq Uf (x.2.1.set x.2.2.2.1 (x.2.2.1,.own (x.2.2.2.2.set j g.d)))))))))=_
 rw[k,z9];rw[J8,jb h,z9,ZI];have e:(kz ((C8 m).map λO=>PF.own (rl l (M O)))).set O (md,PF.own (rl l λb=>if b=j then g.d else M O b))=kz ((C8 m).map λa=>PF.own (rl l (rA M O j g.d a))):=by
  delta kz;refine ra B9 λi q c=>?_;simp only[FA,qZ,FN];by_cases z:O=i;subst z;delta rA;simp;rw[s9 z];delta rA;have:∀b,(if i=O/\b=j then g.d else M i b)=M i b:=λb=>s9 λy=>z y.1.symm;simp only[this]
 rw[e];rfl
def foldM(j:Nat)(ns:List (Nat×Q2))(M:Nat->Nat->f7):Nat->Nat->f7:=ns.foldl (λM e=>rA M e.1 j (fr e.2)) M
theorem WI(f:O<l){d1 d4:Option PV}:∀(ns:List (Nat×Q2)) (M:Nat->Nat->f7) (a b:Option PV),(∀e∈ns,e.1<m) ->
  ∃c d,aF (Y0 2 (D6 5 (D6 6 Y1))) lz (ns.map oj) [a8,d1,U (fm m l M),sd (.int (O:Int)),d4,a,b]=U (.next [a8,d1,U (fm m l (foldM O ns M)),sd (.int (O:Int)),d4,c,d]):=by
 intro l_;induction l_ with
 |nil =>
  intro M a b _;exact⟨a,b,rfl⟩
 |cons e ns ih_ =>
  intro M a b h;obtain⟨c,d,k⟩:=ih_ (rA M e.1 O (fr e.2)) (sd (.int e.1)) (sd (fr e.2)) λx g=>h x (C4 _ g)
  refine⟨c,d,?_⟩;have i:lz [a8,d1,U (fm m l M),sd (.int O),d4,sd (.int e.1),sd (fr e.2)]=U (.next [a8,d1,U (fm m l (rA M e.1 O (fr e.2))),sd (.int O),d4,sd (.int e.1),sd (fr e.2)]):=
   Rc (Fv:=t6 6) (ds:=[a8,d1,U (fm m l M),sd (.int O),d4,sd (.int e.1),sd (fr e.2)]) rfl (h e C9) f rfl rfl rfl
  rw[C6,P2 rfl i,k];rfl
def wc:Ch:=⟨[],⟨(0,1),(0,1),(0,1)⟩,J,[]⟩
def allM(C:List Ch):Nat->Nat->Nat->f7
 | 0=>λ_ _=>fr (0,1)
 |j+1=>foldM j (C.getD j wc).ns (allM C j)
theorem WJ(N:m<=100000)(K:d6.length<=100000)(v:∀x∈d6,∀e∈x.ns,e.1<m):pY [.list (d6.map Q6),.int (m:Int)]=U (fm m d6.length (allM d6 d6.length)):=by
 refine M5 rfl ?_;refine u6 (ds1:=[sd (.list (d6.map Q6)),sd (.int m),U (fm m d6.length (allM d6 0)),J,J,J,J]) ?_ ?_
 . have w:lQ (E9 R4 (f6 (t6 1) u5)) B3 du [sd (.list (d6.map Q6)),sd (.int m),J,J,J,J,J]=U (fm m d6.length (allM d6 0)):=by
     have I:∀d:f7,du (sd d::[sd (.list (d6.map Q6)),sd (.int m),J,J,J,J,J])=U (.own (rl d6.length λ_=>fr (0,1))):=λd=>by
      have r:f9 F6 (f6 (t6 1) u5) (sd d::[sd (.list (d6.map Q6)),sd (.int m),J,J,J,J,J])=sd (.int d6.length):=by
       show F6 [.list (d6.map Q6)]=_;delta F6 d1;simp
      refine(Q9 rfl r).trans ?_;show fw (.list [fr (0,1)]) (.int d6.length)=_;delta fw;simp only[X9,jV];rw[t2 ⟨⟨by simp[*],by simp[*]⟩,by simp[*]⟩,CG]
      congr 2
      refine ra (by simp[rl]) λi L M=>?_;simp[rl]
     have B:∀l:List Nat,yr B3 du [sd (.list (d6.map Q6)),sd (.int m),J,J,J,J,J] (l.map λk=>.int (0+(k:Nat)))=U (l.map λ_=>PF.own (rl d6.length λ_=>fr (0,1))):=λl=>by
      induction l with
      |nil=>rfl
      |cons a l E =>
       show((du (sd (.int (0+a))::[sd (.list (d6.map Q6)),sd (.int m),J,J,J,J,J])).bind λy=>(ig y).bind λp=>(yr B3 du _ (l.map λk=>.int (0+(k:Nat)))).bind λl=>U (p::l))=_;rw[I,E];rfl
     delta lQ;rw[show E9 R4 (f6 (t6 1) u5) [sd (.list (d6.map Q6)),sd (.int m),J,J,J,J,J]=U (bc 0 m) by
      show R4 [.int m]=_
      rw[bS u3];rfl,z9,t2 (by rw[qu];exact C3 v5 f5)]
     rw[show bc 0 m=(C8 m).map λk=>Z7 (0+(k:Nat))from rfl,B];rfl
   exact D3 (λo=>JW o 2 _) w
 have F:∃f g b c,J3 (E9 Y9 (f6 (t6 0) u5)) (Y0 2 (D6 3 (D6 4 Y1))) ly [sd (.list (d6.map Q6)),sd (.int m),U (fm m d6.length (allM d6 0)),J,J,J,J]
   = U (.next [sd (.list (d6.map Q6)),sd (.int m),U (fm m d6.length (allM d6 d6.length)),f,g,b,c]):=by
  delta J3;rw[show E9 Y9 (f6 (t6 0) u5) [sd (.list (d6.map Q6)),sd (.int m),U (fm m d6.length (allM d6 0)),J,J,J,J]=U (S6 0 (d6.map Q6))from rfl,z9]
  obtain⟨u,D,f,g,b,c,t⟩:=ck (gt:=Y0 2 (D6 3 (D6 4 Y1))) (G:=ly) (items:=S6 0 (d6.map Q6))
   (λi s=>∃f g b c,s=[sd (.list (d6.map Q6)),sd (.int m),U (fm m d6.length (allM d6 i)),f,g,b,c]) ⟨J,J,J,J,rfl⟩ (by
    rintro i d s h ⟨f,g,b,c,e⟩;subst e;rw[rT,O1]at h;have j:i<d6.length:=by
     rcases EL i d6.length with z|z
     exact z;rw[uM z]at h;exact nE h
    rw[K7 j]at h;have q:d6.getD i wc=d6[i]:=by rw[iz,K7 j];rfl
    obtain⟨A,H,n⟩:=WI j d6[i].ns (allM d6 i) b c (v d6[i] (rd j));rw[<-q]at n;rw[show(i:Int)=0+i from(X7 _).symm]at n;rw[q]at n;cases h;refine⟨_,_,rfl,.inl n,sd (.int (0+i)),sd (Q6 d6[i]),A,H,?_⟩;show _=[_,_,U (fm m d6.length (foldM i (d6.getD i wc).ns (allM d6 i))),_,_,_,_]
    rw[q])
  rw[wX,E7]at t;exact⟨f,g,b,c,by rw[D,t]⟩
 obtain⟨f,g,b,c,r⟩:=F;exact u6 r rfl
def Dg(ns:List (Nat×Q2))(o:f7)(a:Nat):f7:=ns.foldl (λo e=>if a=e.1 then fr e.2 else o) o
theorem TU(j:Nat):∀(ns:List (Nat×Q2)) (M:Nat->Nat->f7) (a b:Nat),foldM j ns M a b=if b=j then Dg ns (M a b) a else M a b:=by
 intro l_;induction l_ with
 |nil =>
  intro M a b;split<;>rfl
 |cons e ns ih_ =>
  intro M a b;show foldM j ns (rA M e.1 j (fr e.2)) a b=if b=j then Dg ns (if a=e.1 then fr e.2 else M a b) a else M a b;rw[ih_];delta rA;by_cases h:b=j;rw[t2 h,t2 h];by_cases c:a=e.1;rw[t2 ⟨c,h⟩,t2 c];rw[s9 (λz=>c z.1),s9 c];rw[s9 h,s9 h,s9 (λz=>h z.2)]
theorem YD(C:List Ch):∀(n a j:Nat),allM C n a j=if j<n then Dg (C.getD j wc).ns (fr (0,1)) a else fr (0,1):=by
 intro l_;induction l_ with
 |zero =>
  intro a j;rfl
 |succ n ih_ =>
  intro a j;show foldM n (C.getD n wc).ns (allM C n) a j=_;rw[TU,ih_ a j];by_cases h:j=n;subst h;rw[t2 rfl,s9 (aB _),t2 (rh _)];rw[s9 h];by_cases b:j<n;rw[t2 b,t2 eS];rw[s9 b,s9 u3]
def ls(f:Ch->Rat):List Ch->Rat
 | []=>0
 |x::l=>f x+ls f l
theorem qB(f:Ch->Rat):∀a b,ls f (a++b)=ls f a+ls f b:=by
 intro l_;induction l_ with
 |nil =>
  intro b;show ls f b=0+ls f b;grind
 |cons x a ih_ =>
  intro b;show f x+ls f (a++b)=f x+ls f a+ls f b;rw[ih_ b];grind
theorem a0X(f:Ch->Rat)(C:List Ch):∀n,n<=C.length->w5 (λj=>f (C.getD j wc)) n=ls f (C.take n):=by
 intro l_;induction l_ with
 |zero =>
  intro _;rfl
 |succ n ih_ =>
  intro h;show w5 _ n+f (C.getD n wc)=_;rw[ih_ el,List.take_add_one,qB,iz,K7 v5];show _=_+(f (C[n])+0);grind
theorem vr(f:Ch->Rat)(g:Nat->List Ch):∀n,ls f ((C8 n).flatMap g)=w5 (λt=>ls f (g t)) n:=by
 intro l_;induction l_ with
 |zero =>
  exact rfl
 |succ n ih_ =>
  rw[iw,uK,qB,ih_];show _+ls f (g n++[])=_;rw[bw];rfl
theorem MR(f:Ch->Rat)(g:Nat->Ch):∀n,ls f ((C8 n).map g)=w5 (λi=>f (g i)) n:=by
 intro l_;induction l_ with
 |zero =>
  exact rfl
 |succ n ih_ =>
  rw[iw,cy,qB,ih_];show _+(f (g n)+0)=_+f (g n);grind
theorem vh{g:Nat->Rat}(a b:Nat):∀n,w5 (λi=>if a=b+i then g i else 0) n=if b<=a/\a<b+n then g (a-b)else 0:=by
 intro l_;induction l_ with
 |zero =>
  rw[s9 B4];rfl
 |succ n ih_ =>
  show w5 _ n+(if a=b+n then g n else 0)=_;rw[ih_];by_cases h:a=b+n;rw[t2 h,s9 B4,t2 B4,show a-b=n by simp[*]];grind;rw[s9 h];by_cases c:b<=a/\a<b+n;rw[t2 c,t2 u3];grind;rw[s9 c,s9 u3];grind
theorem Wo{g:Nat->Rat}(s:Nat):∀n,w5 (λi=>if i<=s then g i else 0) n=w5 g (if n<=s then n else s+1):=by
 intro l_;induction l_ with
 |zero =>
  rfl
 |succ n ih_ =>
  show w5 _ n+(if n<=s then g n else 0)=_;rw[ih_];by_cases h:n+1<=s;rw[t2 el,t2 el,t2 h];rfl;rw[s9 h];by_cases a:n=s;rw[t2 (oQ v5),t2 (oQ v5),a];rfl;rw[s9 u3,s9 u3];grind
def fJ(ns:List (Nat×Q2))(o:Q2)(a:Nat):Q2:=ns.foldl (λo e=>if a=e.1 then e.2 else o) o
theorem XN(a:Nat):∀(ns:List (Nat×Q2)) (o:Q2),Dg ns (fr o) a=fr (fJ ns o a):=by
 intro l_;induction l_ with
 |nil =>
  intro _;exact rfl
 |cons e ns ih_ =>
  intro o;show Dg ns (if a=e.1 then fr e.2 else fr o) a=fr (fJ ns (if a=e.1 then e.2 else o) a)
  rw[<-ih_];split<;>rfl
theorem a0N(b:Nat)(q o:Q2)(p:Nat):∀n,fJ ((C8 n).map λi=>(b+i,q)) o p=if b<=p/\p<b+n then q else o:=by
 intro l_;induction l_ with
 |zero =>
  rw[s9 B4];rfl
 |succ n ih_ =>
  rw[iw,cy];delta fJ;rw[OS];show(if p=b+n then q else fJ _ o p)=_;rw[ih_];by_cases h:p=b+n;rw[t2 h,t2 B4];rw[s9 h];by_cases a:b<=p/\p<b+n;rw[t2 a,t2 u3];rw[s9 a,s9 u3]
theorem HJ(c:l<m)(a q:Q2)(p:Nat):fJ ((l,a)::ia m l q) q0 p=if p=l then a else if m+l<=p/\p<2*m then q else q0:=by
 show fJ (ia m l q) (if p=l then a else q0) p=_;delta ia;rw[a0N];by_cases h:p=l;rw[s9 u3,t2 h,t2 h];rw[s9 h,s9 h];by_cases b:m+l<=p/\p<2*m;rw[t2 b,t2 u3];rw[s9 b,s9 u3]
structure Pl where
 lk:Nat->Rat
 sp:Nat->Rat
 bo:Nat->Rat
 gv:Nat->Rat
 fl:Nat->Rat
 tk:Nat->Rat
 lv:Nat->Rat
 un:Nat->Rat
 wk:Nat->Nat->Rat
variable{P:Pl}
def AJ(t j:Nat):List Key:=[.inr "worked",.inl (t:Int),.inl (j:Int)]
structure Ag(h:A8)(Y:List Key->Rat)(P:Pl):Prop where
 lk:∀t,Y (k2 "lacked" t)=P.lk t
 sp:∀t,Y (k2 "spilt" t)=P.sp t
 bo:∀t,(h.hs.getD t Z1).line≠J->Y (k2 "bought" t)=P.bo t/\Y (k2 "given" t)=P.gv t
 nl:∀t,(h.hs.getD t Z1).line=J->P.bo t=0/\P.gv t=0
 fl:∀t,Y (k2 "filled" t)=P.fl t
 tk:∀t,Y (k2 "taken" t)=P.tk t
 lv:∀t,Y (k2 "level" t)=P.lv t
 un:∀j,Y (k2 "undone" j)=P.un j
 wk:∀t j,Y (AJ t j)=P.wk t j
def jq(x:Hr):Rat:=if x.V0<=x.need then 1 else -1
theorem dC(n:Int):val (n,1)=(n:Rat):=val_one n
theorem wy(x:Hr):val (Q8 x)=jq x:=by delta Q8 jq;split<;>rw[dC]<;>rfl
theorem vc(x:Hr):val (outF x) = - jq x:=by
 delta outF jq;split<;>rw[dC]
 rfl;rfl
def iF(Y:List Key->Rat)(p:Nat)(x:Ch):Rat:=val (fJ x.ns q0 p)*Y x.k
theorem eR{c:Prop}[Decidable c](a b:Q2):val (if c then a else b)=if c then val a else val b:=by split<;>rfl
theorem a1p(A:Ag d L P)(H:jZ d)(Y:m<d.n)(p:Nat):ls (iF L p) (ao d m) =
  (if p=m then jq (d.hr m)*(P.lk m+P.bo m+val d.left*P.tk m-P.sp m-P.gv m-P.fl m)else 0)+(if d.n+m<=p/\p<2*d.n then P.tk m-val d.kept*P.fl m else 0)+if p=d.n+m then P.lv m else 0:=by
 have g:∀q:Q2,fJ [(m,q)] q0 p=if p=m then q else q0:=λ_=>rfl;have o:fJ [(d.n+m,((1,1)))] q0 p=if p=d.n+m then(1,1)else q0:=rfl
 have u:val (P1 (Q8 (d.hr m)) d.left)=jq (d.hr m)*val d.left:=by rw[sX (by delta Q8;split<;>decide) H.l.pos,wy]
 have s:val (fL (0,1) d.kept) = - val d.kept:=by rw[AL f5 H.k.pos,show val (0,1)=0 from bO];grind
 have r:ls (iF L p) (cF d m)=(if p=m then jq (d.hr m)*(val d.left*P.tk m-P.fl m)else 0)+(if d.n+m<=p/\p<2*d.n then P.tk m-val d.kept*P.fl m else 0)+if p=d.n+m then P.lv m else 0:=by
  delta cF;simp only[ls,iF];rw[HJ Y,HJ Y,o,A.fl,A.tk,A.lv,eR,eR,eR,eR,eR,u,s,(dC 1),vc,bO];by_cases e:p=m;rw[t2 e,t2 e,t2 e,s9 u3,s9 u3,s9 u3];grind
  . rw[s9 e,s9 e,s9 e];by_cases f:d.n+m<=p/\p<2*d.n
    . rw[t2 f,t2 f,t2 f];split<;>grind
    . rw[s9 f,s9 f,s9 f];split<;>grind
 delta ao eT dN;rw[qB,r];cases hl:(d.hr m).line with
 |none =>
  obtain⟨j,i⟩:=A.nl m hl;simp only[bw,ls,iF];rw[g,g,A.lk,A.sp,eR,eR,wy,vc,bO,j,i];by_cases e:p=m;rw[t2 e,t2 e,t2 e,t2 e];grind;rw[s9 e,s9 e,s9 e,s9 e];grind
 |some l =>
  obtain⟨a,b,c,h⟩:=l;obtain⟨j,i⟩:=A.bo m (by rw[hl];simp);simp only[bx,bu,ls,iF];rw[g,g,A.lk,A.sp,j,i,eR,eR,wy,vc,bO];by_cases e:p=m;rw[t2 e,t2 e,t2 e,t2 e];grind;rw[s9 e,s9 e,s9 e,s9 e];grind
abbrev dA(h:A8)(j:Nat):Nat:=(h.ws.getD j eQ).first.toNat
abbrev qq(h:A8)(j:Nat):Nat:=GZ (h.ws.getD j eQ)
noncomputable def Ce(h:A8)(P:Pl)(s:Nat):Rat:=w5 (λj=>if dA h j<=s/\s<dA h j+qq h j then P.wk s j else 0) h.ws.length
theorem YW(A:Ag d L P)(H:jZ d)(g:m<d.w)(p:Nat):ls (iF L p) (bN d m) =
  (if p=2*d.n+m then P.un m+w5 (λi=>P.wk (dA d m+i) m) (qq d m)else 0)+if dA d m<=p/\p<dA d m+qq d m then-jq (d.hr p)*P.wk p m else 0:=by
 have:=H.f m g;show iF L p (cJ d m)+ls _ _=_;have h:fJ [(2*d.n+m,((1,1)))] q0 p=if p=2*d.n+m then(1,1)else q0:=rfl
 have c:=dC 1;have l:iF L p (cJ d m)=if p=2*d.n+m then P.un m else 0:=by
  show val (fJ [(2*d.n+m,(1,1))] q0 p)*L (k2 "undone" m)=_
  rw[h,A.un,eR,c,bO];split<;>grind
 have e:∀i,i<qq d m->iF L p (vN d m (dA d m+i))=(if p=2*d.n+m then P.wk (dA d m+i) m else 0)+if p=dA d m+i then-jq (d.hr (dA d m+i))*P.wk (dA d m+i) m else 0:=λi k=>by
  have:i<((d.wk m).last+1-(d.wk m).first).toNat:=k;show val (if p=2*d.n+m then(1,1)else if p=dA d m+i then outF (d.hr (dA d m+i))else q0)*L (AJ (dA d m+i) m)=_;rw[A.wk,eR,eR,c,bO,vc];by_cases a:p=2*d.n+m;rw[t2 a,t2 a,s9 u3];grind
  . rw[s9 a,s9 a];split<;>grind
 rw[l,MR,E6 _ e,de,vh];by_cases b:dA d m<=p/\p<dA d m+qq d m
 . have:p<d.n:=by
     have:p<dA d m+((d.wk m).last+1-(d.wk m).first).toNat:=b.2;lia
   rw[E6 _ λi _=>s9 u3,lF];grind
 rw[s9 b,s9 b];by_cases a:p=2*d.n+m;rw[t2 a,t2 a,E6 _ λi _=>t2 a];grind;rw[s9 a,s9 a,E6 _ λi _=>s9 a,lF];grind
theorem zG(A:Ag d L P)(H:jZ d)(p:Nat):ls (iF L p) (y9 d)=w5 (λt=>(if p=t then jq (d.hr t)*(P.lk t+P.bo t+val d.left*P.tk t-P.sp t-P.gv t-P.fl t)else 0)+(if d.n+t<=p/\p<2*d.n then P.tk t-val d.kept*P.fl t else 0)+if p=d.n+t then P.lv t else 0) d.n +
  w5 (λj=>(if p=2*d.n+j then P.un j+w5 (λi=>P.wk (dA d j+i) j) (qq d j)else 0)+if dA d j<=p/\p<dA d j+qq d j then-jq (d.hr p)*P.wk p j else 0) d.w:=by delta y9;rw[qB,vr,vr,E6 _ λt b=>a1p A H b p,E6 _ λj a=>YW A H a p]
theorem Hh{g:Nat->Rat}(a:Nat)(h:a<m):w5 (λi=>if a=i then g i else 0) m=g a:=by
 have:=vh (g:=g) a 0 m;rw[t2 B4]at this;rw[<-E6 m λi _=>by rw[qS]]at this;exact this
theorem W7{f:Nat->Rat}(h:∀i,i<m->f i=0):w5 f m=0:=by rw[E6 m h,lF]
theorem ZG(A:Ag d L P)(H:jZ d)(hs:m<d.n):ls (iF L m) (y9 d)=jq (d.hr m)*(P.lk m+P.bo m+val d.left*P.tk m-P.sp m-P.gv m-P.fl m-Ce d P m):=by
 rw[zG A H,de,de,Hh m hs,
  W7 λt _=>s9 u3,W7 λt _=>s9 (R8 (M8 v5 (jW _ _))),de,
  W7 λt _=>s9 u3]
 have:w5 (λj=>if dA d j<=m/\m<dA d j+qq d j then-jq (d.hr m)*P.wk m j else 0) d.w=Ce d P m * - jq (d.hr m):=by delta Ce;rw[ez];exact E6 _ λj _=>by split<;>grind
 grind
theorem UW(H:jZ d)(a:m<d.w)(b:d.n<=l):¬(dA d m<=l/\l<dA d m+qq d m):=by
 have:=H.f m a;show ¬(_/\l<(d.wk m).first.toNat+((d.wk m).last+1-(d.wk m).first).toNat);lia
theorem ZF(A:Ag d L P)(H:jZ d)(hs:m<d.n):ls (iF L (d.n+m)) (y9 d)=P.lv m-w5 (λt=>val d.kept*P.fl t-P.tk t) (m+1):=by
 rw[zG A H,de,de,W7 λt _=>s9 u3,de,
  W7 (f:=λj=>if d.n+m=2*d.n+j then P.un j+w5 (λi=>P.wk (dA d j+i) j) (qq d j)else 0) λt _=>s9 u3,
  W7 λj b=>s9 (UW H b B4)]
 have h:w5 (λt=>if d.n+m=d.n+t then P.lv t else 0) d.n=P.lv m:=by rw[vh,t2 B4,show d.n+m-d.n=m by simp[*]]
 have a:w5 (λt=>if d.n+t<=d.n+m/\d.n+m<2*d.n then P.tk t-val d.kept*P.fl t else 0) d.n=w5 (λt=>P.tk t-val d.kept*P.fl t) (m+1):=by
  have:=Wo (g:=λt=>P.tk t-val d.kept*P.fl t) m d.n;rw[s9 B4]at this;rw[<-this];refine E6 _ λt _=>?_;by_cases c:t<=m;rw[t2 c,t2 u3];rw[s9 c,s9 B4]
 rw[h,a,rD,rD];grind
theorem ZE(A:Ag d L P)(H:jZ d)(b:m<d.w):ls (iF L (2*d.n+m)) (y9 d)=P.un m+w5 (λi=>P.wk (dA d m+i) m) (qq d m):=by
 rw[zG A H,W7 λt c=>by rw[s9 u3,s9 B4,s9 u3];grind,de,
  W7 λi a=>s9 (UW H a u3),
  vh,t2 B4,show 2*d.n+m-2*d.n=m by simp[*]]
 grind
def bY(x:Hr):Int:=match x.line with
 |none=>0
 |some l=>l.1
def bX(x:Hr):Int:=match x.line with
 |none=>0
 |some l=>l.2.2.1
noncomputable def cV(h:A8)(P:Pl):Nat->Rat
 | 0=>w5 P.lk h.hs.length
 | 1=>w5 P.un h.ws.length
 |_=>w5 (λt=>(bY (h.hs.getD t Z1):Rat)*P.bo t-(bX (h.hs.getD t Z1):Rat)*P.gv t) h.hs.length-(h.rest:Rat)*P.lv (h.hs.length-1)
def se(Y:List Key->Rat)(i:Nat)(x:Ch):Rat:=val (S8 x.c i)*Y x.k
theorem Up(A:Ag d L P)(Y:1<=d.n)(o:m<3):ls (se L m) (y9 d)=cV d P m:=by
 have z:=bO;have h:=dC 1;have a:∀q j,(∀c,se L m ⟨(cJ d j).k,Zb,c,(cJ d j).ns⟩=q)->ls (se L m) (bN d j)=q:=λq j e=>by
  show se L m (cJ d j)+ls _ _=_;rw[MR,W7 λt _=>?_,show se L m (cJ d j)=q from e _];grind;show val (S8 ⟨(0,1),(0,1),(0,1)⟩ m)*_=0;rw[show val (S8 ⟨(0,1),(0,1),(0,1)⟩ m)=0 by rcases(by lia:m=0\/m=1\/m=2)with rfl|rfl|rfl<;>exact bO];grind
 delta y9;rw[qB,vr,vr];rcases(by lia:m=0\/m=1\/m=2)with rfl|rfl|rfl
 . rw[W7 λj _=>a 0 j λc=>by show val (0,1)*_=0;rw[z];grind,E6 (g:=P.lk) _ λt _=>?_];show _+0=w5 P.lk _;grind
   . delta ao eT dN cF;cases(d.hr t).line<;>simp only[bx,bu,ls,se,S8,Dx,nr,A.lk]<;>grind
 . rw[E6 _ λj _=>a (P.un j) j λc=>by show val (1,1)*L (k2 "undone" j)=_;rw[h,A.un];grind,W7 λt _=>?_];show 0+_=w5 P.un _;grind
   . delta ao eT dN cF;cases(d.hr t).line<;>simp only[bx,bu,ls,se,S8,Dx,nr]<;>grind
 . rw[W7 λj _=>a 0 j λc=>by show val (0,1)*_=0;rw[z];grind,
     E6 (g:=λt=>((bY (d.hr t))*P.bo t-(bX (d.hr t))*P.gv t)-(if t+1=d.n then d.rest*P.lv t else 0)) _ λt _=>?_,rD]
   . have:w5 (λt=>if t+1=d.n then d.rest*P.lv t else 0) d.n=d.rest*P.lv (d.n-1):=by
       rw[<-Hh (g:=λt=>d.rest*P.lv t) (d.n-1) (show d.n-1<d.n by omega)];refine E6 _ λt _=>?_;by_cases c:t+1=d.n;rw[t2 c,t2 u3];rw[s9 c,s9 u3]
     show _+0=_-_;grind
   . have:((-wY d t:Int))*P.lv t = - if t+1=d.n then d.rest*P.lv t else 0:=by
       delta wY;split;rw[yY];grind;show 0*_=_;grind
     delta ao eT dN cF bY bX;cases hl:(d.hr t).line with
     |none =>
      obtain⟨f,b⟩:=A.nl t hl;simp only[bx,bu,ls,se,S8,Dx,nr,dC,A.lv];grind
     |some l =>
      obtain⟨f,b⟩:=A.bo t (by rw[hl];simp);simp only[bx,bu,ls,se,S8,Dx,nr,dC,A.lv];grind
structure J2(h:A8):Prop where
 n1:1<=h.hs.length
 n4:h.hs.length<=12
 w2:h.ws.length<=2
 k:D2 4 h.kept
 k0:0<h.kept.1/\h.kept.1<=h.kept.2
 l:D2 4 h.left
 l0:0<h.left.1/\h.left.1<=h.left.2
 st:0<=h.start/\h.start<=h.size/\h.size<=1000000
 fl:0<=h.fill/\h.fill<=1000000
 tk:0<=h.take/\h.take<=1000000
 re:0<=h.rest/\h.rest<=1000
 hr:∀t,t<h.hs.length->0<=(h.hs.getD t Z1).V0/\(h.hs.getD t Z1).V0<=1000000/\0<=(h.hs.getD t Z1).need/\(h.hs.getD t Z1).need<=1000000
 ln:∀t a b c d,t<h.hs.length->(h.hs.getD t Z1).line=U (a,b,c,d)->(-1000<=a/\a<=1000)/\(0<=b/\b<=1000000)/\(-1000<=c/\c<=1000)/\0<=d/\d<=1000000
 wk:∀j,j<h.ws.length->0<=(h.ws.getD j eQ).aH/\(h.ws.getD j eQ).aH<=1000000/\0<=(h.ws.getD j eQ).most/\(h.ws.getD j eQ).most<=1000000
 f:∀j,j<h.ws.length->0<=(h.ws.getD j eQ).first/\(h.ws.getD j eQ).first<=(h.ws.getD j eQ).last/\(h.ws.getD j eQ).last<(h.hs.length:Int)
abbrev hD(h:A8):Int:=h.kept.2*h.left.2
abbrev hM(h:A8):Nat:=2*h.hs.length+h.ws.length
abbrev CB(q:Q2):Prop:=q.2=1/\-1000<=q.1/\q.1<=1000
structure a4J(h:A8)(x:Ch):Prop where
 ns:∀e∈x.ns,e.1<hM h/\D2 4 e.2/\e.2.2∣hD h
 tp:∀q,x.t=U q->q.2=1/\0<=q.1/\q.1<=1000000
 c:∀t,t<3->CB (S8 x.c t)
 fr:x.t=J->x.c=ku/\∃t,x.k=k2 "spilt" t
theorem J2.s(H:J2 d):jZ d:=⟨H.k.mono f5,H.l.mono f5,by have:=H.n4;exact pJ,by have:=H.w2;exact pJ,H.f⟩
theorem xq{P:Q2->Prop}(f:P b7.a)(g:P b7.b)(d:P b7.c):∀t,t<3->P (S8 b7 t):=λt e=>by rcases(by lia:t=0\/t=1\/t=2)with rfl|rfl|rfl<;>assumption
theorem sj(H:J2 d):∀x∈y9 d,a4J d x:=by
 have one:1∣hD d:=⟨hD d,by simp[*]⟩
 have B:∀y:Hr,(D2 4 (Q8 y)/\(Q8 y).2∣hD d)/\D2 4 (outF y)/\(outF y).2∣hD d:=λy=>by delta Q8 outF;split<;>exact⟨⟨⟨by decide,by decide,⟨by decide⟩,⟨by decide⟩⟩,one⟩,⟨by decide,by decide,⟨by decide⟩,⟨by decide⟩⟩,one⟩
 have o:CB (0,1):=by decide
 have O:CB (1,1):=by decide
 have C:∀t,t<3->CB (S8 ⟨(0,1),(0,1),(0,1)⟩ t):=xq o o o;have I:∀p:Int,-1000<=p->p<=1000->∀t,t<3->CB (S8 (nr p) t):=λp m L=>xq o o ⟨rfl,m,L⟩
 have s:∀{v:Int},0<=v->v<=1000000->∀q:Q2,U (v,1)=U q->q.2=1/\0<=q.1/\q.1<=1000000:=λm L q e=>by cases e;exact⟨rfl,m,L⟩
 have F:D2 4 ((1,1))/\((1,1)).2∣hD d:=⟨⟨by decide,by decide,⟨by decide⟩,⟨by decide⟩⟩,one⟩
 have m:∀{p:Nat} {q:Q2},p<hM d->D2 4 q/\q.2∣hD d->∀e∈[(p,q)],e.1<hM d/\D2 4 e.2/\e.2.2∣hD d:=λW hq e r=>by rw[mem_singleton.mp r];exact⟨W,hq⟩
 have u:∀{t:Nat} {a q:Q2},t<d.n->D2 4 a/\a.2∣hD d->D2 4 q/\q.2∣hD d->∀e∈(t,a)::ia d.n t q,e.1<hM d/\D2 4 e.2/\e.2.2∣hD d:=λA T hq e r=>by
  rcases List.mem_cons.mp r with rfl|r
  exact⟨by show _<_;lia,T⟩;obtain⟨i,G,rfl⟩:=mem_map.mp r;have:=mem_range.mp G;exact⟨by show _<_;lia,hq⟩
 have:=H.k.pos;have:=H.l.pos;have mk:D2 4 (fL (0,1) d.kept)/\(fL (0,1) d.kept).2∣hD d:=by
  have w:0<1*d.kept.2:=by lia
  refine⟨iI w ?_ ?_,hI (ak w).2.2.2 ⟨d.left.2,by rw[dF]⟩⟩;exact(H.k.bt.mono f5).of_le (by show(0*d.kept.2-d.kept.1*1).natAbs<=_;simp[*]);exact(H.k.bb.mono f5).of_le (by show(1*d.kept.2).natAbs<=_;simp[*])
 have S:∀y:Hr,D2 4 (P1 (Q8 y) d.left)/\(P1 (Q8 y) d.left).2∣hD d:=λy=>by
  have M:(Q8 y).2=1:=by delta Q8;split<;>rfl
  have w:0<(Q8 y).2*d.left.2:=by rw[M];simp[*]
  refine⟨iI w ((H.l.bt.mono f5).of_le (by delta Q8;split<;>simp)) ?_,hI (ak w).2.2.2 ⟨d.kept.2,by rw[M,dF,K8]⟩⟩;exact(H.l.bb.mono f5).of_le (by rw[M];lia)
 intro x g;rcases List.mem_append.mp g with g|g
 . obtain⟨t,A,g⟩:=List.mem_flatMap.mp g;have A:=mem_range.mp A;obtain⟨s0,s1,Q,Y⟩:=H.hr t A;have E:t<hM d:=by lia
   rcases List.mem_append.mp g with g|g
   . rcases List.mem_append.mp g with g|g
     . simp only[T4,cz,ag]at g;rcases g with rfl|rfl
       exact⟨m E (B _).1,s Q Y,xq O o o,λz=>by exact nS z⟩;exact⟨m E (B _).2,(λq z=>by exact nE z),C,λ_=>⟨rfl,t,rfl⟩⟩
     . unfold dN at g;cases hl:(d.hr t).line with
       |none=>rw[hl]at g;cases g
       |some l =>
        obtain⟨a,b,c,h⟩:=l;obtain⟨⟨N,K⟩,⟨w,X⟩,⟨V,c1⟩,R,P⟩:=H.ln t a b c h A hl;rw[hl]at g;simp only[T4,cz,ag]at g;rcases g with rfl|rfl
        exact⟨m E (B _).1,s w X,I a N K,λz=>by exact nS z⟩;exact⟨m E (B _).2,s R P,I (-c) u3 u3,λz=>by exact nS z⟩
   . unfold cF at g;have:=H.re;simp only[T4,cz,ag]at g;rcases g with rfl|rfl|rfl
     exact⟨u A (B _).2 mk,s H.fl.1 H.fl.2,C,λz=>by exact nS z⟩;exact⟨u A (S _) F,s H.tk.1 H.tk.2,C,λz=>by exact nS z⟩;exact⟨m u3 F,s (cQ H.st.1 H.st.2.1) H.st.2.2,I _ (by delta wY;split<;>lia) (by delta wY;split<;>lia),λz=>by exact nS z⟩
 . obtain⟨j,D,g⟩:=List.mem_flatMap.mp g;have D:=mem_range.mp D;obtain⟨N,K,m0,m1⟩:=H.wk j D;obtain⟨f0,Z,f2⟩:=H.f j D;rcases List.mem_cons.mp g with rfl|g
   exact⟨m u3 F,s N K,xq o O o,λz=>by exact nS z⟩
   . obtain⟨i,G,rfl⟩:=mem_map.mp g;have G:i<((d.wk j).last+1-(d.wk j).first).toNat:=mem_range.mp G;refine⟨λe r=>?_,s m0 m1,C,λz=>by exact nS z⟩
     unfold vN at r;simp only[T4,cz,ag]at r;rcases r with rfl|rfl
     exact⟨by show _<_;lia,(B _).2⟩;exact⟨by show _<_;lia,F⟩
abbrev bV(h:A8):List (List Key):=(y9 h).map (·.k)
abbrev cO(h:A8)(j:Nat):Ch:=(y9 h).getD j wc
def kA(h:A8)(k:List Key):Nat:=(bV h).findIdx λa=>decide (a=k)
noncomputable def z0(h:A8):G6:=⟨hM h,(y9 h).length,λj=>(cO h j).c,λp j=>fJ (cO h j).ns q0 p,λp=>(N0 h).getD p q0,λj=>(cO h j).t,λk=>kA h ((W9 h).getD k [])⟩
theorem gi(a:m<(y9 d).length):cO d m∈y9 d:=by simp_all
theorem MI(a:Nat):∀(ns:List (Nat×Q2)) (o:Q2),fJ ns o a=o\/∃e∈ns,fJ ns o a=e.2
 | [],_=>.inl rfl
 |e::ns,o=>by
  rcases MI a ns (if a=e.1 then e.2 else o)with z|⟨b,c,d⟩
  show fJ ns (if a=e.1 then e.2 else o) a=o\/∃b∈e::ns,fJ ns (if a=e.1 then e.2 else o) a=b.2;rw[z];split;exact .inr ⟨e,C9,rfl⟩;exact .inl rfl;exact .inr ⟨b,C4 _ c,d⟩
theorem getD_at{l:List b9}{a d:b9}(h:l[m]? = U a):l.getD m d=a:=by simp_all
theorem VB(a:m<d.n):d.hs[m]? = U (d.hr m):=by simp_all
theorem a2p(a:m<d.w):d.ws[m]? = U (d.wk m):=by simp_all
theorem Vm(hs:m<d.n):(N0 d).getD m q0=kZ (d.hr m):=by
 refine getD_at ?_;delta N0;rw[iy (by simp;exact OE _ v5),iy (by simpa using hs),O1,VB hs];rfl
theorem Vl(hs:m<d.n):(N0 d).getD (d.n+m) q0=(d.start,1):=by
 refine getD_at ?_;delta N0;rw[iy (by simp;omega),ny B9];simp[hs]
theorem Vk(a:m<d.w):(N0 d).getD (2*d.n+m) q0=((d.wk m).aH,1):=by
 refine getD_at ?_;delta N0;rw[ny (by simp;lia),aa,E7,ro,show 2*d.n+m-(d.n+d.n)=m by omega,O1,a2p a];rfl
theorem zM(c:m<hM d):m<d.n\/(∃s,s<d.n/\m=d.n+s)\/∃j,j<d.w/\m=2*d.n+j:=by
 by_cases a:m<d.n;exact .inl a;by_cases b:m<2*d.n;exact .inr (.inl ⟨m-d.n,by lia,by simp_all⟩);exact .inr (.inr ⟨m-2*d.n,by lia,by simp_all⟩)
theorem BP(H:J2 d)(c:m<hM d):((N0 d).getD m q0).2=1/\0<=((N0 d).getD m q0).1/\((N0 d).getD m q0).1<=1000000:=by
 rcases zM c with a|⟨s,a,rfl⟩|⟨j,b,rfl⟩
 . rw[Vm a];have:=H.hr m a;delta kZ;refine⟨rfl,?_,?_⟩<;>dsimp only<;>split<;>lia
 rw[Vl a];have:=H.st;exact⟨rfl,by simp[*],by lia⟩;rw[Vk b];have:=H.wk j b;exact⟨rfl,by simp only[*];done,by simp only[*];done⟩
theorem wV(H:J2 d){k:Nat}(i:k<hM d):∃x∈y9 d,x.k=(W9 d).getD k []/\x.ns=[(k,(1,1))]/\∀q,x.t=U q->((N0 d).getD k q0).1<=q.1:=by
 have b:∀{t:Nat},t<d.n->∀{x:Ch},x∈ao d t->x∈y9 d:=λf x g=>U7 _ (List.mem_flatMap.mpr ⟨_,mem_range.mpr f,g⟩)
 rcases zM i with a|⟨s,a,rfl⟩|⟨j,h,rfl⟩
 . have e:(W9 d).getD k []=k2 (qj (d.hr k)) k:=by
     refine getD_at ?_;delta W9;rw[iy (by simp;exact OE _ v5),iy (by simpa using a),O1,ph a];rfl
   rw[e,Vm a];delta qj kZ;have:=H.hr k a;by_cases c:(d.hr k).V0<=(d.hr k).need
   . rw[t2 c];refine⟨_,b a (U7 _ (U7 _ C9)),rfl,?_,λq z=>?_⟩;show[(k,Q8 _)]=_;delta Q8;rw[t2 c]
     . cases z;split<;>lia
   rw[s9 c];refine⟨_,b a (U7 _ (U7 _ (C4 _ C9))),rfl,?_,λq z=>by exact nE z⟩;delta outF;rw[s9 c]
 . have e:(W9 d).getD (d.n+s) []=k2 "level" s:=by
     refine getD_at ?_;delta W9;rw[iy (by simp;omega),ny B9];simp[a]
   rw[e,Vl a];refine⟨_,b a (L9 _ (C4 _ (C4 _ C9))),rfl,rfl,λq z=>?_⟩;cases z;exact H.st.2.1
 . have e:(W9 d).getD (2*d.n+j) []=k2 "undone" j:=by
     refine getD_at ?_;delta W9;rw[ny (by simp;lia)];simp only[aa,E7,rj];rw[show 2*d.n+j-(d.n+d.n)=j by lia,O1,ph h];rfl
   rw[e,Vk h];refine⟨cJ d j,L9 _ (List.mem_flatMap.mpr ⟨j,mem_range.mpr h,C9⟩),rfl,rfl,λq z=>?_⟩;cases z;exact jS _
theorem XO{d:List b9}(n:d.Nodup)(a:m<d.length)(b:l<d.length)(e:d[m]=d[l]):m=l:=by
 have p:=List.pairwise_iff_getElem.mp n;rcases Nat.lt_trichotomy m l with c|c|c
 exact absurd e (p m l a b c);exact c;exact absurd e.symm (p l m b a c)
theorem uc(a:m<(y9 d).length):cO d m=(y9 d)[m]:=by simp_all
theorem DF(c:b4∈bV d):kA d b4<(y9 d).length/\(cO d (kA d b4)).k=b4:=by
 have b:kA d b4<(bV d).length:=List.findIdx_lt_length_of_exists ⟨b4,c,by simp⟩
 have a:kA d b4<(y9 d).length:=by simpa using b
 refine⟨a,?_⟩;have:=oX (List.findIdx_getElem (w:=b));rw[uc a];exact(qZ (l:=y9 d) (·.k)).symm.trans this
theorem Na(a:m<(y9 d).length):kA d (cO d m).k=m:=by
 have c:(cO d m).k∈bV d:=mem_map.mpr ⟨_,gi a,rfl⟩;obtain⟨b,h⟩:=DF c;refine XO (pL d) (by simpa using b) (by simpa using a) ?_;rw[qZ,qZ,<-uc b,<-uc a];exact h
theorem yy(b:c6∈y9 d):kA d c6.k<(y9 d).length/\cO d (kA d c6.k)=c6:=by obtain⟨i,a,rfl⟩:=List.mem_iff_getElem.mp b;rw[<-uc a,Na a];exact⟨a,rfl⟩
open Sx (sN pN sm det G9 dot)
theorem xo(h:FD D M o)(hd:o.2∣E)(a:0<E):((wh o E).natAbs:Int)<=M*E:=by
 have p:=h.pos;have d:((wh o E).natAbs)*o.2=o.1.natAbs*E:=by
  have:=D3 Int.natAbs (xn h.pos hd);rw[dH,dH]at this;have c:(((wh o E).natAbs*o.2.natAbs:Nat):Int)=((o.1.natAbs*E.natAbs:Nat)):=by rw[this]
  rw[Int.natCast_mul,Int.natCast_mul,rn (U6 p),rn (U6 a)]at c;exact c
 have:o.2*((wh o E).natAbs)<=o.2*(M*E):=by rw[K8 o.2,d];refine cQ (jM h.vR (U6 a)) (Int.le_of_eq ?_);rw[K8 M,P7]
 exact zw this p
theorem Ew(h:(D.natAbs:Int)<=M)(b:Bt m M):Bt m D:=b.of_le u3
section
variable{T:Sx.Tb}
theorem Small.bits(S:Small f C l)(K:Sx.Ok (f.pb C) T){β ω:Nat}(y:∀p,p<f.m->Bt β (C p))(w:∀j v,j<f.n->f.lim j=U v->Bt β v)(D:∀t j,t<3->j<f.n->Bt ω (f.wt t j))(g:1<=β):
  Bt (l*f.m+1) T.size/\(∀a k,a<f.n->k<f.m->Bt (l*f.m+l+1) (T.w9 (f.pb C) a k))/\(∀k,k<f.m->Bt (l*f.m+(β+l+22)+1) (T.am (f.pb C) k))/\∀t q,t<3->q<f.m->Bt (ω+(l*f.m+12)+10) (T.pr t q):=by
 have L:=K.J4;have c:∀k q,k<f.m->q<f.m->Bt (l*f.m+12) (T.inv k q):=λk q e hq=>by
  have h:Sx.sN f.m (λr=>(Sx.unit q r).natAbs)<2 ^ (1+10):=xy S.m1 λi _=>by delta Sx.unit;split<;>decide
  have:=S.det L e (fA h);rw[Sx.rV _ hq]at this;exact this
 have rt:∀p,p<f.m->Bt (β+l+12) (T.rt p):=λp Q=>by
  rw[K.rt p Q];have g:Bt (β+(l+1)+10) (Sx.fsum (f.pb C) T λj=>(f.pb C).A j p):=Bt.sm S.n1 λj o=>by
   split
   . refine Bt.mul ?_ (S.col o Q);show Bt β ((f.lim j).getD 0)
     cases hl':f.lim j with
     |none=>exact Bt.mono ⟨by decide⟩ g
     |some v=>exact w j v o hl'
   exact Bt.mono (m:=1) ⟨by decide⟩ (Nat.succ_pos _)
  exact((y p Q).mono u3).sub (g.mono F3)
 refine⟨?_,λa k B e=>S.det L e (S.cn a B),λk e=>?_,λt q u hq=>?_⟩;obtain⟨s,g,x,E⟩:=L.sg;exact Bt.sign g x (AA (d:=0) (k:=f.m) (λi b _=>S.cn _ (L.bn i b)) (λz=>by simp_all));have h:=xy S.m1 λp Q=>(rt p Q).lt;exact S.det L e (fA h);rw[L.pr t q hq];exact Bt.sm S.m1 λk e=>(D t _ u (L.bn k e)).mul (c k q e hq)
end
theorem tW(H:J2 d):0<hD d/\hD d<=225:=by have:=H.k.bb.lt;have:=H.l.bb.lt;have h:=H.l.pos;refine⟨M7 H.k.pos h,?_⟩;exact cQ (EY (show d.kept.2<=15 by lia) (show d.left.2<=15 by omega) dO f5) f5
theorem xC(H:J2 d)(a:l<(y9 d).length):D2 4 ((z0 d).row m l)/\((z0 d).row m l).2∣hD d:=by
 rcases MI m (cO d l).ns q0 with z|⟨e,b,z⟩
 show D2 4 (fJ (cO d l).ns q0 m)/\(fJ (cO d l).ns q0 m).2∣_;rw[z];exact⟨qI f5,⟨hD d,by show _=1*_;simp[*]⟩⟩;show D2 4 (fJ (cO d l).ns q0 m)/\(fJ (cO d l).ns q0 m).2∣_;rw[z];exact((sj H _ (gi a)).ns e b).2
theorem lp{b:Int}(a:Bt m b)(d : -b<=D)(c:D<=b):Bt m D:=a.of_le u3
theorem DU(f:1<=m)(d:Bt m D)(h:o.2=1)(g : -D<=o.1)(e:o.1<=D):D2 m o:=by obtain⟨a,c⟩:=o;subst h;exact rH (lp d g e) f
theorem xr(H:J2 d)(h:m<(y9 d).length)(hq:(cO d m).t=U o):o.2=1/\0<=o.1/\o.1<=1000000/\D2 20 o:=by obtain⟨a,b,c⟩:=(sj H _ (gi h)).tp o hq;exact⟨a,b,c,DU f5 ⟨by decide⟩ a u3 c⟩
theorem jz(H:J2 d):F8 (z0 d) (hD d) 1 (hD d):=by
 obtain⟨l,y⟩:=tW H;have:=H.n4;have:=H.w2;have g:Bt 900 (hD d):=lp ⟨by decide⟩ u3 y;have:(z0 d).m=2*d.n+d.w:=rfl;refine⟨by lia,?_,l,by decide,l,g,⟨by decide⟩,g,λp j i f=>?_,λt j u f=>?_,λp i=>?_,λj q f hq=>?_,λk r=>?_⟩;show(y9 d).length<=1000;delta y9;rw[aa];have:=zK d d.n;have:=KI d H.s (c:=13) (zc v5) d.w F3;lia;exact⟨(xC H f).1.mono f5,(xC H f).2⟩;obtain⟨a,b,c⟩:=(sj H _ (gi f)).c t u;exact⟨DU f5 ⟨by decide⟩ a b c,⟨1,by show _=_*1;rw[show(S8 ((z0 d).cost j) t).2=1 from a];rfl⟩⟩;obtain⟨a,b,c⟩:=BP H i;exact⟨DU f5 ⟨by decide⟩ a (cQ f5 b) c,⟨hD d,by rw[show((z0 d).rg p).2=1 from a];simp[*]⟩⟩;obtain⟨a,b,c,h⟩:=xr H f hq;exact⟨h.mono f5,λs o=>by simp_all⟩;obtain⟨x,v,e,_⟩:=wV H r;show kA d ((W9 d).getD k [])<_;rw[<-e];exact(yy v).1
theorem a3c(h:D2 m o)(hd:o.2∣D):FD D (2 ^ m) o:=by
 refine⟨h.pos,h.low,hd,?_⟩;have:=h.bt.lt;have:=h.pos;have:(2 ^ m)*1<=2 ^ m*o.2:=jL v5 (U6 (Int.pow_pos f5));lia
theorem Zz{c:Nat}:∀(m:Nat) (f:Nat->Nat),(∀i,i<m->f i<=c)->Sx.sN m f<=m*c:=by
 intro l_;induction l_ with
 |zero =>
  intro f _;rw[Sx.sN];exact eX _
 |succ m ih_ =>
  intro f hf;have:=ih_ f λi a=>hf i eS;have:=hf m B4;rw[Sx.sN,Nat.add_mul];lia
theorem yb(H:J2 d):jY (z0 d) 17:=by
 have O:=jz H;obtain⟨C,D⟩:=tW H;have:=H.n4;have:=H.w2;have:(z0 d).m=2*d.n+d.w:=rfl;have s:∀k,k<(z0 d).m->∃x∈y9 d,cO d ((z0 d).fs k)=x/\x.ns=[(k,(1,1))]/\∀q,x.t=U q->((N0 d).getD k q0).1<=q.1:=λk h=>by
  obtain⟨x,g,e,a,b⟩:=wV H h;refine⟨x,g,?_,a,b⟩;show cO d (kA d ((W9 d).getD k []))=x;rw[<-e];exact(yy g).2
 have o:∀k p,k<(z0 d).m->p<(z0 d).m->(z0 d).row p ((z0 d).fs k)=if p=k then(1,1)else q0:=λk p h i=>by
  obtain⟨x,g,e,a,b⟩:=s k h;show fJ (cO d ((z0 d).fs k)).ns q0 p=_;rw[e,a];rfl
 refine⟨o,λk l h B e=>?_,λp i=>(BP H i).2.1,λj q f hq=>(xr H f hq).2.1,λk q h hq=>?_,λj f=>?_,by lia,by decide⟩;have u:=o k k h h;have r:=o l k B h;rw[t2 rfl,e]at u;rw[u]at r;by_cases c:k=l;exact c;rw[s9 c]at r;cases r
 . obtain⟨x,g,e,a,b⟩:=s k h;have:=xr H (O.fs k h) hq;have:=BP H h;have A:x.t=U q:=by rw[<-e];exact hq
   have:=b q A;show((N0 d).getD k q0).1*q.2<=q.1*((N0 d).getD k q0).2
   simp_all
 obtain⟨v,y,_,z⟩:=O.sc f;have:=gq C y;refine C3 (Zz (c:=3600) _ _ λp i=>?_) ?_;have:=xo (a3c (xC H f).1 (xC H f).2) (z p i) v;lia;have:(z0 d).m*3600<=26*3600:=pj _ u3;exact C3 v5 f5
theorem Ak(H:J2 d)(K:Sx.Ok (z0 d).pb d3):Bt 443 d3.size/\(∀k,k<(z0 d).m->Bt 515 (d3.am (z0 d).pb k))/\∀t q,t<3->q<(z0 d).m->Bt 482 (d3.pr t q):=by
 have O:=jz H;obtain⟨z,R⟩:=tW H;have:=H.n4;have:=H.w2;obtain⟨u1,u2,Q,C,E⟩:=O.un;have:=gq z u2;have:(z0 d).m=2*d.n+d.w:=rfl;have d:=(G6.side O (yb H)).s.bits K (β:=28) (ω:=18) (λp i=>by
   obtain⟨a,b,c⟩:=BP H i;have f:FD 1 1000000 ((z0 d).rg p):=⟨by show 0<((N0 d).getD p q0).2;simp_all,(O.rg p i).1.low,⟨1,by show 1=((N0 d).getD p q0).2*1;lia⟩,by show(((N0 d).getD p q0).1.natAbs)<=_*((N0 d).getD p q0).2;lia⟩;have:=xo f (C p i) u1;refine Ew (M:=225000000) ?_ ⟨by decide⟩;show((wh ((z0 d).rg p) (z0 d).un).natAbs:Int)<=_
   lia) (λj v e F=>by
   obtain⟨r,y,rfl⟩:=Option.map_eq_some_iff.mp F;have G:=E j r e y;obtain⟨q,hq,rfl⟩:=Option.map_eq_some_iff.mp y;obtain⟨x,o,_,_⟩:=O.sc e;obtain⟨a,b,c,h⟩:=xr H e hq;have u:FD (hD d) 1 (1,(z0 d).sc j):=⟨x,by simp,o,by show((1:Int).natAbs)<=1*(z0 d).sc j;lia⟩;have l:FD 1 1000000 q:=⟨by simp[*],h.low,⟨1,by simp[*]⟩,by lia⟩;have:=xo (l.times u) G u1;refine Ew (M:=225000000) ?_ ⟨by decide⟩
   lia) (λt j g e=>by
   obtain⟨x,o,_,_⟩:=O.sc e;have:=gq z o;obtain⟨m1,L,_,B⟩:=O.mu g;have:=gq f5 L;obtain⟨a,b,c⟩:=(sj H _ (gi e)).c t g;have l:FD 1 1000 (S8 ((z0 d).cost j) t):=⟨by show 0<(S8 (cO d j).c t).2;simp_all,(O.cost t j g e).1.low,⟨1,by show 1=(S8 (cO d j).c t).2*1;lia⟩,by show((S8 (cO d j).c t).1.natAbs)<=_*(S8 (cO d j).c t).2;lia⟩;have u:FD 1 225 ((z0 d).sc j,1):=⟨by simp,by simp,dV _,by show(((z0 d).sc j).natAbs:Int)<=225*1;lia⟩;refine Ew (M:=225000) ?_ ⟨by decide⟩;show((wh ((z0 d).wq t j) ((z0 d).mu t)).natAbs:Int)<=_;have:((wh ((z0 d).wq t j) ((z0 d).mu t)).natAbs)<=1000*225*(z0 d).mu t:=(xo (l.times u) (B j e) m1)
   lia) f5
 obtain⟨N,P,I,D⟩:=d;have:(z0 ‹A8›).L4.m=(z0 ‹A8›).m:=rfl;exact⟨N.mono u3,λk A=>(I k A).mono u3,λt q g hq=>(D t q g hq).mono u3⟩
def q2(x:Rat):Q2:=(x.num,(x.den:Int))
def qd(x:Rat):f7:=fr (q2 x)
theorem bU(x:Rat):0<(q2 x).2:=by have:=x.den_pos;show(0:Int)<x.den;simp[*]
theorem ZS(x:Rat):E4 (q2 x).1 (q2 x).2=1:=x.reduced
theorem fG(x:Rat):val (q2 x)=x:=by
 show x.num/((x.den:Int))=x;rw[<-Rat.divInt_eq_div,Rat.num_divInt_den]
theorem zT(h:0<z):0<z.num:=by
 have:=(Rat.lt_iff 0 z).mp h
 simp_all
theorem Oe(i:Int)(h:i.natAbs<=m):Bt m i:=⟨M8 Nat.lt_two_pow_self (Pq f5 h)⟩
theorem DW(a:0<o.2)(b:E4 o.1 o.2=1):D2 (o.1.natAbs+o.2.natAbs) o:=⟨a,b,Oe _ B4,Oe _ B4⟩
theorem ju{q:Q2}(a:0<q.2)(b:E4 q.1 q.2=1):q=q2 (val q):=val_inj (DW a b) (DW (bU _) (ZS _)) (fG _).symm
theorem ZR{t:Int}(a:0<D):I0 t D=q2 ((t:Rat)/(D:Rat)):=by obtain⟨d,c,_,_⟩:=ak a;rw[ju d c,fX a]
theorem Hz(x y:Rat):dE (q2 x) (q2 y)=q2 (x+y):=by
 obtain⟨b,a,_,_⟩:=ak (M7 (bU x) (bU y));have:=ju (q:=dE (q2 x) (q2 y)) b a
 rwa [QD (bU x) (bU y),fG,fG]at this
theorem Rt(x y:Rat):fL (q2 x) (q2 y)=q2 (x-y):=by
 obtain⟨b,a,_,_⟩:=ak (M7 (bU x) (bU y));have:=ju (q:=fL (q2 x) (q2 y)) b a
 rwa [AL (bU x) (bU y),fG,fG]at this
theorem CM(x y:Rat):P1 (q2 x) (q2 y)=q2 (x*y):=by
 obtain⟨b,a,_,_⟩:=ak (M7 (bU x) (bU y));have:=ju (q:=P1 (q2 x) (q2 y)) b a
 rwa [sX (bU x) (bU y),fG,fG]at this
theorem LH(x:Rat):(-(q2 x).1,(q2 x).2)=q2 (-x):=rfl
theorem CL(n:Int):dG [.int n,.int 1]=qd (n:Rat):=rfl
theorem Nf(x:Rat):E5 (qd x) (.int 0)=sd (.int x.num):=rfl
theorem a1l(x:Rat):E5 (qd x) (.int 1)=sd (.int x.den):=rfl
structure RO(x:Rat):Prop where
 f:D2 3000 (q2 x)
structure uW(D:Int):Prop where
 pos:0<D
 bt:Bt 1000 D
structure Sz(D M:Int)(x:Rat):Prop where
 f:FD D M (q2 x)
theorem Sz.m0(h:Sz D M z):0<=M:=by
 have:=h.f.vR;rcases eY M 0 with c|c
 have:=zv c h.f.pos;lia;exact c
theorem Sz.ok(h:Sz D M z)(hD:uW D)(hM:M<=2 ^ 200):RO z:=by
 have:=h.m0;have b:Bt 201 M:=by
  have x:Bt 201 (2 ^ 200):=⟨by decide⟩;exact x.of_le u3
 exact⟨h.f.a4A hD.pos (hD.bt.mono f5) ((b.mul hD.bt).mono f5)⟩
theorem Sz.mono{N:Int}(h:Sz D M z)(hd:D∣E)(a:M<=N):Sz E N z:=⟨h.f.mono hd a⟩
theorem Sz.add(b:Sz D M z)(a:Sz D E A):Sz D (M+E) (z+A):=⟨by rw[<-Hz];exact b.f.plus a.f⟩
theorem Sz.neg(a:Sz D M z):Sz D M (-z):=by
 refine⟨a.f.pos,?_,a.f.dvd,?_⟩;have:=a.f.low;rw[<-LH];rw[Int.neg_gcd];exact this
 . have:=a.f.vR;rw[<-LH]
   simp_all
theorem Sz.sub(b:Sz D M z)(a:Sz D E A):Sz D (M+E) (z-A):=by rw[Rat.sub_eq_add_neg];exact b.add a.neg
theorem Sz.mul{N:Int}(a:Sz D M z)(b:Sz E N A):Sz (D*E) (M*N) (z*A):=⟨by rw[<-CM];exact a.f.times b.f⟩
def mn(x y:Rat):Rat:=if x<y then x else y
theorem Sz.int(h:(E.natAbs:Int)<=M):Sz D M (E:Rat):=by
 refine⟨by show 0<1;decide,by show E4 E 1=1;simp,by show 1∣D;simp,?_⟩;show E.natAbs<=M*1;simp[*]
theorem Sz.zero(h:0<=M):Sz D M 0:=Sz.int (by simpa using h)
theorem KU(x y:Rat):nU (q2 x) (q2 y)=decide (x<y):=by rw[sY (bU x) (bU y),fG,fG]
theorem vo:RO 0:=⟨D2.mono (m:=2) ⟨by decide,by decide,⟨by decide⟩,⟨by decide⟩⟩ f5⟩
theorem DN(h:0<z):q2 z⁻¹=((q2 z).2,(q2 z).1):=by
 have a:E4 z.den z.num=1:=by rw[yN];exact z.reduced
 have:=ju (q:=(z.den,z.num)) (zT h) a;have e:val (z.den,z.num)=z⁻¹:=by
  have:=fG z;have:val (q2 z)=z.num/((z.den:Int)):=rfl;show((z.den:Int))/z.num=z⁻¹;grind
 rw[e]at this;exact this.symm
theorem a0L(h:0<z)(a:RO z):RO z⁻¹:=by refine⟨?_⟩;rw[DN h];exact⟨(zT h),by rw[yN];exact a.f.low,a.f.bb,a.f.bt⟩
theorem Za{q:Q2}(a:D2 m o)(hq:D2 l q)(h:m+l<=59999):U9 [fr o,fr q]=sd (.bool (nU o q)):=by have c:Bt 60000 o.1:=a.bt.mono (C3 xT f5);have b:Bt 60000 o.2:=a.bb.mono (C3 xT f5);have d:Bt 60000 q.1:=hq.bt.mono (C3 Dl f5);have e:Bt 60000 q.2:=hq.bb.mono (C3 Dl f5);delta U9;walk_at "r";simp only[D8,c,b,d,e];rfl
theorem vC(h:D2 m o):fr o=qd (val o):=by
 show fr o=fr (q2 (val o));rw[<-ju h.pos h.low]
theorem gb{y:Rat}(a:RO z)(b:RO y):Q5 [qd z,qd y]=sd (qd (z-y)):=by
 show Q5 [fr (q2 z),fr (q2 y)]=_;rw[MQ a.f b.f f5,Rt];rfl
theorem fZ{x:Rat}(a:RO x)(b:RO z):L3 [qd x,qd z]=sd (qd (x*z)):=by
 show L3 [fr (q2 x),fr (q2 z)]=_;rw[nW a.f b.f f5,CM];rfl
theorem vm(a:RO z)(b:RO A):U9 [qd z,qd A]=sd (.bool (decide (z<A))):=by
 show U9 [fr (q2 z),fr (q2 A)]=_;rw[Za a.f b.f f5,KU]
theorem a0z(g:RO z)(a:RO A)(h:0<A):uS [qd z,qd A]=sd (qd (z*A⁻¹)):=by
 have d:=zT h;have e:W3 [.int A.den,.int A.num]=sd (qd A⁻¹):=by
  rw[gR (b:=A.num) M4 (Bt.mono a.f.bt f5)];have:=ZR (t:=A.den) d;rw[this];have:((A.den:Int))/A.num=A⁻¹:=by have c:=fG A⁻¹;rw[DN h]at c;exact c
  rw[this];rfl
 delta uS;walk_at "r";rw[Nf];walk_at "r";rw[s9 (show ¬A.num=0 by exact M4)];walk_at "r";rw[a1l,Nf];walk_at "r";rw[e];walk_at "r";rw[fZ g (a0L h a)];walk_at "r"
def xG(κ f t:Rat):Rat:=if κ*f-t<0 then 0 else(κ*f-t)*κ⁻¹
def CP(κ f t:Rat):Rat:=if κ*f-t<0 then 0-(κ*f-t)else 0
theorem Ml(k:D2 m d.kept)(p:0<val d.kept)(s:RO z)(q:RO A)(j:RO (val d.kept))(l:RO (val d.kept*z))(g:RO (val d.kept*z-A)):
  su [K9 d,qd z,qd A]=sd (.tuple [qd (xG (val d.kept) z A),qd (CP (val d.kept) z A)]):=by
 have i:E5 (K9 d) (.int 4)=sd (qd (val d.kept)):=by
  show U (PV.dat (fr d.kept))=_;rw[vC k]
 have r:=gb l q;have n:=vm g vo;delta xG CP;generalize val d.kept*z-A=a at *;refine M5 rfl ?_;refine u6 (ds1:=[sd (K9 d),sd (qd z),sd (qd A),sd (qd a)]) (A0 (pv:=.dat (qd a)) ?_ rfl) ?_;show(((((E5 (K9 d) (.int 4)).bind λx=>U [x.d,qd z]).bind L3).bind λx=>U [x.d,qd A]).bind Q5)=_;rw[i,z9];show((((L3 [qd (val d.kept),qd z]).bind λx=>U [x.d,qd A]).bind Q5))=_;rw[(fZ j s),z9];exact r
 . have u:∀b,decide (a<0)=b->∀G,O5 (A1 (f9 U9 (f6 (t6 3) (f6 (fC K0) u5)))) G K3 [sd (K9 d),sd (qd z),sd (qd A),sd (qd a)]=if b=Uf then G [sd (K9 d),sd (qd z),sd (qd A),sd (qd a)]else U (.next [sd (K9 d),sd (qd z),sd (qd A),sd (qd a)]):=λb o G=>by have e:=A7 (Fa:=t6 3) (Fb:=fC K0) (ds:=[sd (K9 d),sd (qd z),sd (qd A),sd (qd a)]) rfl rfl n;rw[o]at e;delta O5 A1;rw[e];rfl
   by_cases c:a<0;rw[t2 c,t2 c,B8,u Uf (iq c),t2 rfl];rw[aE (by delta y4 y8;rw[yC rfl (A7 (Fa:=fC K0) (Fb:=t6 3) (ds:=[sd (K9 d),sd (qd z),sd (qd A),sd (qd a)]) rfl rfl (gb vo g))];rfl)];rfl;rw[s9 c,s9 c,B8,u U' (Z9 c),s9 dI];exact aE (by delta y4 y8;rw[yC (A7 (Fa:=t6 3) (Fb:=u4 E5 (t6 0) (fC (.int 4))) (ds:=[sd (K9 d),sd (qd z),sd (qd A),sd (qd a)]) rfl i (a0z g j p)) rfl];rfl)
structure Am(h:A8)(d:f7)(Y:List Key->Rat):Prop where
 v:∀k,k∈bV h->mJ d k=U (U (qd (Y k)))
 n:∀k,k∉bV h->mJ d k=U J
 o:∀k,k∉bV h->Y k=0
structure Dy where
 b:Rat
 g:Rat
 fi:Rat
 ta:Rat
 la:Rat
 wk:Nat->Rat
variable{S:Nat->Dy}
noncomputable def N4(w:Nat)(x:Dy):f7:=.tuple [qd x.b,qd x.g,qd x.fi,qd x.ta,qd x.la,.tuple (rl w λj=>qd (x.wk j))]
def bj(h:A8)(Y:List Key->Rat)(t:Nat):Dy:=⟨Y (k2 "bought" t),Y (k2 "given" t),xG (val h.kept) (Y (k2 "filled" t)) (Y (k2 "taken" t)),CP (val h.kept) (Y (k2 "filled" t)) (Y (k2 "taken" t)),Y (k2 "lacked" t),λj=>Y (AJ t j)⟩
section
variable{h:A8}{Y:List Key->Rat}
theorem Ap(A:Am h K Y)(f:G r=sd K)(e:v r=sd (N3 b4)):jd G v (fC K0) r=sd (qd (Y b4)):=by
 delta jd;rw[f,e];show((kO (b4.map cj)).bind λb4=>(mJ K b4).bind λd=>U (PV.dat (d.getD K0)))=_;rw[oC,z9];by_cases c:b4∈bV h;rw[A.v b4 c];rfl;rw[A.n b4 c,A.o b4 c];rfl
theorem DQ(A:Am h K Y)(e:b4∈bV h)(f:G r=sd K)(c:v r=sd (N3 b4)):jE G v r=sd (qd (Y b4)):=by
 delta jE;rw[f,c];show((kO (b4.map cj)).bind λb4=>(mJ K b4).bind λd=>d.bind λK=>U (PV.dat K))=_;rw[oC,z9,A.v b4 e];rfl
theorem Ka(a:m<h.n)(hs:B∈(["lacked","spilt","filled","taken","level"]:List Str)):k2 B m∈bV h:=by
 have:∃x∈ao h m,x.k=k2 B m:=by
  simp only[T4,cz,ag]at hs;rcases hs with rfl|rfl|rfl|rfl|rfl
  exact⟨_,U7 _ (U7 _ C9),rfl⟩;exact⟨_,U7 _ (U7 _ (C4 _ C9)),rfl⟩;exact⟨_,L9 _ C9,rfl⟩;exact⟨_,L9 _ (C4 _ C9),rfl⟩;exact⟨_,L9 _ (C4 _ (C4 _ C9)),rfl⟩
 obtain⟨x,b,e⟩:=this;exact mem_map.mpr ⟨x,U7 _ (List.mem_flatMap.mpr ⟨m,mem_range.mpr a,b⟩),e⟩
theorem oz{Fc:DV}{x y z:PV}(c:G r=U x)(b:v r=U y)(a:Fc r=U z)(e:b3 [x.d,y.d,z.d]=a8):f9 b3 (f6 G (f6 v (f6 Fc u5))) r=a8:=by delta f9 f6;rw[c,z9,b,z9,a,z9];exact e
theorem qK{x y:PV}(b:G r=U x)(a:v r=U y):y4 (f6 G (f6 v u5)) r=sd (.tuple [x.d,y.d]):=by delta y4;rw[yC b a];rfl
structure Kz(h:A8)(Y:List Key->Rat)(t:Nat):Prop where
 f:RO (Y (k2 "filled" t))
 tk:RO (Y (k2 "taken" t))
 kf:RO (val h.kept*Y (k2 "filled" t))
 m:RO (val h.kept*Y (k2 "filled" t)-Y (k2 "taken" t))
theorem Mc(A:Am h K Y)(H:J2 h)(b:0<val h.kept)(ok:RO (val h.kept))(a:m<h.n)(O:Kz h Y m){l:List f7}(r:l.length<1000)(o i c:Option PV):
  ∃p q g,lA [sd (y6 h),sd K,U (.own l),sd (.int (m:Int)),o,i,c]=U (.next [sd (y6 h),sd K,U (.own (l++[N4 h.w (bj h Y m)])),sd (.int (m:Int)),p,q,g]):=by
 have:=H.w2;refine⟨sd (.tuple [qd (Y (k2 "bought" m)),qd (Y (k2 "given" m))]),sd (.tuple [qd (bj h Y m).fi,qd (bj h Y m).ta]),sd (.list (rl h.w λj=>qd (Y (AJ m j)))),?_⟩;refine u6 (A0 (qK (Ap A rfl (dD rfl)) (Ap A rfl (dD rfl))) rfl) ?_;refine u6 (A0 (oz rfl (DQ A (Ka a A9) rfl (dD rfl)) (DQ A (Ka a A9) rfl (dD rfl)) (Ml H.k b O.f O.tk ok O.kf O.m)) rfl) ?_;refine u6 (ds1:=[sd (y6 h),sd K,U (.own l),sd (.int m),sd (.tuple [qd (Y (k2 "bought" m)),qd (Y (k2 "given" m))]),sd (.tuple [qd (bj h Y m).fi,qd (bj h Y m).ta]),sd (.list (rl h.w λj=>qd (Y (AJ m j))))]) (A0 (ar (items:=bc 0 h.w) ?_ (by rw[qu];exact pJ) (sf λj _=>⟨_,Ap A rfl ?_,rfl⟩)) rfl) ?_;show R4 [.int ((h.ws.map cI).length)]=_;rw[E7,bS u3,gw];show((kO [.str "worked",.int m,.int (0+j)]).bind λk=>U (PV.dat (N3 k)))=_;rw[X7];rfl
 . rw[kI];have e:u4 F9 (u4 F9 (t6 4) (t6 5)) (y4 (f6 (jE (t6 1) (X3 (f6 (fC (.str "lacked")) (f6 (t6 3) u5)))) (f6 (f9 fH (f6 (t6 6) u5)) u5))) [sd (y6 h),sd K,U (.own l),sd (.int m),sd (.tuple [qd (Y (k2 "bought" m)),qd (Y (k2 "given" m))]),sd (.tuple [qd (bj h Y m).fi,qd (bj h Y m).ta]),sd (.list (rl h.w λj=>qd (Y (AJ m j))))]=sd (N4 h.w (bj h Y m)):=
    (Q9 rfl (qK (DQ A (Ka a A9) rfl (dD rfl)) rfl)).trans rfl
   rw[e,kP _ rfl (C3 v5 f5)];rfl
theorem Xo(A:Am h K Y)(H:J2 h)(k:0<val h.kept)(ok:RO (val h.kept))(O:∀t,t<h.n->Kz h Y t):pZ [y6 h,K]=sd (.tuple (rl h.n λt=>N4 h.w (bj h Y t))):=by
 have:=H.n4;refine M5 rfl ?_;refine u6 rfl ?_;have u:∃f b c a,J3 (E9 R4 (f6 (f9 F6 (f6 (u4 E5 (t6 0) (fC (.int 0))) u5)) u5)) (K5 3) lA [sd (y6 h),sd K,U (.own []),J,J,J,J]=U (.next [sd (y6 h),sd K,U (.own (rl h.n λt=>N4 h.w (bj h Y t))),f,b,c,a]):=by
  have o:E9 R4 (f6 (f9 F6 (f6 (u4 E5 (t6 0) (fC (.int 0))) u5)) u5) [sd (y6 h),sd K,U (.own []),J,J,J,J]=U (bc 0 h.n):=by
   show R4 [.int ((h.hs.map B6).length)]=_;rw[E7,bS u3,gw]
  delta J3;rw[o,z9];obtain⟨s,r,f,b,c,a,m⟩:=rO (gt:=K5 3) (ds:=[sd (y6 h),sd K,U (.own []),J,J,J,J])
   (λi g=>∃f b c a,g=[sd (y6 h),sd K,U (.own (rl i λt=>N4 h.w (bj h Y t))),f,b,c,a]) ⟨J,J,J,J,rfl⟩ (by
    rintro i g j ⟨f,b,c,a,rfl⟩;obtain⟨q,p,v,e⟩:=Mc A H k ok j (O i j) (l:=rl i λt=>N4 h.w (bj h Y t)) (by rw[J8];lia) b c a;rw[show(i:Int)=0+i from(X7 _).symm]at e
    refine⟨_,_,rfl,.inl e,sd (.int (0+i)),q,p,v,?_⟩;delta rl;rw[iw,cy];rfl)
  exact⟨f,b,c,a,by rw[r,m]⟩
 obtain⟨f,b,c,a,e⟩:=u;exact u6 e rfl
end
theorem Vt(d:iK m b7)(hq:D2 l o)(h:m+l<=7998):dW [M0 b7,fr o]=sd (M0 (zW b7 o)):=by delta dW;walk_at "r";rw[DI,DH,DG];walk_at "r";rw[nW d.a hq h,nW d.b hq h,nW d.c hq h];rfl
theorem a4F{y:Tr}(d:iK m b7)(e:iK l y)(h:m+l<=7998):kU [M0 b7,M0 y]=sd (M0 (Ez b7 y)):=by delta kU;walk_at "r";rw[DI,DH,DG,DI,DH,DG];walk_at "r";rw[xJ d.a e.a h,xJ d.b e.b h,xJ d.c e.c h];rfl
theorem Ys{gt:f7->Option (List f7)}{Fe:DV}{items:List f7}(h:∀x∈items,∃bs pv,gt x=U bs/\Fe (Q3 bs++r)=U pv):∃l,M6 gt A5 Fe r items=U l:=by
 classical
 exact⟨_,sh (f:=λx=>if a:x∈items then(h x a).choose_spec.choose.d else .none) λx a=>⟨_,_,(h x a).choose_spec.choose_spec.1,(h x a).choose_spec.choose_spec.2,by rw[dif_pos a]⟩⟩
theorem oD{Fa Fb:DV}{ds:Ds}{y z:PV}(b:Fa ds=U g)(a:Fb ds=U y)(c:G ds=U z):f6 Fa (f6 Fb (f6 G u5)) ds=U [g.d,y.d,z.d]:=by delta f6;rw[b,z9,a,z9,c,z9];rfl
theorem YF{β γ:Type}{f:b9->β->γ}{z:γ}{l:List b9}{m:List β}(h:z∈hF f l m):∃a∈l,∃b∈m,z=f a b:=by
 induction l generalizing m with
 |nil=>cases h
 |cons a l j=>cases m with
  |nil=>cases h
  |cons b m =>
   rcases List.mem_cons.mp h with rfl|h
   exact⟨a,C9,b,C9,rfl⟩;obtain⟨i,d,c,g,e⟩:=j h;exact⟨i,C4 _ d,c,C4 _ g,e⟩
theorem Ma(H:J2 d){X:List Tr}(W:X.length<=26)(ok:∀x∈X,iK 490 x):∃h,lx [y6 d,.list (X.map M0)]=sd h:=by
 have:=H.n4;have w:Bt 60000 1000:=⟨by lia⟩
 have B:R5 (.int 2) (.int d.n)=sd (.int (2*d.n)):=D8 (w.of_le f5) (w.of_le pJ);have I:∀x:Hr,D2 1 (Q8 x):=λx=>by delta Q8;split<;>exact⟨by decide,by decide,⟨by decide⟩,⟨by decide⟩⟩
 have v:D2 1 ((-1,1)):=⟨by decide,by decide,⟨by decide⟩,⟨by decide⟩⟩
 have t:∀{j p:Option Int} {h},h∈cutD (X.map M0) j p->∃x∈X,h=M0 x:=λ{j p h} r=>by obtain⟨x,m,e⟩:=mem_map.mp (List.mem_of_mem_drop (Pj r));exact⟨x,m,e.symm⟩
 have P:(cutD (X.map M0) (U (d.n:Int)) (U (2*d.n))).length<=12:=by
  delta cutD;rw[uF,FG,E7];refine C3 (Nat.min_le_left _ _) ?_;rw[show(2*d.n:Int)=((2*d.n:Nat):Int) by simp,HT.Hs,HT.Hs];lia
 obtain⟨f,Q⟩:=Ys (gt:=L8 2) (Fe:=iA) (items:=hF (λx y=>.tuple [x,y]) (d.hs.map B6) (X.map M0)) λz N=>by obtain⟨a,R,b,q,rfl⟩:=YF N;obtain⟨x,m,rfl⟩:=mem_map.mp q;obtain⟨y,V,rfl⟩:=mem_map.mp R;refine⟨_,.dat (M0 (zW x (Q8 y))),rfl,?_⟩;exact A7 rfl (qF y) (Vt (ok x m) (I y) f5)
 have C:(hF (λx y=>dG [x,y]) (d.hs.map B6) (X.map M0)).length<=1000000:=by
  rw[Pd,E7];lia
 have T:∃h,(t9 (u9 2 (f9 F6 (f6 (u4 E5 (t6 0) (fC (.int 0))) u5))) (t9 (u9 3 (A2 (E9 Z6 (f6 (u4 E5 (t6 0) (fC (.int 0))) (f6 (t6 1) u5))) (L8 2) A5 iA)) (t9 (R9 4 (O6 u5)) (t9 (u9 5 (fC oA)) (t9 (J3 (E9 tA (f6 (oy sF (t6 1) (aP (t6 2)) (aP (u4 R5 (fC (.int 2)) (t6 2)))) u5)) (K5 6) fh) (t9 (rN 4 EM) (E8 (mN (y4 (f6 (f9 fH (f6 (t6 3) u5)) (f6 (f9 fH (f6 (t6 4) u5)) (f6 (f9 fH (f6 (oy sF (t6 1) (aP (u4 R5 (fC (.int 2)) (t6 2))) vp) u5)) u5)))))))))))) [sd (y6 d),sd (.list (X.map M0)),J,J,J,J,J]=U (.ret (.dat h)):=by
  rw[u6 (ds1:=[sd (y6 d),sd (.list (X.map M0)),sd (.int d.n),J,J,J,J]) (A0 (pv:=.dat (.int d.n)) (by
   show F6 [.tuple (d.hs.map B6)]=_
   delta F6 d1;simp) rfl) rfl]
  rw[u6 (A0 (by
   delta A2;rw[show E9 Z6 (f6 (u4 E5 (t6 0) (fC (.int 0))) (f6 (t6 1) u5)) [sd (y6 d),sd (.list (X.map M0)),sd (.int d.n),J,J,J,J]=U (hF (λx y=>.tuple [x,y]) (d.hs.map B6) (X.map M0))from rfl,z9,t2 C,Q]
   rfl) rfl) rfl]
  rw[u6 rfl rfl];rw[u6 (ds1:=[sd (y6 d),sd (.list (X.map M0)),sd (.int d.n),sd (.list f),U (.own []),sd (M0 ku),J]) rfl rfl];have j:∃l k g,J3 (E9 tA (f6 (oy sF (t6 1) (aP (t6 2)) (aP (u4 R5 (fC (.int 2)) (t6 2)))) u5)) (K5 6) fh [sd (y6 d),sd (.list (X.map M0)),sd (.int d.n),sd (.list f),U (.own []),sd (M0 ku),J]=U (.next [sd (y6 d),sd (.list (X.map M0)),sd (.int d.n),sd (.list f),U (.own l),k,g]):=by
   have D:E9 tA (f6 (oy sF (t6 1) (aP (t6 2)) (aP (u4 R5 (fC (.int 2)) (t6 2)))) u5) [sd (y6 d),sd (.list (X.map M0)),sd (.int d.n),sd (.list f),U (.own []),sd (M0 ku),J]=U (cutD (X.map M0) (U d.n) (U (2*d.n))).reverse:=by
    have e:oy sF (t6 1) (aP (t6 2)) (aP (u4 R5 (fC (.int 2)) (t6 2))) [sd (y6 d),sd (.list (X.map M0)),sd (.int d.n),sd (.list f),U (.own []),sd (M0 ku),J]=U (.own (cutD (X.map M0) (U d.n) (U (2*d.n)))):=by
     have o:aP (u4 R5 (fC (.int 2)) (t6 2)) [sd (y6 d),sd (.list (X.map M0)),sd (.int d.n),sd (.list f),U (.own []),sd (M0 ku),J]=U (U (2*(d.n:Int))):=by
      delta aP;rw[Q9 rfl rfl];show((R5 (.int 2) (.int d.n)).bind _)=_;rw[B];rfl
     delta oy;rw[o];rfl
    delta E9 f6;rw[e];rfl
   delta J3;rw[D,z9];obtain⟨M,O,l,g,b,E,_⟩:=ck (gt:=K5 6) (G:=fh) (items:=(cutD (X.map M0) (U d.n) (U (2*d.n))).reverse)
    (λi A=>∃l g b,A=[sd (y6 d),sd (.list (X.map M0)),sd (.int d.n),sd (.list f),U (.own l),sd (M0 b),g]/\l.length=i/\iK (1+492*i) b) ⟨[],J,ku,rfl,rfl,Zg f5⟩ (by
     rintro i h A r ⟨l,g,b,rfl,L,q⟩;have:i<12:=by
      have S:=(List.getElem?_eq_some_iff.mp r).1;rw[FX]at S;have:=P;lia
     obtain⟨x,m,rfl⟩:=t (List.mem_reverse.mp (pq r));have u:=XS (ok x m) v;have s:=YE q u;refine⟨_,[sd (y6 d),sd (.list (X.map M0)),sd (.int d.n),sd (.list f),U (.own (l++[M0 (Ez b (zW x (-1,1)))])),sd (M0 (Ez b (zW x (-1,1)))),sd (M0 x)],rfl,.inl ?_,_,_,_,rfl,by simp[L],⟨s.a.mono u3,s.b.mono u3,s.c.mono u3⟩⟩
     refine u6 (A0 (A7 rfl (A7 (y:=.dat (fr (-1,1))) rfl rfl (Vt (ok x m) v f5)) (a4F q u u3)) rfl) ?_;rw[kI];exact kP (.dat (M0 (Ez b (zW x (-1,1))))) rfl u3)
   exact⟨l,sd (M0 b),g,by rw[O,E]⟩
  obtain⟨l,k,g,e⟩:=j;rw[u6 e rfl];rw[u6 (ds1:=[sd (y6 d),sd (.list (X.map M0)),sd (.int d.n),sd (.list f),U (.own l.reverse),k,g]) rfl rfl];have o:aP (u4 R5 (fC (.int 2)) (t6 2)) (dP [sd (y6 d),sd (.list (X.map M0)),sd (.int d.n),sd (.list f),U (.own l.reverse),k,g])=U (U (2*(d.n:Int))):=by
   delta aP;rw[Q9 rfl rfl];show((R5 (.int 2) (.int d.n)).bind _)=_;rw[B];rfl
  have F:oy sF (t6 1) (aP (u4 R5 (fC (.int 2)) (t6 2))) vp (dP [sd (y6 d),sd (.list (X.map M0)),sd (.int d.n),sd (.list f),U (.own l.reverse),k,g])=U (.own (cutD (X.map M0) (U (2*d.n)) J)):=by delta oy;rw[o];rfl
  refine⟨_,aE (pv:=.dat (.tuple [.tuple f,.tuple l.reverse,.tuple (cutD (X.map M0) (U (2*d.n)) J)])) ?_⟩;have K:f9 fH (f6 (oy sF (t6 1) (aP (u4 R5 (fC (.int 2)) (t6 2))) vp) u5) (dP [sd (y6 d),sd (.list (X.map M0)),sd (.int d.n),sd (.list f),U (.own l.reverse),k,g])=sd (.tuple (cutD (X.map M0) (U (2*d.n)) J)):=by delta f9 f6;rw[F];rfl
  delta mN y4;rw[oD rfl rfl K];rfl
 obtain⟨h,e⟩:=T;exact⟨h,M5 rfl e⟩
section
variable{T:Sx.Tb}
theorem a0S(H:F8 e D E M)(G:jY e m)(K:Sx.Ok e.pb T)(a:l<e.n):0<=val (Y5 e T l):=by
 rcases rK K a with ⟨k,d,rfl,b,I⟩|⟨f,⟨b,q,hq,I⟩|⟨b,I⟩⟩
 have p:=M7 K.J4.pos H.un.1;rw[I,fX p,EF];exact Rat.mul_nonneg (by exact_mod_cast hJ (K.lo k d) (U6 (H.sc a).1)) (yM (Rat.inv_pos.mpr (T1 p)));rw[I];exact(xS (H.tp l q a hq).1.pos).mp (G.t0 l q a hq);rw[I,bO];rfl
theorem XT(H:F8 e D E M)(G:jY e m)(K:Sx.Ok e.pb T)(a:l<e.n)(hq:e.tp l=U o):val (Y5 e T l)<=val o:=by
 have:=zZ H K a;have:=(vf H a hq).1;have:=(xS (H.tp l o a hq).1.pos).mp (G.t0 l o a hq);obtain⟨v,j,i⟩:=(vf H a hq).2;refine Rat.not_lt.mp λlt=>?_
 rcases rK K a with ⟨k,h,g,f,I⟩|⟨F,⟨f,c,b,I⟩|⟨f,I⟩⟩
 . have:yv e.pb T l=T.am e.pb k:=by delta yv;rw[s9 (by rw[f];decide),<-g,zL K.J4 _ h,X7]
   have d:((T.am e.pb k):Rat)<=v*T.size:=by exact_mod_cast (K.hi k v h (by rw[g];exact j))
   have:=Qm lt (eI (T1 K.J4.pos) (T1 H.un.1));have:=Qp d (yM (T1 (H.sc a).1));have:(e.sc l)*(v*T.size)=val o*(T.size*e.un):=by grind
   grind
 . simp_all
 rw[I,bO]at lt;grind
end
open Classical in
def yK(h:A8)(T:Sx.Tb)(k:List Key):Rat:=if k∈bV h then val (Y5 (z0 h) T (kA h k))else 0
section
variable{T:Sx.Tb}
theorem MP(H:J2 d)(K:Sx.Ok (z0 d).pb T)(f:m<(y9 d).length):D2 530 (Y5 (z0 d) T m)/\(Y5 (z0 d) T m).2∣T.size*(z0 d).un:=by
 have O:=jz H;obtain⟨l,s⟩:=tW H;obtain⟨r,p,_⟩:=Ak H K;have:=gq l O.un.2.1;have j:=O.sc f;have:=gq l j.2.1;have g:=M7 K.J4.pos O.un.1;rcases rK K f with ⟨k,o,rfl,i,e⟩|⟨t,⟨i,q,hq,e⟩|⟨i,e⟩⟩
 rw[e];refine⟨iI g (((p k o).mul (n:=8) (lp (b:=225) ⟨by decide⟩ u3 (cQ v5 v5))).mono f5) ((r.mul (n:=8) (lp (b:=225) ⟨by decide⟩ (by have:=O.un.1;lia) (cQ v5 v5))).mono f5),(ak g).2.2.2⟩;obtain⟨a,b,c,h⟩:=xr H f hq;rw[e,a];exact⟨h.mono f5,⟨_,(dF _).symm⟩⟩;rw[e];exact⟨qI f5,⟨_,(dF _).symm⟩⟩
theorem IM(a:c6∈y9 d):yK d T c6.k=val (Y5 (z0 d) T (kA d c6.k)):=by delta yK;rw[t2 (mem_map.mpr ⟨c6,a,rfl⟩)]
theorem UU(a:m<(y9 d).length):yK d T (cO d m).k=val (Y5 (z0 d) T m):=by rw[IM (gi a),Na a]
theorem BK(a:b4∉bV d):yK d T b4=0:=by delta yK;rw[s9 a]
theorem YJ(H:J2 d)(K:Sx.Ok (z0 d).pb T)(c:c6∈y9 d):0<=yK d T c6.k/\∀q,c6.t=U q->yK d T c6.k<=val q:=by obtain⟨a,b⟩:=yy c;rw[IM c];exact⟨a0S (jz H) (yb H) K a,λq hq=>XT (jz H) (yb H) K a (by show(cO d _).t=_;rw[b];exact hq)⟩
open Classical in
theorem Eb(f:Nat->f7)(k:List Key):∀(ks:List (List Key)) (b:Nat),ks.Nodup->((ks.zip ((List.range' b ks.length).map f)).find? λp=>decide (p.1=k)).map (·.2)=if k∈ks then U (f (b+ks.findIdx λa=>decide (a=k)))else J
 | [],_,_=>(s9 B9).symm
 |a::ks,b,hn=>by
  rw[X9,OL,C6,lr,Ou,List.findIdx_cons];by_cases e:a=k;subst e;simp
  . simp only[Z9 e,T4];rw[(Eb f k ks (b+1) (List.nodup_cons.mp hn).2)];by_cases c:k∈ks
    . rw[t2 c,t2 (.inr c)];congr 2;exact FR _ _ _
    rw[s9 c,s9 (λz=>z.elim (λz=>e z.symm) c)]
open Classical in
theorem YA(H:J2 d)(K:Sx.Ok (z0 d).pb T):Am d (wZ (bV d) (rl (y9 d).length λj=>fr (Y5 (z0 d) T j))) (yK d T):=by
 have c:(bV d).length=(y9 d).length:=(E7 ..);have b:∀k,mJ (wZ (bV d) (rl (y9 d).length λj=>fr (Y5 (z0 d) T j))) k=U (if k∈bV d then U (fr (Y5 (z0 d) T (kA d k)))else J):=λk=>by
  show((uf ((bV d).map λk=>.tuple (k.map cj))).bind λh=>U (((h.zip (rl (y9 d).length λj=>fr (Y5 (z0 d) T j))).find? λp=>decide (p.1=k)).map (·.2)))=_;rw[yz,z9];have:=Eb (λj=>fr (Y5 (z0 d) T j)) k (bV d) 0 (pL d);rw[qS,<-Pn,c]at this;exact D3 U this
 refine⟨λk a=>?_,λk a=>?_,λk a=>BK a⟩;rw[b,t2 a];delta yK;rw[t2 a,vC (MP H K (DF a).1).1];rw[b,s9 a]
end
theorem IJ{b:Type}{g:b->f7}(a:∀x,LF (g x)=Uf):∀l:List b,lW (l.map g)=Uf
 | []=>by simp[lW]
 |x::l=>by simp[lW,a x,IJ a l]
theorem yA:∀ks:List (List Key),lU (ks.map N3)=U ks
 | []=>rfl
 |k::ks=>by
  show((kO (k.map cj)).bind λk=>(lU (ks.map N3)).bind λks=>U (k::ks))=_;rw[oC,yA ks];rfl
theorem Kg(H:J2 d):∀k∈W9 d,k∈bV d:=λk c=>by
 obtain⟨i,a,rfl⟩:=List.mem_iff_getElem.mp c;have:(W9 d).length=hM d:=by delta W9 hM;simp;lia
 obtain⟨x,b,e,_⟩:=wV H (k:=i) (FT v5 v5);rw[iz,K7 a]at e;exact mem_map.mpr ⟨x,b,e⟩
theorem UA{Fa f Fe:DV}{b c d e:PV}(l:Fa r=U R)(i:G r=U b)(k:v r=U c)(hd:f r=U d)(h:Fe r=U e)(j:b3 [R.d,b.d,c.d,d.d,e.d]=a8):f9 b3 (f6 Fa (f6 G (f6 v (f6 f (f6 Fe u5))))) r=a8:=by delta f9 f6;rw[l,z9,i,z9,k,z9,hd,z9,h,z9];exact j
theorem a2Q(m n:Nat)(M:Nat->Nat->f7):(fm m n M).d=.list (rl m λp=>.list (rl n (M p))):=by
 show mf ((kz ((C8 m).map λp=>PF.own (rl n (M p)))).map λf=>f.2.d)=_;delta kz rl;rw[fz,fz];rfl
theorem Yw(H:J2 d):∃T h,Sx.Ok (z0 d).pb T/\(∀j,j<(z0 d).n->¬Sx.R3 (z0 d).pb T j) /\
  ((∀t,t<d.n->Kz d (yK d T) t)->RO (val d.kept)->0<val d.kept->hW [y6 d]=sd (.tuple [.tuple (rl d.n λt=>N4 d.w (bj d (yK d T) t)),h])):=by
 have O:=jz H;have:=H.n4;have:=H.w2;have:(y9 d).length<=1000:=O.n1;have hl:(bV d).length=(y9 d).length:=(E7 ..);have r:(N0 d).length=hM d:=by delta N0 hM;simp;lia
 have l:(W9 d).length=hM d:=by delta W9 hM;simp;lia
 obtain⟨sd,es,R⟩:=Lp O (yb H);have best:∃T,Sx.Ok (z0 d).pb T/\(∀j,j<(z0 d).n->¬Sx.R3 (z0 d).pb T j)/\sd=.tuple [.str "best",.list (rl (y9 d).length λj=>fr (Y5 (z0 d) T j)),.list (rl (hM d) λp=>M0 (aY (z0 d).L4 T p))]:=by
  cases R with
  |best K ne=>exact⟨_,K,ne,rfl⟩
  |endless K Y e=>exact(GN O K Y e λj A Z=>((sj H _ (gi A)).fr Z).1).elim
 obtain⟨T,K,ne,rfl⟩:=best;obtain⟨M,N⟩:=Ma H (X:=(C8 (hM d)).map λp=>aY (z0 d).L4 T p) (by simp;show 2*d.n+d.w<=26;lia) λx L=>by
  obtain⟨p,P,rfl⟩:=mem_map.mp L;obtain⟨W,_,z4⟩:=Ak H K;have mu:∀t,t<3->Bt 1 ((z0 d).mu t)/\0<(z0 d).mu t:=λt q=>by have:=gq f5 (O.mu q).2.1;have:=(O.mu q).1;exact⟨lp (b:=1) ⟨by decide⟩ u3 u3,this⟩
  have one:∀t,t<3->D2 490 (I0 (T.pr t p) (T.size*(z0 d).mu t)):=λt q=>iI (M7 K.J4.pos (mu t q).2) ((z4 t p q (mem_range.mp P)).mono f5) ((W.mul (mu t q).1).mono f5);exact⟨one 0 f5,one 1 f5,one 2 f5⟩
 rw[fz]at N;refine⟨T,M,K,ne,λpk ok k0=>?_⟩;have ap:=Xo (YA H K) H k0 ok pk;have v:=Kn d H.s;have E:=LB d H.s;have C:=Tc d H.s;have G:((y9 d).map λx=>M0 x.c)=rl (y9 d).length λj=>M0 ((z0 d).cost j):=tK (λx=>M0 x.c) wc _;have z:((y9 d).map λx=>Y4 x.t)=rl (y9 d).length λj=>Y4 ((z0 d).tp j):=tK (λx=>Y4 x.t) wc _
 have D:((N0 d).map fr)=rl (hM d) λp=>fr ((z0 d).rg p):=by rw[<-r];exact tK fr q0 _
 have I:((W9 d).map λk=>Z7 (kA d k))=rl (hM d) λk=>.int ((z0 d).fs k):=by rw[<-l];exact tK (λk=>Z7 (kA d k)) [] _
 have u:(fm (hM d) (y9 d).length (allM (y9 d) (y9 d).length)).d=(z0 d).ax:=by
  rw[a2Q];refine D3 mf (zo λp _=>D3 mf (zo λj A=>?_));rw[YD,t2 (mem_range.mp A)];exact XN p _ q0
 generalize y6 d=m at *;refine M5 rfl ?_;have o:∀g:Ch->f7,∀F:DV,(∀x i,F (sd (Q6 x)::i)=sd (g x))->∀i:Ds,i[1]? = U (sd (.list ((y9 d).map Q6)))->A2 (L5 (t6 1)) B3 A5 F i=U (.own ((y9 d).map g)):=λg F V i h1=>by
  refine ar ?_ (by rw[E7];lia) (comp_map λx _=>⟨_,V x _,rfl⟩);delta L5 t6;rw[h1];rfl
 refine u6 (A0 v rfl) ?_;refine u6 (ds1:=[sd m,sd (.list ((y9 d).map Q6)),sd (.list ((bV d).map N3)),J,J,J,J,J]) (A0 (o (λx=>N3 x.k) _ (λx i=>rfl) _ rfl) (by rw[fz];rfl)) ?_;refine u6 (ds1:=[sd m,sd (.list ((y9 d).map Q6)),sd (.list ((bV d).map N3)),U (.dat (z0 d).J1),J,J,J,J]) (A0 (o (λx=>M0 x.c) _ (λx i=>rfl) _ rfl) (by rw[G];rfl)) ?_;refine u6 (ds1:=[sd m,sd (.list ((y9 d).map Q6)),sd (.list ((bV d).map N3)),U (.dat (z0 d).J1),U (.dat (z0 d).N1),J,J,J]) (A0 (o (λx=>Y4 x.t) _ (λx i=>rfl) _ rfl) (by rw[z];rfl)) ?_;refine u6 (ds1:=[sd m,sd (.list ((y9 d).map Q6)),sd (.list ((bV d).map N3)),U (.dat (z0 d).J1),U (.dat (z0 d).N1),U (.dat (z0 d).G5),J,J]) (A0 E (by rw[D];rfl)) ?_;refine u6 (ds1:=[sd m,sd (.list ((y9 d).map Q6)),sd (.list ((bV d).map N3)),U (.dat (z0 d).J1),U (.dat (z0 d).N1),U (.dat (z0 d).G5),U (.dat (z0 d).V2),J]) (A0 (pv:=.own ((W9 d).map λk=>.int (kA d k))) (ar (items:=(W9 d).map N3) ?_ (by rw[E7,l];show 2*d.n+d.w<=_;lia) (comp_map λk hk=>⟨.dat (.int (kA d k)),?_,rfl⟩)) (by rw[I];rfl)) ?_;show((fg [m]).bind λx=>kX x.d)=_;rw[C];rfl;show kH (.list ((bV d).map N3)) [N3 k]=sd (.int (kA d k));obtain⟨a,b⟩:=DF (Kg H k hk);refine Nk (Yc d) u3 ?_ (pL d);rw[O1,K7 a,<-uc a];exact D3 U b
 . have S:f9 F6 (f6 (t6 5) u5) [sd m,sd (.list ((y9 d).map Q6)),sd (.list ((bV d).map N3)),U (.dat (z0 d).J1),U (.dat (z0 d).N1),U (.dat (z0 d).G5),U (.dat (z0 d).V2),J]=sd (.int ((hM d))):=by
     show F6 [(z0 d).G5]=_;delta F6 d1;simp only[J8];rfl
   refine u6 (A0 (pv:=.dat (.tuple [.str "best",.list (rl (y9 d).length λj=>fr (Y5 (z0 d) T j)),.list (rl (hM d) λp=>M0 (aY (z0 d).L4 T p))])) ?_ rfl) ?_;refine UA rfl (A7 (Fa:=t6 1) (x:=.dat (.list ((y9 d).map Q6))) rfl S (WJ (by show 2*d.n+d.w<=_;lia) u3 λx L e Q=>((sj H x L).ns e Q).1)) rfl rfl rfl ?_;rw[u];exact es;refine aE (qK (x:=.dat _) (y:=.dat M) (A7 (y:=.dat (wZ (bV d) (rl (y9 d).length λj=>fr (Y5 (z0 d) T j)))) rfl ?_ ap) (A7 rfl rfl N));show((lU ((bV d).map N3)).bind λB=>if B.Nodup/\(rl (y9 d).length λj=>fr (Y5 (z0 d) T j)).length=B.length/\lW (rl (y9 d).length λj=>fr (Y5 (z0 d) T j))=Uf then U (PV.dat (wZ B (rl (y9 d).length λj=>fr (Y5 (z0 d) T j))))else J)=_;rw[yA,z9,t2 ⟨pL d,by rw[J8,hl],IJ (λ_=>rfl) _⟩]
theorem og{y:Rat}(a:RO z)(b:RO y):cW [qd z,qd y]=sd (qd (z+y)):=by
 show cW [fr (q2 z),fr (q2 y)]=_;rw[xJ a.f b.f f5,Hz];rfl
abbrev cB:Int:=2 ^ 60
theorem sZ{D:Int}{f:Nat->Rat}:∀n,(∀i,i<n->Sz D cB (f i))->Sz D (cB*n) (w5 f n)
 | 0,_=>Sz.zero f5
 |n+1,hf=>by
  have:=Sz.add (sZ n λi a=>hf i (oZ v5)) (hf n B4);exact this
structure wu(h:A8)(D:Int)(x:Dy):Prop where
 b:Sz D (2 ^ 39) x.b
 g:Sz D (2 ^ 39) x.g
 fi:Sz D (2 ^ 39) x.fi
 ta:Sz D (2 ^ 39) x.ta
 la:Sz D (2 ^ 39) x.la
 wk:∀j,j<h.ws.length->Sz D (2 ^ 39) (x.wk j)
 kf:Sz D (2 ^ 39) (val h.kept*x.fi)
 lt:Sz D (2 ^ 39) (val h.left*x.ta)
theorem kx(hD:uW D)(h:Sz D (cB*m) z)(a:m<=1000):RO z:=h.ok hD (cQ (jL (show(m:Int)<=1000 by lia) f5) f5)
theorem mV(h:Sz D cB z):Sz D (cB*(1:Nat)) z:=by assumption
theorem lK{n:Int}(a : -1000000<=n)(b:n<=1000000):Sz D (2 ^ 20) (n:Rat):=Sz.int u3
theorem fo(h:Sz D M z)(hM:M<=cB):Sz D cB z:=h.mono (dV _) hM
theorem Hg(h:Sz D (cB*m) z)(a:Sz D cB A):Sz D (cB*(m+1:Nat)) (z+A)/\Sz D (cB*(m+1:Nat)) (z-A):=by exact⟨h.add a,h.sub a⟩
theorem so{D:Int}(hD:uW D){gt:f7->Ds->Option Ds}{G:Ds->Option Out}{S:Rat->Option PV->Ds}{op:Rat->Rat->Rat}(a:∀{k:Nat} {r x:Rat},Sz D (cB*k) r->Sz D cB x->Sz D (cB*(k+1:Nat)) (op r x))(c:∀{r x:Rat} (y:Option PV),RO r->RO x->∃ds1 z,gt (qd x) (S r y)=U ds1/\G ds1=U (.next (S (op r x) z))):
  ∀(l:List Rat) (k:Nat) (r:Rat) (y:Option PV),(∀x∈l,Sz D cB x)->Sz D (cB*k) r->k+l.length<=900->∃z,aF gt G (l.map qd) (S r y)=U (.next (S (l.foldl op r) z))/\Sz D (cB*(k+l.length:Nat)) (l.foldl op r)
 | [],k,r,y,_,hr,_=>⟨y,rfl,hr⟩
 |x::l,k,r,y,hx,hr,hk=>by
  have b:=hx x C9;rw[X9]at hk;obtain⟨ds1,z,h,f⟩:=c y (kx hD hr (C3 (C3 (jW _ _) v5) f5)) (kx hD (mV b) f5);obtain⟨g,d,i⟩:=so hD a c l (k+1) (op r x) z (λy e=>hx y (C4 _ e)) (a hr b) u3;refine⟨g,?_,?_⟩;rw[C6,P2 h f];exact d;rw[X9,show k+(l.length+1)=k+1+l.length by lia];exact i
theorem Lz(w:Nat)(f:Nat->Rat):(rl w λj=>qd (f j))=((C8 w).map f).map qd:=by rw[fz];rfl
def sE(h:A8)(x:Dy)(t:Nat):Rat:=(x.g::x.fi::(C8 h.ws.length).map x.wk).foldl (· - ·) ([x.b,x.la,val h.left*x.ta].foldl (· + ·) (((h.hs.getD t Z1).V0-(h.hs.getD t Z1).need:Int):Rat))
theorem Cu(hD:uW D)(H:J2 d){x:Dy}(Q:wu d D x)(v:m<d.n)(ok:RO (val d.left)):nA [B6 (d.hr m),N4 d.w x,fr d.left]=sd (qd (sE d x m))/\Sz D (cB*900) (sE d x m):=by
 have:=H.w2;have hr:=H.hr m v;have f:∀{y:Rat},Sz D (2 ^ 39) y->Sz D cB y:=λc=>fo c f5;have E:∀{y:Rat},Sz D (2 ^ 39) y->RO y:=λc=>kx hD (mV (f c)) f5
 generalize s:(d.hr m).V0-(d.hr m).need=r0;have u:Sz D (cB*1) r0:=mV (fo (lK u3 u3) f5);obtain⟨z,o,p⟩:=so (gt:=K5 4) (G:=pE) (S:=λr y=>[sd (B6 (d.hr m)),sd (N4 d.w x),sd (fr d.left),sd (qd r),y]) hD (λa b=>(Hg a b).1) (λ{r y} _ hr c=>⟨_,sd (qd y),rfl,A0 (A7 rfl rfl (og hr c)) rfl⟩)
  [x.b,x.la,val d.left*x.ta] 1 r0 J (λy c=>by
   simp only[T4,cz,ag]at c;rcases c with rfl|rfl|rfl
   exact f Q.b;exact f Q.la
   . exact f Q.lt) u (by show 1+3<=900;decide)
 generalize hi:[x.b,x.la,val d.left*x.ta].foldl (· + ·) (r0:Rat)=i at o p;obtain⟨B,h,q⟩:=so (gt:=K5 4) (G:=pC) (S:=λr y=>[sd (B6 (d.hr m)),sd (N4 d.w x),sd (fr d.left),sd (qd r),y]) hD (λa b=>(Hg a b).2) (λ{r y} _ hr c=>⟨_,sd (qd y),rfl,A0 (A7 rfl rfl (gb hr c)) rfl⟩)
  (x.g::x.fi::(C8 d.w).map x.wk) 4 i z (λy c=>by
   rcases List.mem_cons.mp c with rfl|c
   exact f Q.g
   . rcases List.mem_cons.mp c with rfl|c
     exact f Q.fi
     . obtain⟨j,A,rfl⟩:=mem_map.mp c;exact f (Q.wk j (mem_range.mp A))) p (by simp;lia)
 have hk:sE d x m=(x.g::x.fi::(C8 d.w).map x.wk).foldl (· - ·) i:=by rw[<-hi,<-s];rfl
 rw[hk];generalize (x.g::x.fi::(C8 d.w).map x.wk).foldl (· - ·) i=k at h q;refine⟨?_,q.mono (dV _) (jL (by simp;lia) f5)⟩
 have C:L3 [fr d.left,qd x.ta]=sd (qd (val d.left*x.ta)):=by rw[vC H.l];exact fZ ok (E Q.ta)
 refine M5 rfl ?_;refine u6 (ds1:=[sd (B6 (d.hr m)),sd (N4 d.w x),sd (fr d.left),sd (qd r0),J]) (A0 (pv:=.dat (qd r0)) (by rw[<-s];rfl) rfl) ?_;refine u6 (ds1:=[sd (B6 (d.hr m)),sd (N4 d.w x),sd (fr d.left),sd (qd i),z]) ?_ ?_;unfold J3;rw[show L5 (y4 (f6 (u4 E5 (t6 1) (fC (.int 0))) (f6 (u4 E5 (t6 1) (fC (.int 4))) (f6 (f9 L3 (f6 (t6 2) (f6 (u4 E5 (t6 1) (fC (.int 3))) u5))) u5)))) [sd (B6 (d.hr m)),sd (N4 d.w x),sd (fr d.left),sd (qd r0),J]=U ([x.b,x.la,val d.left*x.ta].map qd)from by have:=oD (Fa:=u4 E5 (t6 1) (fC (.int 0))) (Fb:=u4 E5 (t6 1) (fC (.int 4))) (ds:=[sd (B6 (d.hr m)),sd (N4 d.w x),sd (fr d.left),sd (qd r0),J]) rfl rfl (A7 (Fa:=t6 2) (Fb:=u4 E5 (t6 1) (fC (.int 3))) rfl rfl C);unfold L5 y4;rw[this];rfl,z9];exact o
 refine u6 (ds1:=[sd (B6 (d.hr m)),sd (N4 d.w x),sd (fr d.left),sd (qd k),B]) ?_ rfl;unfold J3;rw[show L5 (u4 F9 (y4 (f6 (u4 E5 (t6 1) (fC (.int 1))) (f6 (u4 E5 (t6 1) (fC (.int 2))) u5))) (u4 E5 (t6 1) (fC (.int 5)))) [sd (B6 (d.hr m)),sd (N4 d.w x),sd (fr d.left),sd (qd i),z]=U ((x.g::x.fi::(C8 d.w).map x.wk).map qd)from by
  show((if _ then U (PV.dat (.tuple ([qd x.g,qd x.fi]++rl d.w λj=>qd (x.wk j))))else J).bind λx=>kX x.d)=_;rw[t2 (by rw[J8];simp;lia),Lz]
  rfl,z9]
 exact h
theorem XZ(hD:uW D)(H:J2 d){x:Dy}(Q:wu d D x)(ok:RO (val d.left))(c:RO (val d.kept)):∃r,qa [N4 d.w x,fr d.kept,fr d.left]=sd (qd r):=by
 have b:∀{y:Rat},Sz D (2 ^ 39) y->Sz D cB y:=λh=>fo h f5;have a:∀{y:Rat},Sz D (2 ^ 39) y->RO y:=λh=>kx hD (mV (b h)) f5
 have f:L3 [fr d.left,qd x.ta]=sd (qd (val d.left*x.ta)):=by rw[vC H.l];exact fZ ok (a Q.ta)
 have e:L3 [fr d.kept,qd x.fi]=sd (qd (val d.kept*x.fi)):=by rw[vC H.k];exact fZ c (a Q.fi)
 refine⟨x.fi-val d.kept*x.fi+(x.ta-val d.left*x.ta),?_⟩;refine M5 rfl ?_;refine u6 (A0 (A7 rfl (A7 rfl rfl e) (gb (a Q.fi) (a Q.kf))) rfl) ?_;refine u6 (A0 (A7 rfl (A7 rfl rfl f) (gb (a Q.ta) (a Q.lt))) rfl) ?_;exact aE (A7 rfl rfl (og (kx hD (Hg (mV (b Q.fi)) (b Q.kf)).2 f5) (kx hD (Hg (mV (b Q.ta)) (b Q.lt)).2 f5)))
def dM(h:A8)(X:Nat->Dy)(t:Nat):Rat:=(h.start:Rat)+w5 (λi=>val h.kept*(X i).fi-(X i).ta) t
theorem UN(t:Nat)(a:t<d.n):(hF (λx y=>dG [x,y]) (d.hs.map B6) (rl d.n λt=>N4 m (S t)))[t]? = U (.tuple [B6 (d.hr t),N4 m (S t)]):=by rw[Pz,O1,VB a];rw[O1,ph a];rfl
theorem xl:(hF (λx y=>dG [x,y]) (d.hs.map B6) (rl d.n λt=>N4 m (S t))).length=d.n:=by simp
theorem Vu(H:J2 d)(P:∀m,m<d.n->wu d D (S m))(a:m<=d.n):Sz D (cB*(1+m:Nat)) (dM d S m):=by
 have:=(mV (fo (lK (n:=d.start) (by have:=H.st;lia) (by have:=H.st;lia)) f5)).add (sZ m λi b=>fo ((P i (C3 v5 v5)).kf.sub (P i (C3 v5 v5)).ta) f5);rw[<-jT]at this;exact this
theorem tR(hD:uW D)(H:J2 d)(a:RO (val d.kept))(ok:RO (val d.left))(P:∀t,t<d.n->wu d D (S t)):
  ∃es:List f7,aX [y6 d,.tuple (rl d.n λt=>N4 d.w (S t))]=U (.own es)/\es.length=d.n/\∀t e,es[t]? = U e->∃A,e=dG [qd (sE d (S t) t),qd A,qd (dM d S (t+1))]:=by
 have:=H.n4;have g:∀{y:Rat},Sz D (2 ^ 39) y->RO y:=λB=>kx hD (mV (fo B f5)) f5;generalize I:dG (rl d.n λt=>N4 d.w (S t))=p
 obtain⟨L,u,es,f,b,v,o,N⟩:=ck (gt:=Y0 2 (D6 7 (D6 8 Y1))) (G:=nH) (items:=hF (λx y=>dG [x,y]) (d.hs.map B6) (rl d.n λt=>N4 d.w (S t)))
  (λi s=>∃es f b,s=[sd (y6 d),sd p,sd (K9 d),sd (fr d.kept),sd (fr d.left),sd (qd (dM d S i)),U (.own es),f,b]/\es.length=i/\∀t e,es[t]? = U e->∃A,e=dG [qd (sE d (S t) t),qd A,qd (dM d S (t+1))]) ⟨[],J,J,rfl,rfl,λt e z=>by exact nE z⟩ (by
   rintro i h s l ⟨es,f,b,rfl,M,K⟩;have j:i<d.n:=by
    have:=(List.getElem?_eq_some_iff.mp l).1
    rwa [xl]at this
   rw[UN i j]at l;cases l;have Q:=P i j;have F:=(Cu hD H Q j ok).1;obtain⟨A,R⟩:=XZ hD H Q ok a;have m:=Vu H P (show i<=d.n by exact fA v5)
   have O:L3 [fr d.kept,qd (S i).fi]=sd (qd (val d.kept*(S i).fi)):=by rw[vC H.k];exact fZ a (g Q.fi)
   have E:dM d S (i+1)=dM d S i+val d.kept*(S i).fi-(S i).ta:=by
    show d.start+(w5 (λi=>val d.kept*(S i).fi-(S i).ta) i+(val d.kept*(S i).fi-(S i).ta))=_;unfold dM;grind
   refine⟨_,[sd (y6 d),sd p,sd (K9 d),sd (fr d.kept),sd (fr d.left),sd (qd (dM d S (i+1))),U (.own (es++[.tuple [qd (sE d (S i) i),qd A,qd (dM d S (i+1))]])),sd (B6 (d.hr i)),sd (N4 d.w (S i))],rfl,.inl ?_,_,_,_,rfl,by simp[M],λt e z=>?_⟩;unfold nH;refine u6 (A0 (pv:=.dat (qd (dM d S (i+1)))) ?_ rfl) ?_;rw[E];exact A7 (A7 rfl (A7 rfl rfl O) (og (kx hD m u3) (g Q.kf))) rfl (gb (kx hD ((Hg m (fo Q.kf f5)).1) u3) (g Q.ta));rw[kI];delta y4 T7;rw[oD (oz (y:=.dat (N4 d.w (S i))) (z:=.dat (fr d.left)) rfl rfl rfl F) (oz (y:=.dat (fr d.kept)) (z:=.dat (fr d.left)) rfl rfl rfl R) rfl];exact kP (.dat (.tuple [qd (sE d (S i) i),qd A,qd (dM d S (i+1))])) rfl u3
   . by_cases c:t<es.length;rw[iy c]at z;exact K t e z
     . rw[ny (mz v5)]at z;have:t-es.length=0:=by
        rcases Nat.eq_zero_or_pos (t-es.length)with q|q
        exact q;rw[uM (by simp;exact v5)]at z;exact nE z
       rw[this]at z;cases z;rw[show t=i by lia]
       exact⟨A,rfl⟩)
 rw[xl]at v o;refine⟨es,?_,o,N⟩;have C:dM d S 0=d.start:=by show(d.start:Rat)+0=_;grind
 rw[C]at u;refine M5 rfl ?_;refine u6 rfl ?_;refine u6 rfl ?_;refine u6 rfl ?_;refine u6 rfl ?_;refine u6 rfl ?_;refine u6 (ds1:=[sd (y6 d),sd p,sd (K9 d),sd (fr d.kept),sd (fr d.left),sd (qd (dM d S d.n)),U (.own es),f,b]) (by rw[<-v,<-u,<-I];rfl) rfl
theorem DX(f:Nat->Rat):∀(w:Nat) (r:Rat),((C8 w).map f).foldl (· + ·) r=r+w5 f w
 | 0,r=>by show r=r+0;grind
 |w+1,r=>by
  rw[iw,cy,OS,DX f w r];show r+w5 f w+f w=r+(w5 f w+f w);grind
def qL(h:A8)(X:Nat->Dy)(i:Nat):Rat:=(bY (h.hs.getD i Z1):Rat)*(X i).b-(bX (h.hs.getD i Z1):Rat)*(X i).g
def sC(h:A8)(X:Nat->Dy)(i:Nat):Rat:=0-w5 (X i).wk h.ws.length
theorem a4v(H:J2 d)(f:m<d.n):(-1000<=bY (d.hr m)/\bY (d.hr m)<=1000)/\-1000<=bX (d.hr m)/\bX (d.hr m)<=1000:=by
 unfold bY bX;cases e:(d.hr m).line with
 |none=>decide
 |some l =>
  obtain⟨a,b,c,h⟩:=l;have:=H.ln m a b c h f e;exact⟨this.1,this.2.2.1⟩
theorem Vx{n:Int}(c : -1000<=n)(b:n<=1000)(a:Sz D (2 ^ 39) z):Sz D (2 ^ 59) ((n:Rat)*z):=by
 have:=(lK (D:=1) (n:=n) u3 (cQ v5 f5)).mul a
 simp_all
theorem mL{X:Nat->Dy}(hD:uW D)(H:J2 d)(A:m<d.n)(Q:wu d D (X m)):kj [B6 (d.hr m),N4 d.w (X m)]=sd (.tuple [qd (X m).la,qd (sC d X m),qd (qL d X m)])/\Sz D (cB*(2:Nat)) (sC d X m)/\Sz D cB (qL d X m):=by
 have:=H.w2;obtain⟨⟨B,K⟩,E,C⟩:=a4v H A;have F:∀{y:Rat},Sz D cB y->RO y:=λe=>kx hD (mV e) f5;have f:∀{y:Rat} {M:Int},Sz D M y->M<=cB->RO y:=λe hM=>F (fo e hM);have s:=Vx B K Q.b;have q:=Vx E C Q.g;have v:=sZ _ λj p=>fo (Q.wk j p) f5
 have i:Sz D (cB*2) (sC d X m):=by
  have:=(Sz.zero (jS _)).sub (v.mono (dV _) (jL (show(d.w:Int)<=2 by lia) f5));exact this
 have I:nB [lh (d.hr m).line,N4 d.w (X m)]=sd (qd (qL d X m)):=by
  have k:=fZ (x:=(bY (d.hr m))) (f (lK u3 u3) f5) (f Q.b f5);have o:=fZ (x:=(bX (d.hr m))) (f (lK u3 u3) f5) (f Q.g f5);have t:=gb (f s f5) (f q f5);unfold qL bY bX;unfold bY at k;unfold bX at o;unfold bY bX at t;cases hl:(d.hr m).line with
  |none =>
   have z:(((0:Int))*(X m).b-((0:Int))*(X m).g)=0:=by show 0*_-0*_=0;grind
   rw[z];rfl
  |some l =>
   obtain⟨a,b,c,h⟩:=l;rw[hl]at k o t;refine M5 rfl ?_;refine u6 rfl ?_;exact aE (A7 (A7 rfl rfl k) (A7 rfl rfl o) t)
 refine⟨?_,i,(fo (s.sub q) f5)⟩;obtain⟨z,u,_⟩:=so (gt:=K5 3) (G:=kW) (S:=λr y=>[sd (B6 (d.hr m)),sd (N4 d.w (X m)),sd (qd r),y]) hD (λa b=>(Hg a b).1) (λ{r y} _ hr e=>⟨_,sd (qd y),rfl,A0 (A7 rfl rfl (og hr e)) rfl⟩)
  ((C8 d.w).map (X m).wk) 0 0 J (λy e=>by obtain⟨j,p,rfl⟩:=mem_map.mp e;exact fo (Q.wk j (mem_range.mp p)) f5) (Sz.zero f5) (by simp;lia)
 rw[DX,Rat.zero_add]at u;refine M5 rfl ?_;refine u6 (ds1:=[sd (B6 (d.hr m)),sd (N4 d.w (X m)),sd (qd 0),J]) rfl ?_;refine u6 (ds1:=[sd (B6 (d.hr m)),sd (N4 d.w (X m)),sd (qd (w5 (X m).wk d.w)),z]) ?_ ?_
 . unfold J3;rw[show L5 (u4 E5 (t6 1) (fC (.int 5))) [sd (B6 (d.hr m)),sd (N4 d.w (X m)),sd (qd 0),J]=U (((C8 d.w).map (X m).wk).map qd)from by
    show U (rl d.w λj=>qd ((X m).wk j))=_
    rw[Lz],z9]
   exact u
 refine aE ?_;delta y4 T7;rw[oD rfl (A7 rfl rfl (gb vo (kx hD v u3))) (A7 (y:=.dat (N4 d.w (X m))) rfl rfl I)];rfl
theorem a1R{b c x y:Rat}(f:RO A)(g:RO b)(h:RO c)(e:RO x)(d:RO y)(hz:RO z):kU [.tuple [qd A,qd b,qd c],.tuple [qd x,qd y,qd z]]=sd (.tuple [qd (A+x),qd (b+y),qd (c+z)]):=by refine M5 rfl (aE ?_);delta y4 T7;rw[oD (A7 (y:=.dat (qd x)) rfl rfl (og f e)) (A7 (y:=.dat (qd y)) rfl rfl (og g d)) (A7 (y:=.dat (qd z)) rfl rfl (og h hz))];rfl
def jI(h:A8):Int:=(h.ws.map (·.aH)).sum
theorem ints_map{a:Type}(f:a->Int):∀l:List a,intsOf (l.map λx=>.int (f x))=U (l.map f)
 | []=>rfl
 |x::l=>by
  show(intsOf (l.map λx=>.int (f x))).bind _=_;rw[ints_map f l];rfl
theorem a4E(H:J2 d):0<=jI d/\jI d<=2000000:=by
 have f:=H.w2;have:=H.wk;obtain⟨g,a,b,c,h,k,l,r,e⟩:=d;unfold jI
 match e with
 | []=>simp
 | [x] =>
  simp at this ⊢;lia
 | [x,y] =>
  have q:=this 0 F7;have:=this 1 v5;simp at this q ⊢;omega
 |_::_::_::_=>simp at f
def mO(h:A8)(X:Nat->Dy):Rat:=0-(h.rest:Rat)*dM h X h.hs.length
theorem Mj(hD:uW D)(H:J2 d)(r:RO (val d.kept))(ok:RO (val d.left))(P:∀t,t<d.n->wu d D (S t)):
  nN [y6 d,.tuple (rl d.n λt=>N4 d.w (S t))]=sd (.tuple [qd (w5 (λi=>(S i).la) d.n),qd ((jI d:Rat)+w5 (sC d S) d.n),qd (mO d S+w5 (qL d S) d.n)]) /\
   RO (w5 (λi=>(S i).la) d.n)/\RO ((jI d:Rat)+w5 (sC d S) d.n)/\RO (mO d S+w5 (qL d S) d.n):=by
 have:=H.n4;have:=H.w2;have:=H.re;obtain⟨Z,R⟩:=a4E H;obtain⟨W,X,len,q⟩:=tR hD H r ok P;have z:=Vu H P (X6 d.n);have C:Sz D (2 ^ 85) (d.rest*dM d S d.n):=by have:=(lK (D:=1) (n:=d.rest) u3 u3).mul z;rw[dF]at this;exact this.mono (dV _) (cQ (jL (jL (show((1+d.n):Int)<=13 by lia) f5) f5) f5)
 have O:Sz D (2 ^ 86) (mO d S):=((Sz.zero (jS _)).sub C).mono (dV _) f5;have A:∀t,t<=d.n->RO (w5 (λi=>(S i).la) t):=λt k=>kx hD (sZ t λi f=>fo (P i (C3 v5 v5)).la f5) u3
 have T:Sz D (2 ^ 30) (jI d):=Sz.int u3;have V:∀t,t<=d.n->Sz D (cB*(2*t)) (w5 (sC d S) t):=λt=>by
  induction t with
  |zero=>intro _;exact Sz.zero f5
  |succ t F =>
   intro k;have:=(F (fA v5)).add (mL hD H (show t<d.n by exact v5) (P t v5)).2.1;rw[<-jT]at this;exact this.mono (dV _) (jL u3 f5)
 have j:∀{n:Nat},n<=24->(cB*n)<=2 ^ 70:=λY=>cQ (jL (Int.ofNat_le.mpr Y) f5) f5;have Uff:=λt k=>(T.add ((V t k).mono (dV _) (j u3))).ok hD f5;have K:∀t,t<=d.n->RO (mO d S+w5 (qL d S) t):=λt k=>(O.add ((sZ t λi f=>(mL hD H (show i<d.n by exact C3 v5 v5) (P i (C3 v5 v5))).2.2).mono (dV _) (j u3))).ok hD f5
 refine⟨?_,A _ (X6 _),Uff _ (X6 _),K _ (X6 _)⟩;generalize N:dG (rl d.n λt=>N4 d.w (S t))=p at *
 have m0:dM d S 0=d.start:=by show(d.start:Rat)+0=_;grind
 obtain⟨b,u,a,v⟩:=ck (gt:=K5 4) (G:=uZ)
  (λi c=>∃a,c=[sd (y6 d),sd p,sd (K9 d),sd (qd (dM d S i)),a,J,J,J,J]) ⟨J,rfl⟩ (by rintro i h c g ⟨a,rfl⟩;exact⟨_,_,rfl,.inl (A0 ((Q9 (x:=.dat h) (y:=.dat (.int 2)) rfl rfl).trans (by obtain⟨A,rfl⟩:=q i h g;rfl)) rfl),sd h,rfl⟩)
 rw[len]at v;obtain⟨M,I,m,l,B⟩:=ck (gt:=Y0 2 (D6 7 (D6 8 Y1))) (G:=uY) (items:=hF (λx y=>dG [x,y]) (d.hs.map B6) (rl d.n λt=>N4 d.w (S t)))
  (ds:=[sd (y6 d),sd p,sd (K9 d),sd (qd (dM d S d.n)),a,sd (.int (jI d)),sd (.tuple [qd 0,qd (jI d),qd (mO d S)]),J,J])
  (λi c=>∃m l,c=[sd (y6 d),sd p,sd (K9 d),sd (qd (dM d S d.n)),a,sd (.int (jI d)),sd (.tuple [qd (w5 (λi=>(S i).la) i),qd ((jI d)+w5 (sC d S) i),qd (mO d S+w5 (qL d S) i)]),m,l]) ⟨J,J,by
   rw[show(jI d)+w5 (sC d S) 0=(jI d)from Rat.add_zero _,show mO d S+w5 (qL d S) 0=mO d S from Rat.add_zero _]
   rfl⟩ (by
   rintro i h c g ⟨m,l,rfl⟩;have f:i<d.n:=by
    have:=(List.getElem?_eq_some_iff.mp g).1
    rwa [xl]at this
   rw[UN i f]at g;cases g;have Q:=P i f;obtain⟨e,L,E⟩:=mL hD H f Q;refine⟨_,_,rfl,.inl (A0 (A7 rfl (A7 rfl rfl e) (a1R (A i (fA v5)) (Uff i (fA v5)) (K i (fA v5)) (kx hD (mV (fo Q.la f5)) f5) (kx hD L f5) (kx hD (mV E) f5))) rfl),sd (B6 (d.hr i)),sd (N4 d.w (S i)),?_⟩;rw[Rat.add_assoc,Rat.add_assoc];rfl)
 rw[xl]at B;have o:tj [.list (d.ws.map λw=>.int w.aH)]=sd (.int (jI d)):=by
  show((intsOf (d.ws.map λw=>.int w.aH)).bind λis=>U (PV.dat (.int is.sum)))=_;rw[ints_map];rfl
 have s:RO d.rest:=(lK u3 u3).ok hD f5;refine M5 rfl ?_;refine u6 rfl ?_;refine u6 (ds1:=[sd (y6 d),sd p,sd (K9 d),sd (qd d.start),J,J,J,J,J]) rfl ?_;refine u6 (ds1:=[sd (y6 d),sd p,sd (K9 d),sd (qd (dM d S d.n)),a,J,J,J,J]) ?_ ?_;rw[m0]at u;unfold J3;rw[show L5 (f9 aX (f6 (t6 0) (f6 (t6 1) u5))) [sd (y6 d),sd p,sd (K9 d),sd (qd d.start),J,J,J,J,J]=U W from by unfold L5;rw[A7 (y:=.dat p) rfl rfl X];rfl,z9,u,v];refine u6 (A0 (pv:=.dat (.int (jI d))) ?_ rfl) ?_
 . have e:A2 (L5 (u4 E5 (t6 0) (fC (.int 2)))) B3 A5 uV [sd (y6 d),sd p,sd (K9 d),sd (qd (dM d S d.n)),a,J,J,J,J]=U (.own (d.ws.map λw=>.int w.aH)):=
     ar rfl (by rw[E7];exact PJ v5) (comp_map λw _=>⟨.dat (.int w.aH),rfl,rfl⟩)
   delta f9 D5 f6;rw[e];exact o
 refine u6 (A0 (pv:=.dat (.tuple [qd 0,qd (jI d),qd (mO d S)])) ?_ rfl) ?_;delta y4 T7;rw[oD rfl rfl (A7 rfl (A7 rfl rfl (fZ s (kx hD z u3))) (gb vo (C.ok hD f5)))];rfl;refine u6 (ds1:=[sd (y6 d),sd p,sd (K9 d),sd (qd (dM d S d.n)),a,sd (.int (jI d)),sd (.tuple [qd (w5 (λi=>(S i).la) d.n),qd ((jI d)+w5 (sC d S) d.n),qd (mO d S+w5 (qL d S) d.n)]),m,l]) (by rw[<-B,<-I,<-N];rfl) rfl
structure px(h:A8)(P:Pl):Prop where
 lk:∀t,t<h.hs.length->0<=P.lk t/\P.lk t<=((h.hs.getD t Z1).need:Rat)
 sp:∀t,t<h.hs.length->0<=P.sp t
 bo:∀t a b c d,t<h.hs.length->(h.hs.getD t Z1).line=U (a,b,c,d)->(0<=P.bo t/\P.bo t<=(b:Rat))/\0<=P.gv t/\P.gv t<=(d:Rat)
 nl:∀t,(h.hs.getD t Z1).line=J->P.bo t=0/\P.gv t=0
 fl:∀t,t<h.hs.length->0<=P.fl t/\P.fl t<=(h.fill:Rat)
 tk:∀t,t<h.hs.length->0<=P.tk t/\P.tk t<=(h.take:Rat)
 lv:∀t,t<h.hs.length->0<=P.lv t/\P.lv t<=(h.size:Rat)
 un:∀j,j<h.ws.length->0<=P.un j/\P.un j<=((h.ws.getD j eQ).aH:Rat)
 wk:∀j i,j<h.ws.length->i<qq h j->0<=P.wk (dA h j+i) j/\P.wk (dA h j+i) j<=((h.ws.getD j eQ).most:Rat)
 r1:∀s,s<h.hs.length->P.lk s+P.bo s+val h.left*P.tk s-P.sp s-P.gv s-P.fl s-Ce h P s=((h.hs.getD s Z1).need:Rat)-((h.hs.getD s Z1).V0:Rat)
 r2:∀s,s<h.hs.length->P.lv s=(h.start:Rat)+w5 (λt=>val h.kept*P.fl t-P.tk t) (s+1)
 r3:∀j,j<h.ws.length->P.un j+w5 (λi=>P.wk (dA h j+i) j) (qq h j)=((h.ws.getD j eQ).aH:Rat)
def YB(Y:List Key->Rat)(x:Ch):Prop:=0<=Y x.k/\∀q,x.t=U q->Y x.k<=val q
theorem gE{ns:List (Nat×Q2)}(e:L b4=z):YB L ⟨b4,b7,U (D,1),ns⟩↔0<=z/\z<=(D:Rat):=by rw[<-e,<-dC D];exact⟨λa=>⟨a.1,a.2 _ rfl⟩,λa=>⟨a.1,λq Y=>by cases Y;exact a.2⟩⟩
theorem a3b(A:Ag d L P)(F:px d P):∀x∈y9 d,YB L x:=by
 intro x e;rcases List.mem_append.mp e with e|e
 . obtain⟨t,g,e⟩:=List.mem_flatMap.mp e;have g:=mem_range.mp g;rcases List.mem_append.mp e with e|e
   . rcases List.mem_append.mp e with e|e
     . simp only[T4,cz,ag]at e;rcases e with rfl|rfl
       exact(gE (A.lk t)).mpr (F.lk t g);exact⟨by show 0<=L (k2 "spilt" t);rw[A.sp];exact F.sp t g,λq z=>by exact nE z⟩
     . unfold dN at e;cases hl:(d.hr t).line with
       |none=>rw[hl]at e;cases e
       |some l =>
        obtain⟨a,b,c,h⟩:=l;rw[hl]at e;obtain⟨n,o⟩:=A.bo t (by rw[hl];simp)
        have f:=F.bo t a b c h g hl;simp only[T4,cz,ag]at e;rcases e with rfl|rfl
        exact(gE n).mpr f.1;exact(gE o).mpr f.2
   . unfold cF at e;simp only[T4,cz,ag]at e;rcases e with rfl|rfl|rfl
     exact(gE (A.fl t)).mpr (F.fl t g);exact(gE (A.tk t)).mpr (F.tk t g);exact(gE (A.lv t)).mpr (F.lv t g)
 . obtain⟨j,k,e⟩:=List.mem_flatMap.mp e;have k:=mem_range.mp k;rcases List.mem_cons.mp e with rfl|e
   exact(gE (A.un j)).mpr (F.un j k);obtain⟨i,m,rfl⟩:=mem_map.mp e;exact(gE (A.wk _ j)).mpr (F.wk j i k (mem_range.mp m))
theorem HP(x:Hr):val (kZ x)=jq x*((x.need:Rat)-(x.V0:Rat)):=by
 delta kZ jq;rw[dC];by_cases c:x.V0<=x.need;rw[s9 B4,t2 c,br];grind;rw[t2 u3,s9 c,yY,br];grind
theorem a2s(x:Hr):jq x*jq x=1:=by delta jq;split<;>grind
theorem a3a(A:Ag d L P)(H:J2 d)(F:px d P)(c:m<hM d):ls (iF L m) (y9 d)=val ((N0 d).getD m q0):=by
 rcases zM c with a|⟨s,a,rfl⟩|⟨j,b,rfl⟩
 rw[ZG A H.s a,F.r1 m a,Vm a,HP];rw[ZF A H.s a,F.r2 s a,Vl a,dC];grind;rw[ZE A H.s b,F.r3 j b,Vk b,dC]
theorem a1y(A:Ag d L P)(H:J2 d)(B:∀x∈y9 d,YB L x)(R:∀p,p<hM d->ls (iF L p) (y9 d)=val ((N0 d).getD p q0)):px d P:=by
 have f:∀{t:Nat},t<d.n->∀{x:Ch},x∈ao d t->YB L x:=λe x m=>B x (U7 _ (List.mem_flatMap.mpr ⟨_,mem_range.mpr e,m⟩))
 refine⟨λt e=>(gE (A.lk t)).mp (f e (U7 _ (U7 _ C9))),λt e=>?_,λt a b c h e o=>?_,A.nl,λt e=>(gE (A.fl t)).mp (f e (L9 _ C9)),
  λt e=>(gE (A.tk t)).mp (f e (L9 _ (C4 _ C9))),λt e=>(gE (A.lv t)).mp (f e (L9 _ (C4 _ (C4 _ C9)))),
  λj g=>(gE (A.un j)).mp (B _ (L9 _ (List.mem_flatMap.mpr ⟨j,mem_range.mpr g,C9⟩))),λj i g q=>(gE (A.wk _ j)).mp (B _ (L9 _ (List.mem_flatMap.mpr ⟨j,mem_range.mpr g,C4 _ (mem_map.mpr ⟨i,mem_range.mpr q,rfl⟩)⟩))),λs k=>?_,λs k=>?_,λj g=>?_⟩
 rw[<-A.sp];exact(f e (U7 _ (U7 _ (C4 _ C9)))).1;obtain⟨r,u⟩:=A.bo t (by rw[o];simp);have l:∀x∈dN t (d.hr t),YB L x:=λx m=>f e (U7 _ (L9 _ m));unfold dN at l;rw[o]at l;exact⟨(gE r).mp (l _ C9),(gE u).mp (l _ (C4 _ C9))⟩;have:=R s u3;rw[ZG A H.s k,Vm k,HP]at this;have:=a2s (d.hr s);grind;have:=R (d.n+s) u3;rw[ZF A H.s k,Vl k,dC]at this;grind;have:=R (2*d.n+j) B4;rw[ZE A H.s g,Vk g,dC]at this;exact this
noncomputable def qi(Y:List Key->Rat):Pl:=⟨λt=>Y (k2 "lacked" t),λt=>Y (k2 "spilt" t),λt=>Y (k2 "bought" t),λt=>Y (k2 "given" t),λt=>Y (k2 "filled" t),λt=>Y (k2 "taken" t),λt=>Y (k2 "level" t),λj=>Y (k2 "undone" j),λt j=>Y (AJ t j)⟩
section
variable{T:Sx.Tb}
theorem HN(c:(d.hr m).line=J)(hs:B = "bought"\/B = "given"):k2 B m∉bV d:=λf=>by
 obtain⟨x,a,e⟩:=mem_map.mp f;rcases List.mem_append.mp a with a|a
 . obtain⟨h,_,a⟩:=List.mem_flatMap.mp a;obtain⟨g,_,b⟩:=tT d h a;have:=(lJ (e.symm.trans b)).2;subst this;unfold ao eT dN cF at a;rw[c]at a;simp only[bx,bu,T4,cz,ag]at a;rcases hs with rfl|rfl<;>rcases a with rfl|rfl|rfl|rfl|rfl<;>exact absurd (lJ e).1 A9
 . obtain⟨j,_,a⟩:=List.mem_flatMap.mp a;rcases sW d j a with b|⟨i,b⟩<;>rw[b]at e
   . rcases hs with rfl|rfl<;>exact absurd (lJ e).1 A9
   have:=D3 mh e;simp[k2]at this
theorem VN:Ag d (yK d T) (qi (yK d T)):=⟨λ_=>rfl,λ_=>rfl,λ_ _=>⟨rfl,rfl⟩,λt a=>⟨BK (HN a (.inl rfl)),BK (HN a (.inr rfl))⟩,λ_=>rfl,λ_=>rfl,λ_=>rfl,λ_=>rfl,λ_ _=>rfl⟩
theorem Dm(f:Ch->Rat):w5 (λj=>f (cO d j)) (y9 d).length=ls f (y9 d):=by rw[a0X f _ _ F3,OI]
theorem ND(H:J2 d)(K:Sx.Ok (z0 d).pb T):px d (qi (yK d T)):=by
 refine a1y VN H (λx a=>YJ H K a) λp b=>?_;have:=Tg (jz H) K b;rw[<-Dm];refine(E6 _ λj c=>?_).trans this;show val (fJ (cO d j).ns q0 p)*yK d T (cO d j).k=_;rw[UU c];rfl
noncomputable def Pl.at(P:Pl):List Key->Rat
 | [.inr s,.inl t]=>if s = "lacked" then P.lk t.toNat else if s = "spilt" then P.sp t.toNat else if s = "bought" then P.bo t.toNat else if s = "given" then P.gv t.toNat else if s = "filled" then P.fl t.toNat else if s = "taken" then P.tk t.toNat else if s = "level" then P.lv t.toNat else P.un t.toNat
 | [.inr _,.inl t,.inl j]=>P.wk t.toNat j.toNat
 |_=>0
theorem Kv(F:px d P):Ag d P.at P:=by
 have e:∀s t,P.at (k2 s t)=if s = "lacked" then P.lk t else if s = "spilt" then P.sp t else if s = "bought" then P.bo t else if s = "given" then P.gv t else if s = "filled" then P.fl t else if s = "taken" then P.tk t else if s = "level" then P.lv t else P.un t:=λs t=>rfl;have n:∀{a b:Str},decide (a=b)=U'->¬a=b:=λd=>of_decide_eq_false d
 refine⟨λt=>?_,λt=>?_,λt _=>⟨?_,?_⟩,F.nl,λt=>?_,λt=>?_,λt=>?_,λt=>?_,λt j=>rfl⟩<;>rw[e]
 simp;rw[s9 (n A9),t2 rfl];rw[s9 (n A9),s9 (n A9),t2 rfl];rw[s9 (n A9),s9 (n A9),s9 (n A9),t2 rfl];rw[s9 (n A9),s9 (n A9),s9 (n A9),s9 (n A9),t2 rfl];rw[s9 (n A9),s9 (n A9),s9 (n A9),s9 (n A9),s9 (n A9),t2 rfl];rw[s9 (n A9),s9 (n A9),s9 (n A9),s9 (n A9),s9 (n A9),s9 (n A9),t2 rfl];rw[s9 (n A9),s9 (n A9),s9 (n A9),s9 (n A9),s9 (n A9),s9 (n A9),s9 (n A9)]
theorem Ej(H:J2 d)(A:Ag d L P)(e:∀j,j<(y9 d).length->a6 j=L (cO d j).k)(a:m<3):w5 (λj=>val (S8 ((z0 d).cost j) m)*a6 j) (z0 d).n=cV d P m:=by rw[<-Up A H.n1 a,<-Dm];exact E6 _ λj b=>by rw[e j b];rfl
theorem least(H:J2 d)(K:Sx.Ok (z0 d).pb T)(ne:∀j,j<(z0 d).n->¬Sx.R3 (z0 d).pb T j)(F:px d P):
  NN (cV d P 0-cV d (qi (yK d T)) 0) (cV d P 1-cV d (qi (yK d T)) 1) (cV d P 2-cV d (qi (yK d T)) 2):=by
 have B:=a3b (Kv F) F;refine Ku (jz H) K ne (λj a=>(B _ (gi a)).1) (λj q a hq=>(B _ (gi a)).2 q hq) (λp c=>?_) (Δ:=λi=>if i<3 then cV d P i-cV d (qi (yK d T)) i else w5 (λj=>val (S8 ((z0 d).cost j) i)*P.at (cO d j).k) (z0 d).n-w5 (λj=>val (S8 ((z0 d).cost j) i)*val (Y5 (z0 d) T j)) (z0 d).n) λi=>?_;have:=a3a (Kv F) H F c;rw[<-Dm]at this;exact this;by_cases b:i<3;rw[t2 b,Ej H (Kv F) (λ_ _=>rfl) b,Ej H VN (λj a=>(UU a).symm) b];rw[s9 b]
end
section
variable{h:A8}{T:Sx.Tb}
theorem a2r(hq:D2 m o)(hd:o.2∣D)(c:0<=val o)(a:val o<=(M:Rat)):Sz D M (val o):=by
 refine⟨?_⟩;rw[<-ju hq.pos hq.low];refine⟨hq.pos,hq.low,hd,?_⟩;have:=(xS hq.pos).mpr c;have b:=sY (p:=(M,1)) B9 hq.pos;rw[dC,Z9 (Rat.not_lt.mpr a)]at b;have:=of_decide_eq_false b;lia
abbrev dY(h:A8)(T:Sx.Tb):Int:=h.left.2*(h.kept.2*(T.size*(z0 h).un)*h.kept.1)
theorem Qy(H:J2 h)(K:Sx.Ok (z0 h).pb T)(l:∀t,b4≠k2 "spilt" t):Sz (T.size*(z0 h).un) 1000000 (yK h T b4):=by
 by_cases c:b4∈bV h
 . obtain⟨x,d,rfl⟩:=mem_map.mp c;have C:=sj H x d;obtain⟨a,b⟩:=yy d;have B:=YJ H K d;cases ht:x.t with
   |none=>obtain⟨_,t,e⟩:=C.fr ht;exact absurd e (l t)
   |some q =>
    obtain⟨j,m,g⟩:=C.tp q ht;have f:=B.2 q ht;have i:val q<=1000000:=by obtain⟨u,v⟩:=q;subst j;rw[dC];exact Rat.intCast_le_intCast.mpr g
    rw[IM d]at B f ⊢;have:=MP H K a;exact a2r this.1 this.2 B.1 (Rat.le_trans f i)
 rw[BK c];exact Sz.zero f5
theorem VH(H:J2 h)(K:Sx.Ok (z0 h).pb T):uW (dY h T):=by obtain⟨a,d1⟩:=tW H;have O:=jz H;have:=gq a O.un.2.1;refine⟨M7 H.l.pos (M7 (M7 H.k.pos (M7 K.J4.pos O.un.1)) H.k0.1),?_⟩;exact(H.l.bb.mul (((H.k.bb.mul ((Ak H K).1.mul (n:=8) (lp (b:=225) ⟨by decide⟩ (by have:=O.un.1;lia) (cQ v5 v5)))).mul H.k.bt))).mono f5
theorem kv(H:J2 h):0<val h.kept/\Sz h.kept.2 1 (val h.kept)/\Sz h.kept.1 15 (val h.kept)⁻¹:=by
 have a:=H.k.pos;have e:val h.kept=h.kept.1/h.kept.2:=rfl;have b:0<val h.kept:=by rw[e,EF];exact eI (T1 H.k0.1) (Rat.inv_pos.mpr (T1 a))
 have q:=ju H.k.pos H.k.low;refine⟨b,⟨?_⟩,⟨?_⟩⟩;rw[<-q];exact⟨a,H.k.low,dV _,by have:=H.k0;omega⟩;rw[DN b,<-q];exact⟨H.k0.1,by show E4 h.kept.2 h.kept.1=1;rw[yN];exact H.k.low,dV _,by show h.kept.2.natAbs<=15*h.kept.1;have:=H.k.bb.lt;have:=H.k0;lia⟩
theorem lv1(H:J2 h):Sz h.left.2 1 (val h.left):=by refine⟨?_⟩;rw[<-ju H.l.pos H.l.low];exact⟨H.l.pos,H.l.low,dV _,by have:=H.l0;omega⟩
theorem NR(H:J2 h)(K:Sx.Ok (z0 h).pb T)(t:Nat):Kz h (yK h T) t/\wu h (dY h T) (bj h (yK h T) t):=by
 obtain⟨r,p,f⟩:=kv H;have hD:=VH H K;have ne:∀{s:Str},s ≠ "spilt"->∀t',k2 s t≠k2 "spilt" t':=λq t' e=>q (lJ e).1;have d:h.kept.2*(T.size*(z0 h).un)*h.kept.1∣dY h T:=⟨h.left.2,by show h.left.2*_=_;rw[K8]⟩;have b:=hI ⟨h.kept.1,rfl⟩ d;have o:h.left.2*(h.kept.2*(T.size*(z0 h).un))∣dY h T:=⟨h.kept.1,by show h.left.2*_=_;simp only[P7]⟩;have big:∀{k:List Key},(∀t,k≠k2 "spilt" t)->Sz (dY h T) (2 ^ 39) (yK h T k):=λg=>(Qy H K g).mono (hI ⟨h.kept.2*h.kept.1,by rw[K8 h.kept.2,P7]⟩ d) f5;have ok:∀{k:List Key},(∀t,k≠k2 "spilt" t)->RO (yK h T k):=λg=>(big g).ok hD f5;have i:∀t',k2 "filled" t≠k2 "spilt" t':=ne (by decide +kernel);have n:∀t',k2 "taken" t≠k2 "spilt" t':=ne (by decide +kernel)
 have m:Sz (h.kept.2*(T.size*(z0 h).un)) 1000000 (val h.kept*yK h T (k2 "filled" t)):=by have:=p.mul (Qy H K i);exact this
 have c:=m.sub ((Qy H K n).mono ⟨h.kept.2,by rw[K8]⟩ (jS _))
 have l:Sz (h.kept.2*(T.size*(z0 h).un)) 2000000 (CP (val h.kept) (yK h T (k2 "filled" t)) (yK h T (k2 "taken" t))):=by
  unfold CP;split;rw[show 0-(val h.kept*yK h T (k2 "filled" t)-yK h T (k2 "taken" t)) = - (val h.kept*yK h T (k2 "filled" t)-yK h T (k2 "taken" t)) by grind];exact c.neg;exact Sz.zero f5
 refine⟨⟨ok i,ok n,(m.mono b (jS _)).ok hD f5,((c.mono b (jS _)).ok hD f5)⟩,big (ne (by decide +kernel)),big (ne (by decide +kernel)),?_,l.mono b f5,big (ne (by decide +kernel)),λj _=>big (λt' e=>by have:=D3 mh e;simp[k2,AJ]at this),?_,?_⟩;show Sz _ _ (xG _ _ _);unfold xG;split;exact Sz.zero f5;exact(c.mul f).mono d f5;show Sz _ _ (val h.kept*xG _ _ _);unfold xG;split;rw[oO];exact Sz.zero f5;rw[show val h.kept*((val h.kept*yK h T (k2 "filled" t)-yK h T (k2 "taken" t))*(val h.kept)⁻¹)=val h.kept*yK h T (k2 "filled" t)-yK h T (k2 "taken" t) by grind];exact c.mono b f5;have:=(lv1 H).mul l;exact this.mono o f5
structure IsB(h:A8)(c:Nat->Rat):Prop where
 ex:∃P,px h P/\∀i,i<3->cV h P i=c i
 le:∀P,px h P->NN (cV h P 0-c 0) (cV h P 1-c 1) (cV h P 2-c 2)
end
structure IK(m G L b g:Int):Prop where
 cb:b=0\/b=m\/b=L\/b=L+G
 cg:g=0\/g=G\/g=b-L
 b0:0<=b
 bm:b<=m
 g0:0<=g
 gG:g<=G
 l:L<=b-g
theorem rI(h:(D:Rat)<=(E:Rat)):D<=E:=Rat.intCast_le_intCast.mp h
theorem a4n{p w L:Int}(b0:0<=z)(b1:z<=(D:Rat))(g0:0<=A)(g1:A<=(E:Rat))(h:(L:Rat)<=z-A):
  ∃b' g':Int,IK D E L b' g'/\(p:Rat)*(b':Rat)-(w:Rat)*(g':Rat)<=(p:Rat)*z-(w:Rat)*A:=by
 have m0:(0:Int)<=D:=rI (by grind);have G0:(0:Int)<=E:=rI (by grind);have Lm:L<=D:=rI (by grind);have K:∀{q:Int} {x y:Rat},0<=q->x<=y->(q:Rat)*x<=(q:Rat)*y:=λhq e=>Qp e (Rat.intCast_le_intCast.mpr hq)
 have N:∀{q:Int} {x y:Rat},q<=0->x<=y->(q:Rat)*y<=(q:Rat)*x:=λ{q x y} hq e=>by
  have:=K (q:=-q) (by omega) e;rw[yY]at this;grind
 rcases mj w 0 with hw|hw
 . have k:=N hw g0;rcases mj 0 p with hp|hp
   . rcases mj L 0 with hL|hL
     refine⟨0,0,⟨.inl rfl,.inl rfl,by omega,by omega,by omega,by omega,by omega⟩,?_⟩;have:=K hp b0;grind;refine⟨L,0,⟨.inr (.inr (.inl rfl)),.inl rfl,by omega,by omega,by omega,by omega,by omega⟩,?_⟩;have:=K hp (show(L:Rat)<=z by grind);grind
   refine⟨D,0,⟨.inr (.inl rfl),.inl rfl,by omega,by omega,by omega,by omega,by omega⟩,?_⟩;have:=N hp b1;grind
 . by_cases c:z<=((L+E:Int):Rat)
   . have k:=K hw (show A<=z-(L:Rat) by grind)
     have c':z<=(L:Rat)+(E:Rat):=by rw[<-hU];exact c
     rcases mj 0 (p-w)with hp|hp
     . rcases mj L 0 with hL|hL
       have:0<=L+E:=rI (by rw[hU];grind);refine⟨0,0-L,⟨.inl rfl,.inr (.inr rfl),by omega,by omega,by omega,by omega,by omega⟩,?_⟩;have:=K hp b0;rw[br]at this;rw[br];grind;refine⟨L,0,⟨.inr (.inr (.inl rfl)),.inl rfl,by omega,by omega,by omega,by omega,by omega⟩,?_⟩;have:=K hp (show(L:Rat)<=z by grind);rw[br]at this;grind
     . rcases mj D (L+E)with hm|hm
       refine⟨D,D-L,⟨.inr (.inl rfl),.inr (.inr rfl),by omega,by omega,by omega,by omega,by omega⟩,?_⟩;have:=N hp b1;rw[br]at this;rw[br];grind;have:0<=L+E:=rI (by rw[hU];grind);refine⟨L+E,E,⟨.inr (.inr (.inr rfl)),.inr (.inl rfl),by omega,by omega,by omega,by omega,by omega⟩,?_⟩;have:=N hp c';rw[br]at this;rw[hU];grind
   . have k:=K hw g1;have c':(L:Rat)+(E:Rat)<=z:=by rw[<-hU];exact yM (Rat.not_le.mp c)
     have:L+E<=D:=rI (by rw[hU];grind)
     rcases mj 0 p with hp|hp
     . rcases mj 0 (L+E)with hL|hL
       refine⟨L+E,E,⟨.inr (.inr (.inr rfl)),.inr (.inl rfl),by omega,by omega,by omega,by omega,by omega⟩,?_⟩;have:=K hp c';rw[hU];grind;refine⟨0,E,⟨.inl rfl,.inr (.inl rfl),by omega,by omega,by omega,by omega,by omega⟩,?_⟩;have:=K hp b0;grind
     refine⟨D,E,⟨.inr (.inl rfl),.inr (.inl rfl),by omega,by omega,by omega,by omega,by omega⟩,?_⟩;have:=N hp b1;grind
def bI(x:Hr):Int:=match x.line with
 |none=>0
 |some l=>l.2.1
def cC(x:Hr):Int:=match x.line with
 |none=>0
 |some l=>l.2.2.2
def ja(x:Hr):Int:=if x.need-x.V0-bI x>0 then x.need-x.V0-bI x else 0
def lI(x:Hr):Int:=x.need-x.V0-ja x
structure Bw(x:Hr)(M:Int):Prop where
 ex:∃b g,IK (bI x) (cC x) (lI x) b g/\M=bY x*b-bX x*g
 le:∀b g,IK (bI x) (cC x) (lI x) b g->M<=bY x*b-bX x*g
structure pW(h:A8):Prop where
 z:h.size=0
 s:h.start=0
 w:h.ws=[]
theorem sh1{q:Q2}(hq:D2 m q)(Y:q.1<=q.2):val q<=1:=by
 have b:=sY (p:=(1,1)) (q:=q) f5 hq.pos;rw[show val (1,1)=1 from dC 1]at b;refine Rat.not_lt.mp λz=>?_;rw[iq z]at b;have c:=oX b;have d:1*q.2<q.1*1:=c;lia
theorem Wn{a b x y:Nat->Rat}:∀n,(∀t,t<n->a t<=x t/\(x t=a t->b t<=y t))->w5 a n<=w5 x n/\(w5 x n=w5 a n->w5 b n<=w5 y n):=by
 intro n;induction n with
 |zero=>intro _;exact⟨cU,λ_=>cU⟩
 |succ n ih =>
  intro h;obtain⟨c,d⟩:=ih λt e=>h t (oZ e);obtain⟨e,f⟩:=h n (rh n);show w5 a n+a n<=w5 x n+x n/\(w5 x n+x n=w5 a n+a n->w5 b n+b n<=w5 y n+y n);refine⟨by grind,λg=>?_⟩;have:=d (by grind);have:=f (by grind);grind
theorem a2M(N:pW d):d.w=0:=by
 show d.ws.length=0;rw[N.w];rfl
theorem xP(N:pW d)(F:px d P)(a:m<d.n):val d.kept*P.fl m-P.tk m=0/\P.lv m=0:=by
 have z:∀s,s<d.n->P.lv s=0:=λs b=>by have:=F.lv s b;rw[N.z]at this;have e:((0:Int):Rat)=0:=rfl;grind
 have e:((0:Int):Rat)=0:=rfl;refine⟨?_,z m a⟩;have r:=F.r2 m a;rw[z m a,N.s,e]at r;cases m with
 |zero =>
  have:(0:Rat)=0+(0+(val d.kept*P.fl 0-P.tk 0)):=r;grind
 |succ m =>
  have q:=F.r2 m (OR a);rw[z m (OR a),N.s,e]at q;have:(0:Rat)=0+(w5 (λm=>val d.kept*P.fl m-P.tk m) (m+1)+(val d.kept*P.fl (m+1)-P.tk (m+1))):=r;grind
theorem YX(N:pW d)(P:Pl)(t:Nat):Ce d P t=0:=by unfold Ce;rw[N.w];rfl
theorem Ks(F:px d P)(a:m<d.n):0<=P.bo m/\P.bo m<=(bI (d.hr m):Rat)/\0<=P.gv m/\P.gv m<=(cC (d.hr m):Rat):=by
 cases e:(d.hr m).line with
 |none =>
  obtain⟨b,c⟩:=F.nl m e;unfold bI cC;rw[b,c,e];exact⟨cU,cU,cU,cU⟩
 |some l =>
  obtain⟨b,c,h,f⟩:=l;have:=F.bo m _ _ _ _ a e;unfold bI cC;rw[e];exact⟨this.1.1,this.1.2,this.2⟩
theorem Ih(H:J2 d)(N:pW d)(F:px d P)(a:m<d.n)(hm:Bw (d.hr m) M):
  ((ja (d.hr m):Rat)<=P.lk m/\(P.lk m=(ja (d.hr m):Rat)->(M:Rat)<=(bY (d.hr m):Rat)*P.bo m-(bX (d.hr m):Rat)*P.gv m))/\0<=((d.hr m).V0:Rat)-((d.hr m).need:Rat)+P.bo m+P.lk m-P.gv m:=by
 obtain⟨b0,b1,g0,g1⟩:=Ks F a;obtain⟨z,_⟩:=xP N F a;have s:=F.sp m a;have r:=F.r1 m a;rw[YX N]at r;have f0:=(F.fl m a).1;have l0:=(F.lk m a).1;have k1:=sh1 H.k H.k0.2;have q1:=sh1 H.l H.l0.2;have k0:=(kv H).1;have q0:0<=val d.left:=(xS H.l.pos).mp (U6 H.l0.1);have x1:val d.left*P.tk m<=P.fl m:=by
  have e:P.tk m=val d.kept*P.fl m:=by grind
  have y:val d.kept*P.fl m<=1*P.fl m:=Qq k1 f0;have y0:0<=P.tk m:=(F.tk m a).1;have y2:val d.left*P.tk m<=1*P.tk m:=Qq q1 y0;grind
 have c:((d.hr m).need:Rat)-((d.hr m).V0:Rat)-P.lk m<=P.bo m-P.gv m:=by grind
 refine⟨⟨?_,λe=>?_⟩,by grind⟩;unfold ja;split;rw[br,br];grind;exact l0;obtain⟨b',g',C,le⟩:=a4n (p:=bY (d.hr m)) (w:=bX (d.hr m)) (L:=lI (d.hr m)) b0 b1 g0 g1 (by unfold lI;rw[br,br,<-e];exact c);have:=Rat.intCast_le_intCast.mpr (hm.le b' g' C);rw[br,fB,fB]at this;exact Rat.le_trans this le
theorem Vw(H:J2 d)(a:m<d.n):(0<=bI (d.hr m)/\bI (d.hr m)<=1000000)/\0<=cC (d.hr m)/\cC (d.hr m)<=1000000:=by
 unfold bI cC;cases e:(d.hr m).line with
 |none=>exact⟨⟨f5,f5⟩,f5,f5⟩
 |some l =>
  obtain⟨x,y,u,v⟩:=l;have:=H.ln m _ _ _ _ a e;exact⟨this.2.1,this.2.2.2⟩
def ua(h:A8)(mn:Nat->Int)(i:Nat):Rat:=if i=0 then w5 (λt=>(ja (h.hr t):Rat)) h.n else if i=1 then 0 else w5 (λt=>(mn t:Rat)) h.n
theorem a1E(H:J2 d)(N:pW d)(hm:∀t,t<d.n->Bw (d.hr t) (C t))(F:px d P):NN (cV d P 0-ua d C 0) (cV d P 1-ua d C 1) (cV d P 2-ua d C 2):=by
 have:=H.n1;have l:P.lv (d.n-1)=0:=(xP N F (show d.n-1<d.n by show d.hs.length-1<d.hs.length;omega)).2;obtain⟨a,b⟩:=Wn (a:=λt=>(ja (d.hr t):Rat)) (b:=λt=>(C t:Rat)) (x:=P.lk) (y:=λt=>(bY (d.hr t):Rat)*P.bo t-(bX (d.hr t):Rat)*P.gv t) d.n λt c=>(Ih H N F c (hm t c)).1
 have e1:cV d P 1=0:=by
  show w5 P.un d.ws.length=0;rw[N.w];rfl
 have e2:cV d P 2=w5 (λt=>(bY (d.hr t):Rat)*P.bo t-(bX (d.hr t):Rat)*P.gv t) d.n:=by
  show _-_*P.lv (d.n-1)=_;rw[l,oO];grind
 rw[e1,e2];have d0:ua d C 0=w5 (λt=>(ja (d.hr t):Rat)) d.n:=rfl;have d1:ua d C 1=0:=rfl;have d2:ua d C 2=w5 (λt=>(C t:Rat)) d.n:=rfl;rw[d0,d1,d2];have e0:cV d P 0=w5 P.lk d.n:=rfl;rw[e0];unfold NN;by_cases c:w5 P.lk d.n=w5 (λt=>(ja (d.hr t):Rat)) d.n;have:=b c;exact .inr ⟨by grind,.inr ⟨by grind,by grind⟩⟩;exact .inl (by grind)
theorem a1F(H:J2 d)(N:pW d)(hm:∀t,t<d.n->Bw (d.hr t) (C t)):∃P,px d P/\∀i,i<3->cV d P i=ua d C i:=by
 have c:∀t,∃bg:Int×Int,(t<d.n->IK (bI (d.hr t)) (cC (d.hr t)) (lI (d.hr t)) bg.1 bg.2/\C t=bY (d.hr t)*bg.1-bX (d.hr t)*bg.2)/\(¬t<d.n->bg=(0,0)):=λt=>by
  by_cases a:t<d.n;obtain⟨b,g,p,q⟩:=(hm t a).ex;exact⟨(b,g),λ_=>⟨p,q⟩,λc=>absurd a c⟩;exact⟨(0,0),λb=>absurd b a,λ_=>rfl⟩
 obtain⟨f,hf⟩:=PU c;have e0:((0:Int):Rat)=0:=rfl
 let P:Pl:=⟨λt=>(ja (d.hr t):Rat),λt=>(((f t).1-(f t).2-lI (d.hr t):Int):Rat),λt=>(f t).1,λt=>(f t).2,λ_=>0,λ_=>0,λ_=>0,λ_=>0,λ_ _=>0⟩
 have w0:d.ws.length=0:=a2M N;have z:∀n,w5 (λ_=>val d.kept*0-0) n=0:=λn=>W7 λ_ _=>by grind
 refine⟨P,⟨λt a=>?_,λt a=>?_,λt b m h g a e=>?_,λt e=>?_,λt a=>?_,λt a=>?_,λt a=>?_,λj b=>?_,λj i b=>?_,λt a=>?_,λt a=>?_,λj b=>?_⟩,λi a=>?_⟩
 . have q:=H.hr t a;have lb:=(Vw H a).1.1;have:0<=ja (d.hr t)/\ja (d.hr t)<=(d.hr t).need:=by unfold ja;have q1:0<=(d.hr t).V0:=q.1;have q2:0<=(d.hr t).need:=q.2.2.1;split<;>omega
   exact⟨Rat.intCast_le_intCast.mpr this.1,Rat.intCast_le_intCast.mpr this.2⟩
 have:=((hf t).1 a).1.l;exact Rat.intCast_le_intCast.mpr (show(0:Int)<=_ by omega)
 . obtain⟨k,_⟩:=(hf t).1 a;have eb:bI (d.hr t)=m:=by unfold bI;rw[show(d.hr t).line=_ from e]
   have ed:cC (d.hr t)=g:=by unfold cC;rw[show(d.hr t).line=_ from e]
   rw[eb,ed]at k;exact⟨⟨Rat.intCast_le_intCast.mpr k.b0,Rat.intCast_le_intCast.mpr k.bm⟩,Rat.intCast_le_intCast.mpr k.g0,Rat.intCast_le_intCast.mpr k.gG⟩
 . show((f t).1:Rat)=0/\((f t).2:Rat)=0;by_cases a:t<d.n
   . obtain⟨k,_⟩:=(hf t).1 a;have eb:bI (d.hr t)=0:=by unfold bI;rw[show(d.hr t).line=_ from e]
     have ed:cC (d.hr t)=0:=by unfold cC;rw[show(d.hr t).line=_ from e]
     rw[eb,ed]at k;have x1:(f t).1=0:=uE k.bm k.b0;have x2:(f t).2=0:=uE k.gG k.g0;rw[x1,x2];exact⟨rfl,rfl⟩
   rw[(hf t).2 a];exact⟨rfl,rfl⟩
 exact⟨cU,Rat.intCast_le_intCast.mpr H.fl.1⟩;exact⟨cU,Rat.intCast_le_intCast.mpr H.tk.1⟩;exact⟨cU,Rat.intCast_le_intCast.mpr (cQ H.st.1 H.st.2.1)⟩;rw[w0]at b;exact absurd b (mm _);rw[w0]at b;exact absurd b (mm _);show(ja (d.hr t):Rat)+((f t).1:Rat)+val d.left*0-(((f t).1-(f t).2-lI (d.hr t):Int):Rat)-((f t).2:Rat)-0-Ce d P t=_;rw[YX N];unfold lI;rw[br,br,br,br];show _=((d.hr t).need:Rat)-((d.hr t).V0:Rat);grind;show(0:Rat)=(d.start:Rat)+w5 (λ_=>val d.kept*0-0) (t+1);rw[z,N.s,e0];grind;rw[w0]at b;exact absurd b (mm _)
 . rcases(by lia:i=0\/i=1\/i=2)with rfl|rfl|rfl
   rfl;show w5 (λ_=>0) d.ws.length=0;rw[w0];rfl;show w5 (λt=>(bY (d.hr t):Rat)*((f t).1:Rat)-(bX (d.hr t):Rat)*((f t).2:Rat)) d.n-(d.rest:Rat)*0=w5 (λt=>(C t:Rat)) d.n;rw[oO,show ∀x:Rat,x-0=x from λx=>by grind];refine E6 _ λt a=>?_;rw[((hf t).1 a).2,br,fB,fB]
theorem NN.a4D{y:Rat}(h:NN A y z)(k:NN (-A) (-y) (-z)):A=0/\y=0/\z=0:=by unfold NN at *;grind
theorem a1G(H:J2 d)(N:pW d)(hm:∀t,t<d.n->Bw (d.hr t) (C t))(F:px d P)(least:∀Q,px d Q->NN (cV d Q 0-cV d P 0) (cV d Q 1-cV d P 1) (cV d Q 2-cV d P 2)):∀i,i<3->cV d P i=ua d C i:=by
 obtain⟨Q,G,e⟩:=a1F H N hm;have a:=least Q G;have b:=a1E H N hm F;rw[e 0 f5,e 1 f5,e 2 f5]at a;obtain⟨x,y,z⟩:=NN.a4D b (by
  have s:∀x y:Rat,x-y = -(y-x):=λx y=>by grind
  rw[s (ua d C 0),s (ua d C 1),s (ua d C 2)]at a;exact a)
 intro i c;rcases(by lia:i=0\/i=1\/i=2)with rfl|rfl|rfl<;>grind
theorem AU{n:Int}(a : -1000000<=n)(b:n<=1000000):RO (n:Rat):=(lK (D:=1) a b).ok ⟨by decide,⟨by decide⟩⟩ f5
theorem jf{x:Rat}(ok:RO x)(a:0<=x)(b:x<=(D:Rat))(c:RO (D:Rat)):iO [qd x,.int D]=sd (.bool U'):=by
 have e1:U9 [qd x,qd ((0:Int):Rat)]=sd (.bool U'):=by rw[vm ok (AU f5 f5),Z9 (show ¬x<((0:Int):Rat)from Rat.not_lt.mpr a)]
 have e2:U9 [qd (D:Rat),qd x]=sd (.bool U'):=by rw[vm c ok,Z9 (Rat.not_lt.mpr b)]
 refine M5 rfl (aE ?_);have u:f9 U9 (y8 v9 (fC au)) (Q3 [qd x,.int D]++C2 0 J)=sd (.bool U'):=A7 rfl rfl e1;have v:f9 U9 (y8 (y4 (y8 z6 B2)) v9) (Q3 [qd x,.int D]++C2 0 J)=sd (.bool U'):=A7 (x:=.dat (qd (D:Rat))) rfl rfl e2;unfold Iq A1;rw[show(2-2)=0 from rfl,u,v];rfl
theorem Yr{Fc:DB}{bs l:List f7}(a:d5 K=U bs)(b:Fc (Q3 bs++r)=U U')(c:M6 d5 Fc G r u=U l):M6 d5 Fc G r (K::u)=U l:=by unfold M6;rw[a,z9,b,z9,s9 (by decide),c]
theorem ij{T:Ds->Option Bool}{A B:Ds->Option Out}{b:Bool}(h:T r=U b)(hr:(if b=Uf then A r else B r)=e9):O5 T A B r=e9:=by unfold O5;rw[h];exact hr
structure Gs(h:A8)(X:Nat->Dy):Prop where
 b:∀t,t<h.n->0<=(X t).b/\(X t).b<=(bI (h.hr t):Rat)
 g:∀t,t<h.n->0<=(X t).g/\(X t).g<=(cC (h.hr t):Rat)
 z:∀t,t<h.n->(X t).fi=0/\(X t).ta=0
 la:∀t,t<h.n->0<=(X t).la/\(X t).la<=((h.hr t).need:Rat)
 sp:∀t,t<h.n->0<=((h.hr t).V0:Rat)-((h.hr t).need:Rat)+(X t).b+(X t).la-(X t).g
theorem Av(N:pW d)(Z:Gs d S):∀t,t<=d.n->dM d S t=0:=λt a=>by
 unfold dM;rw[N.s,W7 λi b=>by rw[(Z.z i (M8 b a)).1,(Z.z i (M8 b a)).2,oO];grind];show(0:Rat)+0=0;grind
theorem Ym(N:pW d)(Z:Gs d S)(a:m<d.n):0<=sE d (S m) m:=by
 have:=Z.sp m a;obtain⟨f,g⟩:=Z.z m a;unfold sE;rw[N.w,f,g,br];show 0<=_+(S m).b+(S m).la+val d.left*0-(S m).g-0;rw[oO];grind
abbrev Og(h:A8)(t:Nat)(x:Dy):List f7:=[.tuple [.str "buy",qd x.b,.int (bI (h.hr t))],.tuple [.str "give",qd x.g,.int (cC (h.hr t))],.tuple [.str "fill",qd x.fi,.int h.fill],.tuple [.str "take",qd x.ta,.int h.take],.tuple [.str "lack",qd x.la,.int (h.hr t).need],.tuple [.str "level",qd 0,.int h.size]]
abbrev VC(h:A8)(t:Nat)(x:Dy)(e:f7)(x6 x7 x8:Option PV):Ds:=[sd (y6 h),sd (.int (t:Int)),sd (N4 h.w x),sd e,sd (B6 (h.hr t)),sd (K9 h),x6,x7,x8]
theorem An(hD:uW D)(H:J2 d)(N:pW d)(Z:Gs d S)(a:m<d.n)(Q:wu d D (S m))(ok:RO z)(sp0:0<=z):
  ff [y6 d,.int (m:Int),N4 d.w (S m),.tuple [qd z,qd A,qd 0]]=U (.own []):=by
 have E:∀{y:Rat},Sz D (2 ^ 39) y->RO y:=λc=>kx hD (mV (fo c f5)) f5
 obtain⟨⟨B0,B1⟩,D0,D1⟩:=Vw H a;have q:0<=(d.hr m).need/\(d.hr m).need<=1000000:=(H.hr m a).2.2;have L:∃p w,fN (A1 (u4 jc (t7 L1 R6) cA)) (fC ud) (t7 L1 R6) (VC d m (S m) (.tuple [qd z,qd A,qd 0]) J J J)=sd (.tuple [.int p,.int (bI (d.hr m)),.int w,.int (cC (d.hr m))]):=by
  unfold bI cC VC B6;cases e:(d.hr m).line with
  |none=>exact⟨0,0,rfl⟩
  |some l =>
   obtain⟨x,y,u,v⟩:=l;exact⟨x,u,rfl⟩
 obtain⟨p,w,L⟩:=L;generalize he:dG [qd z,qd A,qd 0]=e at L ⊢
 let Uff:=VC d m (S m) e (sd (.tuple [.int p,.int (bI (d.hr m)),.int w,.int (cC (d.hr m))]))
 let V:=Uff (sd (.tuple (Og d m (S m))))
 refine M5 rfl ?_;refine u6 (A0 (pv:=.dat (B6 (d.hr m))) (Ii d a) rfl) ?_;refine u6 (ds1:=VC d m (S m) e J J J) (A0 (pv:=.dat (K9 d)) rfl rfl) ?_;refine u6 (ds1:=Uff J J) (A0 L rfl) ?_;refine u6 (ds1:=V J) (A0 (pv:=.dat (.tuple (Og d m (S m)))) (by subst he;rfl) rfl) ?_
 have one:∀{s:Str} {x:Rat} {h:Int} {r:List f7} {ds:Ds},iO [qd x,.int h]=sd (.bool U')->M6 (L8 3) aS cX ds r=U []->M6 (L8 3) aS cX ds (.tuple [.str s,qd x,.int h]::r)=U []:=λ{s x h r ds} e k=>by refine Yr (bs:=[.str s,qd x,.int h]) rfl ?_ k;have:f9 iO (y8 z6 E2) (Q3 [.str s,qd x,.int h]++ds)=sd (.bool U'):=A7 rfl rfl e;unfold aS A1;rw[this];rfl
 refine u6 (ds1:=V (U (.own []))) ?_ ?_
 . have u:∀ds,M6 (L8 3) aS cX ds (Og d m (S m))=U []:=λds=>by
     have zi:=AU (n:=0) f5 f5;refine one (jf (E Q.b) (Z.b m a).1 (Z.b m a).2 (AU u3 u3)) (one (jf (E Q.g) (Z.g m a).1 (Z.g m a).2 (AU u3 u3)) (one ?_ (one ?_ (one (jf (E Q.la) (Z.la m a).1 (Z.la m a).2 (AU u3 u3)) (one ?_ rfl)))));rw[(Z.z m a).1];exact jf zi cU (Rat.intCast_le_intCast.mpr H.fl.1) (AU (by have:=H.fl;omega) H.fl.2);rw[(Z.z m a).2];exact jf zi cU (Rat.intCast_le_intCast.mpr H.tk.1) (AU (by have:=H.tk;omega) H.tk.2);rw[N.z];exact jf zi cU cU zi
   unfold R9 A2;rw[show L5 fI (V J)=U (Og d m (S m))from rfl,z9,t2 (show(Og d m (S m)).length<=1000000 by show 6<=1000000;decide),u];rfl
 . refine u6 (ij (b:=U') ?_ rfl) rfl;have:f9 U9 (y8 (t7 J5 D7) (fC au)) (V (U (.own [])))=sd (.bool U'):=A7 (x:=.dat (qd z)) (by subst he;rfl) rfl (by
    show U9 [qd z,qd ((0:Int):Rat)]=_
    rw[vm ok (AU f5 f5),Z9 (show ¬z<((0:Int):Rat)from Rat.not_lt.mpr sp0)])
   unfold A1;rw[this];rfl
theorem UB{Fc f:DV}{b c d:PV}(l:G r=U R)(i:v r=U b)(k:Fc r=U c)(hd:f r=U d)(j:b3 [R.d,b.d,c.d,d.d]=a8):f9 b3 (f6 G (f6 v (f6 Fc (f6 f u5)))) r=a8:=by unfold f9 f6 u5;rw[l,i,k,hd];exact j
theorem NI{k:Int}{i:Nat}:(S6 k u)[i]? = U K->∃e,u[i]? = U e/\K=.tuple [.int (k+(i:Int)),e]:=by
 induction u generalizing k i with
 |nil=>intro z;exact nE z
 |cons x u ih =>
  intro z;cases i with
  |zero=>cases z;exact⟨x,rfl,by rw[show((0:Nat):Int)=0 from rfl,qR]⟩
  |succ i =>
   obtain⟨e,a,b⟩:=ih (k:=k+1) (i:=i) z;exact⟨e,a,by rw[b];congr 3;push_cast;omega⟩
theorem NF(hD:uW D)(H:J2 d)(N:pW d)(r:RO (val d.kept))(ok:RO (val d.left))(Z:Gs d S)(P:∀t,t<d.n->wu d D (S t)):
  kT [y6 d,.tuple (rl d.n λt=>N4 d.w (S t))]=U (.own []):=by
 obtain⟨es,e,len,q⟩:=tR hD H r ok P;have hp:∀t,t<d.n->E5 (.tuple (rl d.n λt=>N4 d.w (S t))) (.int (t:Int))=sd (N4 d.w (S t)):=λt a=>by
  show(aG (rl d.n λt=>N4 d.w (S t)) (t:Int)).bind _=_;rw[N9 _ a];rfl
 generalize hpl:dG (rl d.n λt=>N4 d.w (S t))=p at e hp ⊢
 obtain⟨ds,f,x,y,rfl⟩:=ck (gt:=Y0 2 (D6 3 (D6 4 Y1))) (G:=nI) (items:=S6 0 es) (ds:=[sd (y6 d),sd p,U (.own []),J,J,J])
  (λi s=>∃x y,s=[sd (y6 d),sd p,U (.own []),x,y,J]) ⟨J,J,rfl⟩ (by
   rintro i h s l ⟨x,y,rfl⟩;obtain⟨u,a,rfl⟩:=NI l;obtain⟨A,rfl⟩:=q i u a;have b:i<d.n:=by rw[<-len];exact(List.getElem?_eq_some_iff.mp a).1
   have k:=P i b;rw[X7];refine⟨[sd (y6 d),sd p,U (.own []),sd (.int (i:Int)),sd (.tuple [qd (sE d (S i) i),qd A,qd (dM d S (i+1))]),J],[sd (y6 d),sd p,U (.own []),sd (.int (i:Int)),sd (.tuple [qd (sE d (S i) i),qd A,qd (dM d S (i+1))]),J],rfl,.inl ?_,_,_,rfl⟩;have w:=An hD H N Z b k (A:=A) (kx hD (Cu hD H k b ok).2 f5) (Ym N Z b);rw[Av N Z (i+1) b];unfold nI ot;rw[show f9 ff (pS v9 J5 (t7 z6 J5) L1) [sd (y6 d),sd p,U (.own []),sd (.int (i:Int)),sd (.tuple [qd (sE d (S i) i),qd A,qd 0]),J]=U (.own [])from UB (c:=.dat (N4 d.w (S i))) rfl rfl ((Q9 (x:=.dat p) (y:=.dat (.int (i:Int))) rfl rfl).trans (hp i b)) rfl w]
   rfl)
 refine M5 rfl ?_;refine u6 (ds1:=[sd (y6 d),sd p,U (.own []),J,J,J]) rfl ?_;refine u6 (ds1:=[sd (y6 d),sd p,U (.own []),x,y,J]) ?_ ?_;unfold J3;rw[show E9 Y9 (D5 (f9 aX (y8 v9 z6))) [sd (y6 d),sd p,U (.own []),J,J,J]=U (S6 0 es)from by have:f9 aX (y8 v9 z6) [sd (y6 d),sd p,U (.own []),J,J,J]=U (.own es):=A7 rfl rfl e;unfold E9 D5 f6;rw[this];rfl,z9];exact f
 refine u6 (ds1:=[sd (y6 d),sd p,U (.own []),x,y,J]) ?_ rfl;unfold J3;rw[show E9 Y9 (D5 (t7 v9 R6)) [sd (y6 d),sd p,U (.own []),x,y,J]=U []from by
  show Y9 [.tuple (d.ws.map cI)]=_
  rw[N.w];rfl,z9]
 rfl
theorem mY(u:r[0]? = U (sd (mW b8)))(k:G r=sd (.int D))(w:v r=sd (.int E))(e:M9 [mW b8,.int D,.int E]=sd (.int M)):f9 M9 (f6 (t6 0) (f6 G (f6 v u5))) r=sd (.int M):=oz (x:=.dat (mW b8)) (by delta t6;rw[u]) k w e
theorem ik(p:G r=sd (.int D))(q:v r=sd (.int E)):u4 F9 G v r=sd (.int (D+E)):=(Q9 p q).trans rfl
theorem IW(p:G r=sd (.int D))(q:v r=sd (.int E)):u4 df G v r=sd (.int (D-E)):=(Q9 p q).trans rfl
theorem rJ(p:G r=sd (.int D))(q:v r=sd (.int E))(e:R5 (.int D) (.int E)=sd (.int M)):u4 R5 G v r=sd (.int M):=(Q9 p q).trans e
theorem a1r(p:G r=sd (.int D)):A1 (u4 ye G (fC (.int 0))) r=U (decide (0<D)):=by delta A1;rw[Q9 (y:=.dat (.int 0)) p rfl];rfl
theorem a4o{Fc:DV}{z:PV}(p:G r=U g)(q:v r=U R)(e:Fc r=U z):y4 (f6 G (f6 v (f6 Fc u5))) r=sd (.tuple [g.d,R.d,z.d]):=by delta y4;rw[oD p q e];rfl
theorem a3u(h:G r=U g)(l:r[m]? = U (U (.own u)))(v:u.length<1000)(w:r.set m (U (.own (u++[g.d])))=a2):dk m G r=U (.next a2):=by rw[kI,h,pT g l (yP v f5),w]
structure Nm where
 p:Int
 m:Int
 w:Int
 g:Int
 l:Int
variable{c8:Nm}
abbrev Nm.ok(n:Nm)(b g:Int):Bool:=decide (0<=b/\b<=n.m)&&(decide (0<=g/\g<=n.g)&&decide (n.l<=b-g))
def Nm.of(n:Nm)(b:Int)(gs:List Int):List Int:=(gs.filter (n.ok b)).map λg=>n.p*b-n.w*g
structure NmB(n:Nm):Prop where
 p : -1000000<=n.p/\n.p<=1000000
 w : -1000000<=n.w/\n.w<=1000000
abbrev lM(n:Nm)(x0 x1 x2 x7:Option PV)(l:List Int)(y z:Option PV):Ds:=[x0,x1,x2,sd (.int n.p),sd (.int n.m),sd (.int n.w),sd (.int n.g),x7,sd (.int n.l),U (.own (l.map .int)),y,z]
theorem Yj{n:Nm}{x0 x1 x2 x7:Option PV}(l:List Int)(b g:Int):fO (A1 (eU oq oq D7 qh L1)) (fO (A1 (eU oq oq D7 iE bG)) (A1 (u4 Il (u4 df qh iE) jo))) (lM n x0 x1 x2 x7 l (sd (.int b)) (sd (.int g)))=U (n.ok b g):=by
 have c:∀{i j:Int} {F G:DV} {ds:Ds},F ds=sd (.int i)->G ds=sd (.int j)->A1 (eU oq oq D7 F G) ds=U (decide (0<=i/\i<=j)):=λ{i j F G ds} e f=>by
  unfold A1 eU;rw[e,f];show((if decide (0<=i)=Uf then U (PV.dat (.bool (decide (i<=j))))else U (PV.dat (.bool U'))).bind _)=_;by_cases k:0<=i;rw[t2 (iq k)];simp[k];rfl;rw[s9 (by simp[k])];simp[k];rfl
 have d:∀(ds:Ds) {F G:DB} {x y:Bool},F ds=U x->G ds=U y->fO F G ds=U (x&&y):=λds {F G x y} e f=>by unfold fO;rw[e,f];cases x<;>rfl
 exact d _ (c rfl rfl) (d _ (c rfl rfl) rfl)
theorem a2T{n:Nm}{x0 x1 x2 x7:Option PV}(B:NmB n){b:Int}(hb : -100000000<=b/\b<=100000000):∀(gs l:List Int) (z:Option PV),l.length+gs.length<=1000->(∀g∈gs,-100000000<=g/\g<=100000000) ->
  ∃z',aF (K5 11) fF (gs.map .int) (lM n x0 x1 x2 x7 l (sd (.int b)) z)=U (.next (lM n x0 x1 x2 x7 (l++n.of b gs) (sd (.int b)) z')):=by
 intro gs;induction gs with
 |nil=>intro l z _ _;exact⟨z,by unfold Nm.of;simp;rfl⟩
 |cons g gs ih =>
  intro l z e hg;have w:Bt 60000 100000000:=(show Bt 30 100000000 from⟨by decide⟩).mono f5
  obtain⟨g0,g1⟩:=hg g C9;have q:=B.p;have r:=B.w;have T:=Yj (n:=n) (x0:=x0) (x1:=x1) (x2:=x2) (x7:=x7) l b g;have V:u4 df (D4 J5 qh) (D4 P9 iE) (lM n x0 x1 x2 x7 l (sd (.int b)) (sd (.int g)))=sd (.int (n.p*b-n.w*g)):=by have u1:D4 J5 qh (lM n x0 x1 x2 x7 l (sd (.int b)) (sd (.int g)))=sd (.int (n.p*b)):=rJ rfl rfl (D8 (lp w u3 u3) (lp w u3 u3));have u2:D4 P9 iE (lM n x0 x1 x2 x7 l (sd (.int b)) (sd (.int g)))=sd (.int (n.w*g)):=rJ rfl rfl (D8 (lp w u3 u3) (lp w u3 u3));exact IW u1 u2
  have len:l.length+(gs.length+1)<=1000:=e;have K:fF (lM n x0 x1 x2 x7 l (sd (.int b)) (sd (.int g)))=U (.next (lM n x0 x1 x2 x7 (l++n.of b [g]) (sd (.int b)) (sd (.int g)))):=by
   refine ij T ?_;unfold Nm.of;by_cases c:n.ok b g=Uf;rw[t2 c,kI,V,kP (l:=l.map .int) _ rfl (by rw[E7];omega),OC,t2 c];show U (Out.next (List.set _ 9 (U (.own (l.map .int++[.int (n.p*b-n.w*g)])))))=_;rw[show l.map Z7++[.int (n.p*b-n.w*g)]=(l++[n.p*b-n.w*g]).map .int by simp];rfl;rw[s9 c,OC,s9 c];simp only[List.filter_nil,oP,bw];rfl
  have S:K5 11 (.int g) (lM n x0 x1 x2 x7 l (sd (.int b)) z)=U (lM n x0 x1 x2 x7 l (sd (.int b)) (sd (.int g))):=rfl;have le:(n.of b [g]).length<=1:=by unfold Nm.of;rw[E7];exact Pw _ _
  obtain⟨z',f⟩:=ih (l++n.of b [g]) (sd (.int g)) (by rw[aa];omega) λy hy=>hg y (C4 _ hy)
  refine⟨z',?_⟩;rw[C6,P2 S K,f];have:n.of b (g::gs)=n.of b [g]++n.of b gs:=by unfold Nm.of;rw[<-cy,<-List.filter_append];rfl
  rw[this,zg]
abbrev Nm.all(n:Nm)(bs:List Int):List Int:=bs.flatMap λb=>n.of b [0,n.g,b-n.l]
theorem a1q{x0 x1 x2 x7:Option PV}(B:NmB c8)(hm : -100000000<=c8.g/\c8.g<=10000000)(hl : -10000000<=c8.l/\c8.l<=10000000):∀(bs l:List Int) (y z:Option PV),l.length+3*bs.length<=900->(∀b∈bs,-10000000<=b/\b<=10000000) ->
  ∃y' z',aF (K5 10) fE (bs.map .int) (lM c8 x0 x1 x2 x7 l y z)=U (.next (lM c8 x0 x1 x2 x7 (l++c8.all bs) y' z')):=by
 intro bs;induction bs with
 |nil=>intro l y z _ _;exact⟨y,z,by simp;rfl⟩
 |cons b bs ih =>
  intro l y z e hb;obtain⟨b0,b1⟩:=hb b C9;have len:l.length+3*(bs.length+1)<=900:=e;obtain⟨z1,f⟩:=a2T (x0:=x0) (x1:=x1) (x2:=x2) (x7:=x7) B (b:=b) (by omega) [0,c8.g,b-c8.l] l z (by show _+3<=_;omega) (by intro g hg;simp only[T4,cz,ag]at hg;rcases hg with rfl|rfl|rfl<;>omega)
  have K:fE (lM c8 x0 x1 x2 x7 l (sd (.int b)) z)=U (.next (lM c8 x0 x1 x2 x7 (l++c8.of b [0,c8.g,b-c8.l]) (sd (.int b)) z1)):=f;have S:K5 10 (.int b) (lM c8 x0 x1 x2 x7 l y z)=U (lM c8 x0 x1 x2 x7 l (sd (.int b)) z):=rfl;have le:(c8.of b [0,c8.g,b-c8.l]).length<=3:=by unfold Nm.of;rw[E7];exact Pw _ _
  obtain⟨y',z',g⟩:=ih (l++c8.of b [0,c8.g,b-c8.l]) (sd (.int b)) z1 (by rw[aa];omega) λx hx=>hb x (C4 _ hx);refine⟨y',z',?_⟩;rw[C6,P2 S K,g,zg];rfl
theorem AE{n:Nm}(x:Int):x∈n.all [0,n.m,n.l,n.l+n.g] ↔ ∃b g,IK n.m n.g n.l b g/\x=n.p*b-n.w*g:=by
 unfold Nm.all Nm.of Nm.ok;simp only[OJ,mem_map,Ov,T4,cz,ag,rf,uH];constructor;rintro⟨b,hb,g,⟨hg,⟨c1,c2⟩,⟨c3,c4⟩,c5⟩,rfl⟩;exact⟨b,g,⟨hb,hg,c1,c2,c3,c4,c5⟩,rfl⟩;rintro⟨b,g,C,rfl⟩;exact⟨b,C.cb,g,⟨C.cg,⟨C.b0,C.bm⟩,⟨C.g0,C.gG⟩,C.l⟩,rfl⟩
structure a1Z(x:Hr):Prop where
 s:0<=x.V0/\x.V0<=1000000
 n:0<=x.need/\x.need<=1000000
 b:0<=bI x/\bI x<=1000000
 d:0<=cC x/\cC x<=1000000
 a : -1000<=bY x/\bY x<=1000
 c : -1000<=bX x/\bX x<=1000
theorem Nn{x:Hr}(H:a1Z x):∃M,fc [.int x.V0,.int x.need,lh x.line]=sd (.tuple [.int (ja x),.int M])/\Bw x M/\-10000000000<=M/\M<=10000000000:=by
 obtain⟨⟨s0,s1⟩,⟨n0,n1⟩,⟨b0,b1⟩,⟨d0,d1⟩,⟨a0,a1⟩,c0,c1⟩:=H;have L : -1000000<=lI x/\lI x<=bI x/\lI x<=1000000:=by unfold lI ja;split<;>omega
 let n:Nm:=⟨bY x,bI x,bX x,cC x,lI x⟩
 have B:NmB n:=⟨⟨by show _<=bY x;omega,by show bY x<=_;omega⟩,⟨by show _<=bX x;omega,by show bX x<=_;omega⟩⟩;have one:IK n.m n.g n.l n.m 0:=⟨.inr (.inl rfl),.inl rfl,b0,jS _,jS _,d0,by show lI x<=bI x-0;omega⟩
 have ne:=(AE (n:=n) _).mpr ⟨_,_,one,rfl⟩;cases hm:(n.all [0,n.m,n.l,n.l+n.g]).min? with
 |none=>rw[List.min?_eq_none_iff.mp hm]at ne;cases ne
 |some M =>
  obtain⟨m1,m2⟩:=List.min?_eq_some_iff.mp hm;obtain⟨b,g,C,e⟩:=(AE M).mp m1;refine⟨M,?_,⟨⟨b,g,C,e⟩,λb g C=>m2 _ ((AE _).mpr ⟨b,g,C,rfl⟩)⟩,?_⟩
  . obtain⟨y,z,f⟩:=a1q (x0:=sd (.int x.V0)) (x1:=sd (.int x.need)) (x2:=sd (.tuple [.int n.p,.int n.m,.int n.w,.int n.g])) (x7:=sd (.int (ja x))) B (show _<=cC x/\cC x<=_ by omega) (show _<=lI x/\lI x<=_ by omega) [0,n.m,n.l,n.l+n.g] [] J J (by show 0+3*4<=900;decide) (by intro b hb;simp only[T4,cz,ag]at hb;have:n.m=bI x:=rfl;have:n.l=lI x:=rfl;have:n.g=cC x:=rfl;rcases hb with rfl|rfl|rfl|rfl<;>omega)
    let V:=lM n (sd (.int x.V0)) (sd (.int x.need)) (sd (.tuple [.int n.p,.int n.m,.int n.w,.int n.g])) (sd (.int (ja x)))
    refine M5 rfl ?_;refine u6 (ds1:=[sd (.int x.V0),sd (.int x.need),sd (.tuple [.int n.p,.int n.m,.int n.w,.int n.g]),J,J,J,J,J,J,J,J,J]) ?_ ?_
    . show O5 _ _ _ [sd (.int x.V0),sd (.int x.need),sd (lh x.line),J,J,J,J,J,J,J,J,J]=U (.next [sd (.int x.V0),sd (.int x.need),sd (.tuple [.int (bY x),.int (bI x),.int (bX x),.int (cC x)]),J,J,J,J,J,J,J,J,J])
      unfold bY bI bX cC;cases e:x.line with
      |none=>rfl
      |some l=>obtain⟨p,q,r,s⟩:=l;rfl
    refine u6 rfl ?_;refine u6 rfl ?_;refine u6 rfl ?_;refine u6 (ds1:=V [] J J) rfl ?_;refine u6 (ds1:=V ([]++n.all [0,n.m,n.l,n.l+n.g]) y z) f ?_;refine aE ?_;have I:∀l:List Int,intsOf (l.map .int)=U l:=λl=>by
     induction l with
     |nil=>rfl
     |cons i l ih=>show(intsOf (l.map .int)).bind _=_;rw[ih];rfl
    have u:f9 xU (D5 AO) (dP (V ([]++n.all [0,n.m,n.l,n.l+n.g]) y z))=sd (.int M):=by
     show(intsOf (([]++n.all [0,n.m,n.l,n.l+n.g]).map .int)).bind _=_;rw[I,bu,z9,hm];rfl
    unfold mN y4 y8 f6;rw[u];rfl
  . have cb:=C.b0;have cm:=C.bm;have cg:=C.g0;have cG:=C.gG;have e1:n.m=bI x:=rfl;have e2:n.g=cC x:=rfl;have k:∀{a b:Int},-1000<=a->a<=1000->0<=b->b<=1000000->-1000000000<=a*b/\a*b<=1000000000:=λ{a b} p q r s=>by have x1:=jM q r;have x2:=jM p r;omega
    have:=k a0 a1 cb (by omega);have:=k c0 c1 cg (by omega);have:M=bY x*b-bX x*g:=e;omega
abbrev Gq(i:Int):Prop:=0<=i/\i<=12000
abbrev VR(i:Int):Prop:=-100<=i/\i<=100
structure Gr(h:Hr):Prop where
 V0:Gq h.V0
 need:Gq h.need
 line:∀a b c d,h.line=U (a,b,c,d)->VR a/\Gq b/\VR c/\Gq d
theorem Ca(e:0<=D)(c:D<=1000)(a:0<=E)(d1:E<13):R5 (.int D) (.int E)=sd (.int (D*E))/\Gq (D*E):=by refine⟨D8 (Bt.xA u3 (Int.lt_of_le_of_lt v5 f5)) (Bt.xA u3 (cQ v5 f5)),hJ e a,?_⟩;exact EY c (show E<=12 by lia) a f5
theorem ixl(h:aG u D=U K):E5 (.list u) (.int D)=sd K:=by
 show(aG u D).bind _=_;rw[h];rfl
abbrev tU(ns:List Int)(m:Option PV)(b:Int)(l:List f7)(x4 x5 x6 x7:Option PV):Ds:=[sd (mW ns),m,iD b,U (.own l),x4,x5,x6,x7]
theorem NL{t:Int}(o:b8.length<=63)(t0:0<=t)(t1:t<12)(f:0<=D)(e:D<=1000)(m:Option PV)(L:List f7)(hL:L.length<1000)(x5 x6 x7:Option PV):
  ∃h:Hr,Gr h/\∃P C Y,lB (tU b8 m D L (iD t) x5 x6 x7)=U (.next (tU b8 m D (L++[B6 h]) (iD t) P C Y)):=by
 have b:=λ(j m) (h0:0<=j) (h1:j<100) (y:0<m)=>vE (k:=20+8*t+j) o u3 u3 y
 obtain⟨Z,M,p0,q0⟩:=vE (k:=20+8*t) (m:=4) o u3 u3 f5;obtain⟨d1,x,p1,q1⟩:=b 1 27 f5 f5 f5;obtain⟨N,Q,p3,q3⟩:=b 3 27 f5 f5 f5;obtain⟨A,X,u2,O⟩:=b 2 13 f5 f5 f5;obtain⟨W,T,G,K⟩:=b 4 13 f5 f5 f5;obtain⟨s,p,B,R⟩:=b 5 13 f5 f5 f5;obtain⟨g,u,F,E⟩:=b 6 13 f5 f5 f5;obtain⟨V,H⟩:=Ca f e u2 O;obtain⟨z,S⟩:=Ca f e G K;obtain⟨l,i⟩:=Ca f e B R;obtain⟨w,v⟩:=Ca f e F E;have mu:R5 (.int 8) (.int t)=sd (.int (8*t)):=D8 Bt.lit (Bt.xA u3 (cQ t1 f5));have go:∀(q:Option (Int×Int×Int×Int)) (C Y:Option PV) (G:DO),C=sd (lh q)->G (tU b8 m D L (iD t) (iD (20+8*t)) (sd .none) x7)=U (.next (tU b8 m D L (iD t) (iD (20+8*t)) C Y)) ->
   t9 (u9 5 (u4 F9 (fC (.int 20)) (D4 (fC (.int 8)) L1))) (t9 (u9 6 cA) (t9 G (dk 3 (y4 (T7 (D4 E2 (f9 M9 (T7 v9 (u4 F9 P9 tJ) zU))) (D4 E2 (f9 M9 (T7 v9 (u4 F9 P9 Dh) zU))) bG))))) (tU b8 m D L (iD t) x5 x6 x7)=U (.next (tU b8 m D (L++[B6 ⟨D*s,D*g,q⟩]) (iD t) (iD (20+8*t)) C Y)):=λq C Y G hq hG=>by subst hq;exact u6 (A0 (ik rfl (rJ rfl rfl mu)) rfl) (u6 (A0 (pv:=.dat .none) rfl rfl) (u6 hG (a3u (a4o (rJ rfl (mY rfl (ik rfl rfl) rfl p) l) (rJ rfl (mY rfl (ik rfl rfl) rfl u) w) rfl) rfl hL rfl)))
 by_cases c:0<Z;refine⟨⟨D*s,D*g,U (d1-6,D*A,N-6,D*W)⟩,⟨i,v,λ_ _ _ _ h=>by cases h;exact⟨by lia,H,by lia,S⟩⟩,_,_,_,go _ _ (sd (.tuple [.int (d1-6),.int (D*A)])) _ rfl (ij (a1r (mY rfl rfl rfl M)) ((t2 (iq c)).trans ?_))⟩;refine u6 (A0 (pv:=.dat (.tuple [.int (d1-6),.int (D*A)])) (qK (IW (mY rfl (ik rfl rfl) rfl x) rfl) (rJ rfl (mY rfl (ik rfl rfl) rfl X) V)) rfl) (A0 (pv:=.dat (lh (U (d1-6,D*A,N-6,D*W)))) ((Q9 rfl (qK (IW (mY rfl (ik rfl rfl) rfl Q) rfl) (rJ rfl (mY rfl (ik rfl rfl) rfl T) z))).trans ?_) rfl);exact UE B9;refine⟨⟨D*s,D*g,J⟩,⟨i,v,λ_ _ _ _ h=>by exact nE h⟩,_,_,_,go J _ x7 _ rfl (ij (a1r (mY rfl rfl rfl M)) ((s9 (by rw[Z9 c];decide)).trans rfl))⟩
theorem TH{k:Nat}(d:b8.length<=63)(k1:k<=12):∃hs:List Hr,qb [mW b8,.int (k:Int)]=sd (.tuple (hs.map B6))/\hs.length=k/\∀x∈hs,Gr x:=by
 obtain⟨A,eb,b0',b1'⟩:=vE (k:=2) (m:=4) d (by decide) (by decide) (by decide)
 obtain⟨b,hb,L,K⟩:∃b:Int,aG [Z7 1,.int 1,.int 1,.int 997] A=U (.int b)/\0<=b/\b<=1000:=by
  have:A=0\/A=1\/A=2\/A=3:=by lia
  rcases this with rfl|rfl|rfl|rfl<;>exact⟨_,rfl,by decide,by decide⟩
 obtain⟨ds',h1,⟨c,j,p,D,g,B,C,rfl⟩⟩:=rO (gt:=K5 4) (G:=lB) (lo:=0) (n:=k) (ds:=tU b8 (iD k) b [] J J J J)
  (λi y=>∃E:List Hr,E.length=i/\(∀x∈E,Gr x)/\∃D g B C,y=tU b8 (iD k) b (E.map B6) D g B C)
  ⟨[],rfl,by simp,J,J,J,J,rfl⟩ (by
   rintro i y hi ⟨E,j,p,D,g,B,C,rfl⟩;obtain⟨h,hh,Q,z7,z8,e⟩:=NL (t:=0+i) d (by exact FW _) (by lia) L K (iD k) (E.map B6) (by simp;lia) g B C;refine⟨_,_,rfl,.inl e,E++[h],by simp[j],?_,iD (0+i),Q,z7,z8,by rw[cy];rfl⟩
   intro x a;rcases List.mem_append.mp a with a|a
   exact p x a
   . simp at a;subst a;exact hh)
 refine⟨c,M5 rfl ?_,j,p⟩;refine u6 (A0 (pv:=.dat (.int b)) ((Q9 (x:=.own [.int 1,.int 1,.int 1,.int 997]) (y:=.dat (.int A)) rfl (mY rfl rfl rfl eb)).trans (ixl hb)) rfl) ?_;refine u6 (ds1:=tU b8 (iD k) b [] J J J J) rfl ?_;refine u6 (ds1:=tU b8 (iD k) b (c.map B6) D g B C) (by delta J3;rw[show E9 R4 (D5 z6) (tU b8 (iD k) b [] J J J J)=U (bc 0 k)from by show R4 [.int (k:Int)]=_;rw[bS (by lia),gw]];exact h1) ?_;exact aE rfl
theorem Et{x:List f7->Option PV}{Fa:Ds->Option PV}(ha:Fa r=U g)(e:x [g.d]=a8):f9 x (f6 Fa u5) r=a8:=by delta f9 D5 f6;rw[ha,z9];exact e
abbrev cD(c:Nat->Rat):f7:=.tuple [qd (c 0),qd (c 1),qd (c 2)]
theorem Kr(l:List b9):boolsOf (l.map λ_=>.bool Uf)=U (l.map λ_=>Uf):=by
 induction l with
 |nil=>rfl
 |cons _ _ h=>exact D3 (yI · λs=>U (Uf::s)) h
theorem Ax(i:Int):S5 (.int i) (.int i)=sd (.bool Uf):=by rw[rS];simp
theorem Zy(S:FV)(i:Int):kY S [.int i,.int i]=sd (.bool Uf):=
 M5 rfl (show E8 (u4 S5 (t6 0) (t6 1)) [sd (.int i),sd (.int i)]=_ from aE (Ax i))
theorem Hl{b:DO}(h:b5 r=U (.ret g)):t9 b5 b r=U (.ret g):=by rw[B8,h,Cy]
theorem Ly(h:∀d∈u,b3 [d,d]=sd (.bool Uf))(n:u.length<=1000):kY b3 [.tuple u,.tuple u]=sd (.bool Uf):=by
 have a:f9 qm (f6 (A2 (E9 Z6 (f6 (t6 0) (f6 (t6 1) u5))) (L8 2) A5 (gy b3)) u5) [sd (.tuple u),sd (.tuple u)]=sd (.bool Uf):=by
  refine Et (ar (items:=u.map λd=>.tuple [d,d]) (D3 U List.zipWith_self) (by rw[E7];exact C3 n f5) (sh (f:=λ_=>.bool Uf) λx m=>?_)) ?_;obtain⟨d,g,rfl⟩:=mem_map.1 m;exact⟨[d,d],.dat (.bool Uf),rfl,A7 rfl rfl (h d g),rfl⟩;show(boolsOf _).bind _=_;rw[Kr];simp
 have b:kL (u4 S5 (f9 F6 (f6 (t6 0) u5)) (f9 F6 (f6 (t6 1) u5))) (f9 qm (f6 (A2 (E9 Z6 (f6 (t6 0) (f6 (t6 1) u5))) (L8 2) A5 (gy b3)) u5)) [sd (.tuple u),sd (.tuple u)]=sd (.bool Uf):=by
  delta kL A1;rw[show u4 S5 (f9 F6 (f6 (t6 0) u5)) (f9 F6 (f6 (t6 1) u5)) [sd (.tuple u),sd (.tuple u)]=_ from Ax u.length];exact a
 have t:∀x:Bool,iH (.bool x) (.bool x)=sd (.bool U'):=λx=>by cases x<;>rfl
 refine M5 rfl ?_;rw[show Q3 [dG u,.tuple u]++C2 (2-2) J=[sd (.tuple u),sd (.tuple u)]from rfl];refine(Hl (ij (b:=Uf) rfl (u6 (ds1:=[sd (.tuple u),sd (.tuple u)]) (ij (b:=U') ?_ rfl) (aE b))));delta sL A1;rw[show u4 iH (U4 "tuple" (t6 0)) (U4 "tuple" (t6 1)) [sd (.tuple u),sd (.tuple u)]=_ from t Uf,show u4 iH (U4 "list" (t6 0)) (U4 "list" (t6 1)) [sd (.tuple u),sd (.tuple u)]=_ from t U'];rfl
theorem Zx(S:FV):kY S [.list [],.list []]=sd (.bool Uf):=by
 have a:∀S,f9 qm (f6 (A2 (E9 Z6 (f6 (t6 0) (f6 (t6 1) u5))) (L8 2) A5 (gy S)) u5) [sd (.list []),sd (.list [])]=sd (.bool Uf):=λS=>rfl
 have b:∀S,kL (u4 S5 (f9 F6 (f6 (t6 0) u5)) (f9 F6 (f6 (t6 1) u5))) (f9 qm (f6 (A2 (E9 Z6 (f6 (t6 0) (f6 (t6 1) u5))) (L8 2) A5 (gy S)) u5)) [sd (.list []),sd (.list [])]=sd (.bool Uf):=λS=>by
  delta kL A1;rw[show u4 S5 (f9 F6 (f6 (t6 0) u5)) (f9 F6 (f6 (t6 1) u5)) [sd (.list []),sd (.list [])]=_ from Ax 0];exact a S
 refine M5 rfl ?_;rw[show Q3 [mf [],.list []]++C2 (2-2) J=[sd (.list []),sd (.list [])]from rfl];refine(Hl (ij (b:=Uf) rfl (u6 (ds1:=[sd (.list []),sd (.list [])]) (ij (b:=U') ?_ rfl) (aE (b _)))));rfl
theorem WD(c:Nat->Rat):iN [cD c,cD c]=sd (.bool Uf):=
 Ly (λd m=>by
  have q:∀x:Rat,kY (kY λ_=>J) [qd x,qd x]=sd (.bool Uf):=λx=>Ly (λd m=>by simp only[T4,cz,ag]at m;rcases m with rfl|rfl<;>exact Zy _ _) B9
  simp only[T4,cz,ag]at m;rcases m with rfl|rfl|rfl<;>exact q _) B9
theorem WE(a b c:Int):iN [.tuple [.tuple [.int a,.int 1],.tuple [.int b,.int 1],.tuple [.int c,.int 1]],.tuple [.tuple [.int a,.int 1],.tuple [.int b,.int 1],.tuple [.int c,.int 1]]]=sd (.bool Uf):=by
 have:=WD λi=>if i=0 then(a:Rat)else if i=1 then(b:Rat)else(c:Rat);rw[CL,CL,CL];exact this
def bQ(f:Nat->Int):Nat->Int
 | 0=>0
 |n+1=>bQ f n+f n
theorem Li(f:Nat->Int):∀n,w5 (λt=>(f t:Rat)) n=((bQ f n:Int):Rat):=by
 intro n;induction n with
 |zero=>rfl
 |succ n ih =>
  show w5 (λt=>(f t:Rat)) n+(f n:Rat)=((bQ f n+f n:Int):Rat);rw[ih,hU]
abbrev vT(h:A8)(t:Nat):Int:=ja (h.hs.getD t Z1)
abbrev oB:f7:=.tuple [.int 0,.int 1]
theorem a1C(h:m<=12):S5 (.list (C2 m oB)) (.list (C2 m oB))=sd (.bool Uf):=by
 have a:∀n:Fin 13,aT (.list (C2 n.1 oB))=Uf/\V8 (.list (C2 n.1 oB)) (.list (C2 n.1 oB))=Uf:=by decide +kernel
 obtain⟨b,c⟩:=a ⟨m,Nat.lt_succ_of_le h⟩;show(if _ then U (PV.dat (.bool (V8 (.list (C2 m oB)) (.list (C2 m oB)))))else J)=_;rw[t2 ⟨b,b⟩,c]
section
variable{T:Sx.Tb}
theorem NB(H:J2 d)(N:pW d)(hm:∀t,t<d.n->Bw (d.hr t) (C t))(K:Sx.Ok (z0 d).pb T):Gs d (bj d (yK d T)):=by
 have F:=ND H K;refine⟨λt a=>⟨(Ks F a).1,(Ks F a).2.1⟩,λt a=>(Ks F a).2.2,λt a=>?_,λt a=>F.lk t a,λt a=>(Ih H N F a (hm t a)).2⟩;have z:val d.kept*yK d T (k2 "filled" t)-yK d T (k2 "taken" t)=0:=(xP N F a).1;show xG _ _ _=0/\CP _ _ _=0;unfold xG CP;rw[z,s9 (by decide),s9 (by decide),yL];exact⟨rfl,rfl⟩
theorem a1N(H:J2 d)(N:pW d)(hm:∀t,t<d.n->Bw (d.hr t) (C t)):∃p h es,hW [y6 d]=sd (.tuple [p,h])/\kT [y6 d,p]=U (.own []) /\
  nN [y6 d,p]=sd (.tuple [.tuple [.int (bQ (vT d) d.n),.int 1],oB,.tuple [.int (bQ C d.n),.int 1]])/\aX [y6 d,p]=U (.own es)/\es.length=d.n/\∀e∈es,E5 e (.int 2)=sd oB:=by
 obtain⟨T,h,K,ne,e⟩:=Yw H;obtain⟨o,r,_⟩:=kv H;have ok:=r.ok ⟨H.k.pos,H.k.bb.mono f5⟩ f5;have ol:=(lv1 H).ok ⟨H.l.pos,H.l.bb.mono f5⟩ f5;have F:=ND H K;have Z:=NB H N hm K;have D:=VH H K;have P:∀t,t<d.n->wu d (dY d T) (bj d (yK d T) t):=λt _=>(NR H K t).2;obtain⟨c,_⟩:=Mj D H ok ol P;obtain⟨es,l,len,q⟩:=tR D H ok ol P;have E:=a1G H N hm F (λQ G=>least H K ne G);refine⟨_,h,es,e (λt _=>(NR H K t).1) ok o,NF D H N ok ol Z P,?_,l,len,λx hx=>?_⟩
 . rw[c];have e0:w5 (λi=>(bj d (yK d T) i).la) d.n=((bQ (vT d) d.n:Int):Rat):=by rw[<-Li];exact E 0 f5
   have e1:(jI d:Rat)+w5 (sC d (bj d (yK d T))) d.n=((0:Int):Rat):=by
    have:w5 (sC d (bj d (yK d T))) d.n=0:=W7 λi _=>by
     unfold sC;rw[N.w];show(0:Rat)-0=0;grind
    rw[this];unfold jI;rw[N.w];show(0:Rat)+0=0;grind
   have e2:mO d (bj d (yK d T))+w5 (qL d (bj d (yK d T))) d.n=((bQ C d.n:Int):Rat):=by
    rw[<-Li];refine Eq.trans ?_ (E 2 f5);have n1:=H.n1;have l0:(qi (yK d T)).lv (d.n-1)=0:=(xP N F (show d.n-1<d.n by show d.hs.length-1<d.hs.length;omega)).2;unfold mO;rw[show dM d (bj d (yK d T)) d.hs.length=0 from Av N Z d.n (X6 _)];show _=w5 (λt=>(bY (d.hr t):Rat)*(qi (yK d T)).bo t-(bX (d.hr t):Rat)*(qi (yK d T)).gv t) d.n-(d.rest:Rat)*(qi (yK d T)).lv (d.n-1);rw[l0,oO];show 0-0+w5 (qL d (bj d (yK d T))) d.n=w5 (qL d (bj d (yK d T))) d.n-0;grind
   rw[e0,e1,e2];rfl
 obtain⟨t,a,rfl⟩:=List.mem_iff_getElem.mp hx;obtain⟨A,b⟩:=q t _ (K7 a);rw[b,Av N Z (t+1) (by rw[<-len];exact a)];rfl
end
theorem a2S{x:Hr}(O:Gr x):a1Z x:=by
 obtain⟨⟨s0,s1⟩,⟨n0,n1⟩,l⟩:=O;unfold Gq VR at l;have:(0<=bI x/\bI x<=1000000)/\(0<=cC x/\cC x<=1000000)/\(-1000<=bY x/\bY x<=1000)/\(-1000<=bX x/\bX x<=1000):=by
  unfold bY bI bX cC;cases e:x.line with
  |none=>exact⟨⟨f5,f5⟩,⟨f5,f5⟩,⟨f5,f5⟩,f5,f5⟩
  |some q =>
   obtain⟨a,b,c,d⟩:=q;have:=l _ _ _ _ e;show(0<=b/\b<=1000000)/\(0<=d/\d<=1000000)/\(-1000<=a/\a<=1000)/\(-1000<=c/\c<=1000);omega
 exact⟨by omega,by omega,this.1,this.2.1,this.2.2.1,this.2.2.2⟩
abbrev Dz(ns:List Int)(h:A8)(a b:Int)(x7 x8 x9 x10 x11:Option PV):Ds:=[sd (mW ns),iD (h.n:Int),sd (.tuple (h.hs.map B6)),sd (K9 h),sd (y6 h),iD a,iD b,x7,x8,x9,x10,x11]
theorem Tt{ns:List Int}(H:J2 d)(N:pW d)(O:∀x∈d.hs,Gr x):
  Cb [sd (mW ns),iD (d.n:Int),sd (.tuple (d.hs.map B6)),sd (K9 d),J,J,J,J,J,J,J,J]=U (.ret (.dat (.bool Uf))):=by
 have n4:=H.n4;have c:∀t,∃M,t<d.n->fc [.int (d.hr t).V0,.int (d.hr t).need,lh (d.hr t).line]=sd (.tuple [.int (ja (d.hr t)),.int M])/\Bw (d.hr t) M:=λt=>by
  by_cases a:t<d.n
  . obtain⟨M,u,v,_⟩:=Nn (a2S (O (d.hr t) (by
      show d.hs.getD t Z1∈d.hs
      rw[iz,K7 a];exact rd a)))
    exact⟨M,λ_=>⟨u,v⟩⟩
  exact⟨0,λb=>absurd b a⟩
 obtain⟨mn,hm⟩:=PU c;obtain⟨p,h,es,e1,e2,e3,e4,len,e5⟩:=a1N H N λt a=>(hm t a).2
 have hw:y6 d=.tuple [.tuple (d.hs.map B6),K9 d,.tuple []]:=by unfold y6;rw[N.w];rfl
 obtain⟨s,f,x7,x8,x9,x10,rfl⟩:=ck (gt:=Y0 3 (D6 7 (D6 8 (D6 9 Y1)))) (G:=vJ) (items:=d.hs.map B6) (ds:=Dz ns d 0 0 J J J J J)
  (λi s=>∃x7 x8 x9 x10,s=Dz ns d (bQ (vT d) i) (bQ mn i) x7 x8 x9 x10 J) ⟨J,J,J,J,rfl⟩ (by
   rintro i h s l ⟨x7,x8,x9,x10,rfl⟩;rw[O1]at l;obtain⟨x,m,rfl⟩:=Option.map_eq_some_iff.mp l;have a:i<d.n:=(List.getElem?_eq_some_iff.mp m).1;have hx:x=d.hr i:=by
    show x=d.hs.getD i Z1;rw[iz,m];rfl
   subst hx;refine⟨Dz ns d (bQ (vT d) i) (bQ mn i) (sd (.int (d.hr i).V0)) (sd (.int (d.hr i).need)) (sd (lh (d.hr i).line)) x10 J,Dz ns d (bQ (vT d) (i+1)) (bQ mn (i+1)) (sd (.int (d.hr i).V0)) (sd (.int (d.hr i).need)) (sd (lh (d.hr i).line)) (sd (.tuple [.int (ja (d.hr i)),.int (mn i)])) J,rfl,.inl ?_,_,_,_,_,rfl⟩;unfold vJ;refine u6 (A0 (oz rfl rfl rfl (hm i a).1) rfl) ?_;exact u6 (A0 (ik rfl rfl) rfl) (A0 (ik rfl rfl) rfl))
 rw[E7]at f;generalize hq:Dz ns d (bQ (vT d) d.n) (bQ mn d.n) x7 x8 x9 x10 (sd (.tuple [p,h]))=S;have g0:L1 S=sd (y6 d):=by rw[<-hq];rfl
 have g1:u4 E5 iE D7 S=sd p:=by rw[<-hq];rfl
 have g2:y4 (f6 (y4 (f6 P9 (f6 B2 u5))) (f6 (y4 (f6 D7 (f6 B2 u5))) (f6 (y4 (f6 bG (f6 B2 u5))) u5))) S=sd (.tuple [.tuple [.int (bQ (vT d) d.n),.int 1],.tuple [.int 0,.int 1],.tuple [.int (bQ mn d.n),.int 1]]):=by rw[<-hq];rfl
 refine u6 (ds1:=[sd (mW ns),iD (d.n:Int),sd (.tuple (d.hs.map B6)),sd (K9 d),sd (y6 d),J,J,J,J,J,J,J]) (by rw[hw];rfl) ?_;refine u6 (ds1:=[sd (mW ns),iD (d.n:Int),sd (.tuple (d.hs.map B6)),sd (K9 d),sd (y6 d),iD 0,J,J,J,J,J,J]) rfl ?_;refine u6 (ds1:=Dz ns d 0 0 J J J J J) rfl ?_;refine u6 (ds1:=Dz ns d (bQ (vT d) d.n) (bQ mn d.n) x7 x8 x9 x10 J) f ?_;refine u6 (ds1:=S) (A0 (Et rfl e1) (by rw[<-hq];rfl)) ?_;refine u6 (ds1:=S) (ij (b:=U') ?_ rfl) ?_;have:f9 iN (f6 (f9 kT (f6 L1 (f6 (u4 E5 iE D7) u5))) (f6 (O6 u5) u5)) S=sd (.bool Uf):=A7 (x:=.own []) (y:=.own []) (A7 g0 g1 e2) rfl (Zx _);unfold ue A1;rw[this];rfl;refine u6 (ds1:=S) (ij (b:=U') ?_ rfl) ?_
 . have:f9 iN (f6 (f9 nN (f6 L1 (f6 (u4 E5 iE D7) u5))) (f6 (y4 (f6 (y4 (f6 P9 (f6 B2 u5))) (f6 (y4 (f6 D7 (f6 B2 u5))) (f6 (y4 (f6 bG (f6 B2 u5))) u5)))) u5)) S=sd (.bool Uf):=
     A7 (x:=.dat (.tuple [.tuple [.int (bQ (vT d) d.n),.int 1],.tuple [.int 0,.int 1],.tuple [.int (bQ mn d.n),.int 1]])) (y:=.dat (.tuple [.tuple [.int (bQ (vT d) d.n),.int 1],.tuple [.int 0,.int 1],.tuple [.int (bQ mn d.n),.int 1]])) (A7 g0 g1 e3) g2 (WE _ _ _)
   unfold ue A1;rw[this];rfl
 refine aE ?_;have u:A2 (L5 (f9 aX (f6 L1 (f6 (u4 E5 iE D7) u5)))) B3 A5 AI S=U (.own (C2 d.n oB)):=by
  refine(ar (items:=es) (l:=es.map λ_=>oB) ?_ (by rw[len];exact C3 n4 f5) (sh λx m=>⟨[x],.dat oB,rfl,e5 x m,rfl⟩)).trans ?_;unfold L5;rw[show f9 aX (f6 L1 (f6 (u4 E5 iE D7) u5)) S=_ from A7 g0 g1 e4];rfl;rw[Ot,len]
 have v:A2 (L5 E2) B3 A5 AH S=U (.own (C2 d.n oB)):=by
  refine(ar (items:=d.hs.map B6) (l:=(d.hs.map B6).map λ_=>oB) (by rw[<-hq];rfl) (by rw[E7];exact C3 n4 f5) (sh λx m=>⟨[x],.dat oB,rfl,rfl,rfl⟩)).trans ?_;rw[Ot,E7]
 exact(Q9 u v).trans (a1C n4)
section
variable{T:DB}
theorem cons_of{A:DL}(a:G r=sd K)(b:A r=U u):f6 G A r=U (K::u):=by unfold f6;rw[a,z9,b,z9];rfl
theorem xp{A:DL}(a:A r=U u)(b:u.length<=1000000:=by simp):y4 A r=sd (.tuple u):=by unfold y4;rw[a];exact t2 b
theorem a0U(a:v r=sd (.int D))(b:G r=sd (.int E)):A1 (u4 tL v G) r=U (decide (D<E)):=by unfold A1;rw[Q9 a b];rfl
theorem a1B(a:G r=sd (.int D)):A1 (u4 S5 G D7) r=U (decide (D=0)):=by unfold A1;rw[Q9 (y:=.dat (.int 0)) a rfl];rfl
theorem VM{S:DB}{v w:Bool}(a:S r=U c7)(b:T r=U v)(c:(c7&&v)=w):fO S T r=U w:=by subst c;unfold fO;rw[a,b];cases c7<;>rfl
end
theorem Vv(a:0<=D)(b:D<3):D2 4 (1,1+D)/\(0<(1:Int)/\(1:Int)<=1+D):=by
 have:D=0\/D=1\/D=2:=by omega
 rcases this with rfl|rfl|rfl<;>exact⟨⟨by decide,by decide,⟨by decide⟩,⟨by decide⟩⟩,by decide,by decide⟩
theorem Ts(ns:List Int)(hl:ns.length<=63):sv [mW ns]=sd (.bool Uf):=by
 have D:=λ(k m:Int) (h0:0<=k) (h1:k<=100) (y:0<m)=>vE (k:=k) (m:=m) hl h0 (cQ h1 f5) y
 obtain⟨w,ew,w0,w1⟩:=D 1 2 f5 f5 f5;obtain⟨c,hc,c0,c1⟩:∃c:Int,aG [Z7 4,.int 12] w=U (.int c)/\0<c/\c<=12:=by
  have:w=0\/w=1:=by omega
  rcases this with rfl|rfl<;>exact⟨_,rfl,by decide,by decide⟩
 obtain⟨k',ek,k0,k1⟩:=D 0 c f5 f5 c0;obtain⟨k,hk⟩:∃k:Nat,1+k'=(k:Int):=⟨(1+k').toNat,by omega⟩;obtain⟨hs,e2,len,O⟩:=TH (k:=k) hl (by omega)
 obtain⟨r,er,r0,r1⟩:=D 3 9 f5 f5 f5;obtain⟨q,eq,q0,q1⟩:=D 4 2 f5 f5 f5;obtain⟨a,ea,a0,a1⟩:=D 5 3 f5 f5 f5;obtain⟨b,eb,b0,b1⟩:=D 6 3 f5 f5 f5;have fin:∀{f t r:Int} {kp lf:Q2},0<=f->f<=1000000->0<=t->t<=1000000->0<=r->r<=1000->D2 4 kp/\(0<kp.1/\kp.1<=kp.2)->D2 4 lf/\(0<lf.1/\lf.1<=lf.2) ->
   Cb [sd (mW ns),iD (k:Int),sd (.tuple (hs.map B6)),sd (.tuple [.int 0,.int 0,.int f,.int t,fr kp,fr lf,.int r]),J,J,J,J,J,J,J,J]=U (.ret (.dat (.bool Uf))):=λ{f t r kp lf} f0 f1 t0 t1 r0 r1 K L=>by
  have H:J2 ⟨hs,0,0,f,t,kp,lf,r,[]⟩:=⟨by show 1<=hs.length;omega,by show hs.length<=12;omega,by show 0<=2;decide,K.1,K.2,L.1,L.2,(show(0:Int)<=0/\(0:Int)<=0/\(0:Int)<=1000000 by decide),⟨f0,f1⟩,⟨t0,t1⟩,⟨r0,r1⟩,λi m=>?_,λi x y z u m e=>?_,λj m=>absurd m (mm _),λj m=>absurd m (mm _)⟩;have:=Tt (ns:=ns) H ⟨rfl,rfl,rfl⟩ O;rw[show(A8.n ⟨hs,0,0,f,t,kp,lf,r,[]⟩)=k from len]at this;exact this;have B:=O (hs.getD i Z1) (by rw[iz,K7 m];exact rd m);have:=B.V0;have:=B.need;show 0<=(hs.getD i Z1).V0/\(hs.getD i Z1).V0<=1000000/\0<=(hs.getD i Z1).need/\(hs.getD i Z1).need<=1000000;omega;have B:=O (hs.getD i Z1) (by rw[iz,K7 m];exact rd m);have:=B.line x y z u e;unfold Gq VR at this;omega
 refine M5 rfl ?_;refine u6 (ds1:=[sd (mW ns),iD (k:Int),J,J,J,J,J,J,J,J,J,J]) (A0 (pv:=.dat (.int (1+k'))) (ik rfl (mY rfl rfl ((Q9 (x:=.own [.int 4,.int 12]) (y:=.dat (.int w)) rfl (mY rfl rfl rfl ew)).trans (ixl hc)) ek)) (by rw[hk];rfl)) ?_;refine u6 (ds1:=[sd (mW ns),iD (k:Int),sd (.tuple (hs.map B6)),J,J,J,J,J,J,J,J,J]) (A0 (A7 rfl rfl e2) rfl) ?_;refine u6 (A0 (pv:=.dat (.tuple [.int 0,.int 0,.int 0,.int 0,fr (1,2),fr (9,10),.int r])) (xp (cons_of rfl (cons_of rfl (cons_of rfl (cons_of rfl (cons_of rfl (cons_of rfl (cons_of (mY rfl rfl rfl er) rfl)))))))) rfl) ?_;by_cases z:(k:Int)<5/\q=0;refine u6 (ij (b:=Uf) ?_ (A0 (pv:=.dat (.tuple [.int 0,.int 0,.int 5,.int 7,fr (1,1+a),fr (1,1+b),.int 3])) (xp (cons_of rfl (cons_of rfl (cons_of rfl (cons_of rfl (cons_of (xp (cons_of rfl (cons_of (ik rfl (mY rfl rfl rfl ea)) rfl))) (cons_of (xp (cons_of rfl (cons_of (ik rfl (mY rfl rfl rfl eb)) rfl))) (cons_of rfl rfl)))))))) rfl)) (fin f5 f5 f5 f5 f5 f5 (Vv a0 a1) (Vv b0 b1));exact VM (a0U rfl rfl) (a1B (mY rfl rfl rfl eq)) (by rw[iq z.1,iq z.2];rfl);refine u6 (ij (b:=U') ?_ rfl) (fin f5 f5 f5 f5 r0 (cQ (U6 r1) f5) ⟨⟨by decide,by decide,⟨by decide⟩,⟨by decide⟩⟩,by decide,by decide⟩ ⟨⟨by decide,by decide,⟨by decide⟩,⟨by decide⟩⟩,by decide,by decide⟩);exact VM (a0U rfl rfl) (a1B (mY rfl rfl rfl eq)) (by rw[<-Bool.decide_and,Z9 z])
end Law
local macro_rules|`(tactic|walk_at "c")=>`(tactic|exact⟨rfl,rfl,rfl,by decide +kernel,rfl,by decide +kernel,by decide +kernel⟩)
namespace Law
open PySem L2
variable{P:M3}{w:E3}{base:Heap}{X:Cx}{Z:Nat}{e Q H:Expr}{Y:DL}{p L:Pos}{S I:List Str}{R:eV}{x:Str}{O:TI}{g:TG}{M:List Expr}{G:TE}{E:f7->Option (List f7)}{D:DV}{C:DO}{B:TT}{A:DB}{z:y7}{y:Stmt}{v:Addr}{u:U5}{r:List t5->Prop}
def top(i:Nat):Stmt:=PySem.Challenge.pw_sunstore_k94_whole_long_days_without_a_s.main.body.getD i (.Pass ⟨0,0,0,0⟩)
inductive Rw(K:y7)(m n:Str)(s:Stmt)(f:Addr):U5->Prop
 |mk {oc kV dc pm cd ct:t5} {od an:Option Addr} {sl:Array (Option t5)} (l:K.lookup f=U ⟨oc,od,.func (hH m n (je s) (cH s) (N7 s) .none kV dc pm an cd ct),sl⟩) (c:yV K cd n=Uf) (k:hP K (.ref f)=Uf):Rw K m n s f (hH m n (je s) (cH s) (N7 s) .none kV dc pm an cd ct)
theorem Vj{n:Str}(r:Rw z x n y v u):uR z x n y v u:=by obtain⟨l,c,k⟩:=r;exact a1v l c k
theorem b00(h:r []):∀us,us.length=0->r us:=λus e=>by
 cases us with
 |nil=>exact h
 |cons _ _=>cases e
theorem b01(h:∀x,∀us,us.length=Z->r (x::us)):∀us,us.length=Z+1->r us:=λus e=>by
 cases us with
 |nil=>cases e
 |cons x t=>exact h x t (yO e)
local macro_rules|`(tactic|walk_at "b")=>`(tactic|(intro _ _ _ _ _ _;repeat first|exact b00 rfl|refine b01 λ_=>?_))
structure Dd(K:y7)(Jff:Prop)(n q:Str)(s:Stmt)(N:List Str)(k:Nat)(f:Addr)(fd:U5):Prop where
 F:uR K n q s f fd
 m:Jff
inductive De where
 |f (n:Str) (i:Nat) (N:List Str) (k:Nat)
 |m (n q:Str) (i j:Nat) (N:List Str) (k:Nat)
 |i (q:Str) (i j:Nat) (N:List Str) (k:Nat)
inductive Nd(K:y7)(C:Addr):De->Addr->U5->Prop
 |f {n:Str} {i k:Nat} {N:List Str} {f:Addr} {d:U5} (a:fR K aA n=U (U (.ref f))) (r:Rw K n n (top i) f d):Nd K C (.f n i N k) f d
 |m {n q:Str} {i j k:Nat} {N:List Str} {f:Addr} {d:U5} (a:bq K (.ref C) n=U (U (.ref f))) (b:uA K (.ref f)=Uf) (r:Rw K n q (inClass (top i) j) f d):Nd K C (.m n q i j N k) f d
 |i {q:Str} {i j k:Nat} {N:List Str} {f:Addr} {d:U5} (a:bq K (.ref C) "__init__" = U (U (.ref f))) (b:uA K (.ref f)=Uf) (r:Rw K "__init__" q (inClass (top i) j) f d):Nd K C (.i q i j N k) f d
inductive Ns(K:y7)(C:Addr):List De->List Addr->List U5->Prop
 |n:Ns K C [] [] []
 |c {e:De} {l:List De} {f:Addr} {fs:List Addr} {d:U5} {ds:List U5}:Nd K C e f d->Ns K C l fs ds->Ns K C (e::l) (f::fs) (d::ds)
theorem Ns.at{K:y7}{C:Addr}{d0:U5}{e:De}:∀{l:List De} {fs:List Addr} {ds:List U5} {i:Nat},Ns K C l fs ds->l[i]? = U e->Nd K C e (fs.getD i 0) (ds.getD i d0)
 |_,_,_,0,.c h _,m=>by cases m;exact h
 |_,_,_,_+1,.c _ t,m=>t.at m
abbrev VL(n q:Str)(s:Stmt)(N:List Str)(k:Nat):Prop:=∀(kV doc pm:t5) (an:Option Addr) (cdv ct:t5) (us:List t5),us.length=k->bindArgs (hH n q (je s) (cH s) (N7 s) .none kV doc pm an cdv ct) ⟨us,[]⟩=pure ((N.take k).zip us)
theorem Nd.to{K:y7}{C:Addr}{n:Str}{i k:Nat}{N:List Str}{f:Addr}{d:U5}(h:Nd K C (.f n i N k) f d)(b:VL n n (top i) N k)(s:v7)(us:List t5)(l:us.length=k):lY s d ⟨us,[]⟩ ((N.take k).zip us):=by
 cases h with
 |f a r =>
  cases r with
  |mk _ _ _=>exact .of_eq (b _ _ _ _ _ _ us l)
section
variable{K:y7}{mg:Str->Option t5}{n q:Str}{s:Stmt}{N:List Str}{k l:Nat}{f:Addr}{fd:U5}{h:Heap}{Jff:Prop}{P:M3}{w:E3}{base:Heap}
structure Ok(P:M3)(w:E3)(mg:Str->Option t5)(base:Heap)(D:Dd K Jff n q s N k f fd)(l:Nat)(sp:Sp):Prop where
 h:bz P w K mg base sV l f fd (N.take k) sp
 b:Binds K fd (N.take k) []
abbrev okT(P:M3)(w:E3)(K:y7)(mg:Str->Option t5)(base:Heap)(N:List Str)(q:Str)(s:Stmt)(f:Addr)(l:Nat)(G:DO):Prop:=∀(cdv:t5) (A:Z0) (outer:List Env) (s':v7) (H:Hp) (E:XK),N.Nodup->O9 l (A.deeper (PyProof.Rows.envOfC q (N7 s) s'.heap.objs.size f cdv))->∃t,mQ (qk sV P w K mg base N q (N7 s) f cdv A outer s' H E).AZ (cH s) t G
theorem okA(D:Dd K Jff n q s N k f fd)(b:okT P w K mg base N q s f l C)(e:autoParam ((N.take k).length<=N.length) H0)(z:VL n q s N k:=by walk_at "b")(S:kR N (N.take k) (N7 s):=by walk_at "c")(r:autoParam ((N.take k).length=k) t8):Ok P w mg base D (l+1) (G4 K (K6 (N.take k).length N.length C)):=⟨D.F.okF S e λ_ _ _ _ _ _ hr=>b _ _ _ _ _ _ S.nd hr,D.F.binds λ_ _ _ _ _ _ us hl=>z _ _ _ _ _ _ us (hl.trans r)⟩
theorem okB(D:Dd K Jff n q s N k f fd)(b:okT P w K mg base N q s f l C)(e:autoParam ((N.take k).length<=N.length) H0)(z:VL n q s N k:=by walk_at "b")(S:kR N (N.take k) (N7 s):=by walk_at "c")(r:autoParam ((N.take k).length=k) t8):Ok P w mg base D (l+1) (lG K (qJ (N.take k).length N.length C)):=⟨D.F.okO S e λ_ _ _ _ _ _ hr=>b _ _ _ _ _ _ S.nd hr,D.F.binds λ_ _ _ _ _ _ us hl=>z _ _ _ _ _ _ us (hl.trans r)⟩
end
inductive Al(p:Str->Prop):List Str->Prop
 |n:Al p []
 |c {s:Str} {r:List Str}:p s->Al p r->Al p (s::r)
theorem Al.at{p:Str->Prop}{s:Str}:∀{l:List Str},Al p l->s∈l->p s
 |_::_,.c h t,m=>by
  cases m with
  |head=>exact h
  |tail _ m=>exact t.at m
theorem pcD{mg':Str->Option t5}{fr:Bool}{t:TA}{k':Nat}{k0:Nat}{q:Str}{f':FV}{D:Dd z (mg' x=U (.ref v)) x q y S k0 v u}(G:Ok X.prog X.w mg' X.base D Z (G4 z f'))(hr:O9 k' X.A)(ha:et X fr (e::M) t Y)(eK:autoParam (X.K=z) t8)(em:autoParam (X.mg=mg') t8)(hk:Z<=k':=by omega)(hg:Gl X x:=by exact rfl)(hdb:autoParam ((x==("__debug__" : Str))=U') H0)(he:autoParam (w4 (e::M) X.env=(U',eval e X.env)::w4 M X.env) t8)(hpl:autoParam ((H9 L (w4 M X.env)).any (·.1)=U') t8):PX X fr (.Call (.Name x p) (e::M) [] L) (rC (G4 z f') [] E0 t) (f9 f' Y):=RF eK (em▸G.h) (hr.mono hk) hg (em▸D.m) D.F.kp G.b fY ha hdb he hpl
noncomputable def Va:Expr->List Str
 | .Name x _=>[x]
 | .Tuple es _ _=>es.filterMap fun | .Name x _=>U x|_=>J
 |_=>[]
theorem bkN(h:gT X.N X.N X.env.scope R=Uf):gT X.N X.N X.env.scope R=Uf:=h
theorem bkL(nb:List Str)(h:gT X.N nb X.env.scope R=Uf):gT X.N nb X.env.scope R=Uf:=h
theorem RE(hc:X.calm=Uf)(hk:gT X.N I X.env.scope R=Uf)(hb:Va Q=S)(hgt:sO X.K S.length g E)(hi:gD X Uf Q H O Y)(go:kb S.length g)(hg:∀cl C fp s a pins,PG (Y2 X S I R cl C fp s a pins) Q g)(ht:∀cl C fp s a pins,pV (Y2 X S I R cl C fp s a pins) M B A)(he:∀cl C fp s a pins,PX (Y2 X S I R cl C fp s a pins) Uf e G D)(hs:autoParam (∀x,eM H X.env x=pure x) X0):PX X Uf (.ListComp e [⟨Q,H,M,0⟩] R p) (hZ S O g B G) (A2 Y E A D):=zI hc (yx hk) hi go hg hgt ht he hs
theorem Jk{pos':Pos}(hN:X.N.Nodup)(hi':X.N[Z]? = U x)(hx:Loc X.env.scope x)(hc:X.calm=Uf)(hk:gT X.N I X.env.scope R=Uf)(hb:Va Q=S)(hgt:sO X.K S.length g E)(hi:gD X Uf Q H O Y)(go:kb S.length g)(hg:∀cl C fp s i pins,PG (Y2 X S I R cl C fp s i pins) Q g)(he:∀cl C fp s i pins,PX (Y2 X S I R cl C fp s i pins) Uf e G D)(hsw:autoParam (cw (.ListComp e [⟨Q,H,[],0⟩] R L) (U (.Name x pos')) p.line X.env=pure Uf) t8)(hf:autoParam (X.fn x=Uf\/X.env.scope.names.lookup x=U .local) dR)(hs:autoParam (∀x,eM H X.env x=pure x) X0):P5 X (.Assign [.Name x pos'] (.ListComp e [⟨Q,H,[],0⟩] R L) p) (iC (hZ S O g xt G) (Y7 Z)) (R9 Z (lQ Y E D)):=LQ hN hi' hx hc (yx hk) hi go hg hgt he hsw hf hs
theorem Jm{pos':Pos}(hN:X.N.Nodup)(hi':X.N[Z]? = U x)(hx:Loc X.env.scope x)(hc:X.calm=Uf)(hk:gT X.N I X.env.scope R=Uf)(hb:Va Q=S)(hgt:sO X.K S.length g E)(hi:gD X Uf Q H O Y)(go:kb S.length g)(hg:∀cl C fp s i pins,PG (Y2 X S I R cl C fp s i pins) Q g)(ht:∀cl C fp s i pins,pV (Y2 X S I R cl C fp s i pins) M B A)(he:∀cl C fp s i pins,PX (Y2 X S I R cl C fp s i pins) Uf e G D)(hsw:autoParam (cw (.ListComp e [⟨Q,H,M,0⟩] R L) (U (.Name x pos')) p.line X.env=pure Uf) t8)(hf:autoParam (X.fn x=Uf\/X.env.scope.names.lookup x=U .local) dR)(hs:autoParam (∀x,eM H X.env x=pure x) X0):P5 X (.Assign [.Name x pos'] (.ListComp e [⟨Q,H,M,0⟩] R L) p) (iC (hZ S O g B G) (Y7 Z)) (u9 Z (A2 Y E A D)):=LS hN hi' hx hc (yx hk) hi go hg hgt ht he hsw hf hs
theorem Jl{pos':Pos}(hN:X.N.Nodup)(hi':X.N[Z]? = U x)(hx:Loc X.env.scope x)(hc:X.calm=Uf)(hk:gT X.N I X.env.scope R=Uf)(hb:Va Q=S)(hgt:sO X.K S.length g E)(hi:gD X Uf Q H O Y)(go:kb S.length g)(hg:∀cl C fp s i pins,PG (Y2 X S I R cl C fp s i pins) Q g)(ht:∀cl C fp s i pins,pV (Y2 X S I R cl C fp s i pins) M B A)(he:∀cl C fp s i pins,PX (Y2 X S I R cl C fp s i pins) Uf e G D)(hsw:autoParam (cw (.ListComp e [⟨Q,H,M,0⟩] R L) (U (.Name x pos')) p.line X.env=pure Uf) t8)(hf:autoParam (X.fn x=Uf\/X.env.scope.names.lookup x=U .local) dR)(hs:autoParam (∀x,eM H X.env x=pure x) X0):P5 X (.Assign [.Name x pos'] (.ListComp e [⟨Q,H,M,0⟩] R L) p) (iC (hZ S O g B G) (Y7 Z)) (R9 Z (A2 Y E A D)):=LR hN hi' hx hc (yx hk) hi go hg hgt ht he hsw hf hs
theorem RU{body:List Stmt}{tb:TS}{gt:f7->DD}(hp:uk (model X.prog X.w) X.A X.env X.xe)(hc:X.calm=Uf)(hgt:Oj X.K g gt)(hi:gD X Uf e Q O Y)(hg:PG X e g)(hb:mQ X body tb C)(hs:autoParam (∀x,eM Q X.env x=pure x) X0):P5 X (.For e Q body [] p) (QT O g tb) (J3 Y gt C):=Xg hp hc hi hg hgt hb hs
mutual
inductive Cs(K:y7):t5->V->f7->Prop
 |i {n:Int} {t:Tok}:Cs K (.int n t) (.int n) (.int n)
 |t {a:Addr} {d:Option Addr} {n:Nat} {s:Array (Option t5)} {us:List t5} {vs:List V} {ds:List f7} (l:K.lookup a=U ⟨.type "tuple",d,.seq us.toArray n,s⟩) (z:us.toArray.size<=1000) (h:Cl K us vs ds):Cs K (.ref a) (.ref a) (.tuple ds)
inductive Cl(K:y7):List t5->List V->List f7->Prop
 |n:Cl K [] [] []
 |c {u:t5} {us:List t5} {v:V} {vs:List V} {d:f7} {ds:List f7} (a:Cs K u v d) (b:Cl K us vs ds):Cl K (u::us) (v::vs) (d::ds)
end
mutual
theorem Cs.to{K:y7}{u:t5}{v:V}{d:f7}(h:Cs K u v d):RelV v u/\∀H,Dt K H v d:=by
 cases h with
 |i=>exact⟨⟨_,rfl⟩,λ_=>.int _⟩
 |t l z h=>exact⟨rfl,Uq l z h.to.1 h.to.2⟩
theorem Cl.to{K:y7}{us:List t5}{vs:List V}{ds:List f7}(h:Cl K us vs ds):Vals vs us/\∀H,C7 K H vs ds:=by
 cases h with
 |n=>exact⟨.nil,λ_=>.nil⟩
 |c a b=>exact⟨.cons a.to.1 b.to.1,λH=>.cons (a.to.2 H) (b.to.2 H)⟩
end
inductive Ck(K:y7):List (Str×f7)->List Addr->Prop
 |n:Ck K [] []
 |c {s:Str} {d:f7} {l:List (Str×f7)} {a:Addr} {as:List Addr} (e:fR K aA s=U (U (.ref a))) (h:Cs K (.ref a) (.ref a) d) (r:Ck K l as):Ck K ((s,d)::l) (a::as)
theorem Ck.at{K:y7}{s:Str}{d:f7}{l:List (Str×f7)}{as:List Addr}{i:Nat}(h:Ck K l as)(m:l[i]? = U (s,d)):fR K aA s=U (U (.ref (as.getD i 0)))/\Cs K (.ref (as.getD i 0)) (.ref (as.getD i 0)) d:=by
 induction h generalizing i with
 |n=>exact nE m
 |c a b _ j=>cases i with
  |zero=>cases m;exact⟨a,b⟩
  |succ i=>exact(j (i:=i) m :)
def cts:List (Str×f7):=[("FREE",oA),("LACKED",Eu),("NOUGHT_best",K0),("NOUGHT_costs",bK),("NOUGHT_ledgers",au),("NOUGHT_solving",N8),("NO_LINE",ud),("PARTS",gk),("UNDONE",xh)]
structure Ads where
 f:Nat->Addr
 d:Nat->U5
 u:Nat->Addr
 C:Addr
noncomputable def VG:List De:=[.f "common_divisor" 4 ["one","other","rest"] 2,
 .f "fraction" 5 ["top","bottom","divisor"] 2,
 .f "plus" 6 ["one","other","shared","top","divisor"] 2,
 .f "minus" 7 ["one","other"] 2,
 .f "times" 8 ["one","other","divisor","other_divisor","top"] 2,
 .f "over" 9 ["one","other"] 2,
 .f "under" 10 ["one","other"] 2,
 .f "common_multiple" 14 ["numbers","told","number"] 1,
 .f "whole" 15 ["one","by"] 2,
 .f "scale_of" 16 ["rows","choice"] 2,
 .f "column_of" 17 ["rows","choice","scale"] 3,
 .f "unit_row" 18 ["count","place","row"] 2,
 .f "product" 19 ["row","other"] 2,
 .f "column_product" 20 ["row","column"] 2,
 .f "turned" 21 ["row","pivot_row","factor","pivot","size"] 5,
 .i "Table.__init__" 22 0 ["self","costs","rows","rights","tops","first"] 6,
 .m "set_weights" "Table.set_weights" 22 1 ["self","costs","part","weights","multiple"] 2,
 .m "set_limits" "Table.set_limits" 22 2 ["self","rights","tops","heights","bottoms"] 3,
 .m "first_prices" "Table.first_prices" 22 3 ["self","part"] 2,
 .m "rest" "Table.rest" 22 4 ["self","part","choice"] 3,
 .m "amounts" "Table.amounts" 22 5 ["self"] 1,
 .m "paces" "Table.paces" 22 6 ["self","choice"] 2,
 .m "flip" "Table.flip" 22 7 ["self","choice","by","place","number"] 2,
 .m "turn" "Table.turn" 22 8 ["self","choice","place","paces","sign","pivot","pivot_row","part","factor","inverse"] 4,
 .f "gain_of" 23 ["table","choice","sign","part","rest"] 2,
 .f "moving" 24 ["table","careful","told","best","choice","gain"] 2,
 .f "stops" 25 ["table","choice","paces","found","sign","place","amount","number","limit","pace"] 3,
 .f "sooner" 26 ["one","other","length","other_length"] 2,
 .f "first_stop" 27 ["found","told","stop"] 1,
 .f "move" 28 ["table","choice","paces","stop"] 4,
 .f "mix_of" 29 ["table","tops","mix","choice","amount"] 2,
 .f "price_of" 30 ["table","place","parts"] 2,
 .f "way_of" 31 ["table","choice","paces","way","number","pace"] 3,
 .f "solved" 32 ["costs","rows","rights","tops","first","table","choice","paces","stop"] 5,
 .f "added" 34 ["one","other"] 2,
 .f "multiplied" 35 ["one","by"] 2,
 .f "coins" 41 ["price"] 1,
 .f "into" 42 ["hour"] 1,
 .f "out_of" 43 ["hour"] 1,
 .f "hour_choices" 44 ["number","hour","choices","line"] 2,
 .f "store_choices" 45 ["house","number","count","hour","store","filled","taken","end"] 2,
 .f "work_choices" 46 ["house","number","work","row","choices","hour","numbers"] 2,
 .f "choices_of" 47 ["house","found","number","hour"] 1,
 .f "rows_of" 48 ["choices","count","rows","place","choice","row","one"] 2,
 .f "rights_of" 49 ["house","needs","starts"] 1,
 .f "first_names" 50 ["house","needs","levels"] 1,
 .f "parted" 51 ["store","filled","taken","more"] 3,
 .f "plan_of" 52 ["house","amounts","plan","hour","traded","stored","worked"] 2,
 .f "prices_of" 53 ["house","told","count","here","stored","behind","price"] 2,
 .f "best_plan" 54 ["house","choices","names","costs","tops","rights","first","answer"] 1,
 .f "spilt_in" 58 ["hour","deeds","left","rest","part"] 3,
 .f "lost_in" 59 ["deeds","kept","left","filling","taking"] 3,
 .f "ledger" 60 ["house","plan","store","kept","left","level","entries","hour","deeds"] 2,
 .f "beyond" 61 ["one","most"] 2,
 .f "hour_faults" 62 ["house","number","deeds","entry","hour","store","line","bounded","found"] 4,
 .f "work_faults" 63 ["work","number","plan","found","undone","hour","deeds","part","most"] 3,
 .f "faults" 64 ["house","plan","found","number","entry","work"] 2,
 .f "coins_of" 67 ["line","deeds"] 2,
 .f "hour_costs" 68 ["hour","deeds","worked","part"] 2,
 .f "costs" 69 ["house","plan","store","level","entry","amounts","told","hour","deeds"] 2,
 .f "_law_draw" 71 ["_law_script","_law_k","_law_many","_law_cell","_law_mixed"] 3,
 .f "_law_same" 72 ["_law_found","_law_due"] 2,
 .f "_law_hours" 73 ["_law_script","_law_many","_law_by","_law_hours_here","_law_t","_law_k","_law_line","_law_buy"] 2,
 .f "_law_hour_best" 74 ["_law_sun","_law_need","_law_line","_law_price","_law_most","_law_worth","_law_top","_law_lack","_law_least","_law_found","_law_bought","_law_given"] 3,
 .f "law" 75 ["_law_script","_law_many","_law_hours_here","_law_store","_law_house","_law_lack","_law_money","_law_sun","_law_need","_law_line","_law_own","_law_told"] 1]
structure Txt(K:y7)(mg:Str->Option t5)(a:Ads):Prop where
 f:∀(i:Nat) {n:Str} {t k:Nat} {N:List Str},VG[i]? = U (.f n t N k)->Dd K (mg n=U (.ref (a.f i))) n n (top t) N k (a.f i) (a.d i)
 m:∀(i:Nat) {n q:Str} {t j k:Nat} {N:List Str},VG[i]? = U (.m n q t j N k)->Dd K (Meth K a.C n (a.f i)) n q (inClass (top t) j) N k (a.f i) (a.d i)
 i:∀(i:Nat) {q:Str} {t j k:Nat} {N:List Str},VG[i]? = U (.i q t j N k)->Dd K (Mk K a.C (a.f i)) "__init__" q (inClass (top t) j) N k (a.f i) (a.d i)
 cn:eh K "Table" a.C
 mc:mg "Table" = U (.ref a.C)
 na:∀s∈(["scales","columns","multiples","weights","unit","rights","limits","chosen","full","size","inverse","prices"]:List Str),aI K a.C s
 n:∀s∈(["abs","all","bool","dict","enumerate","int","isinstance","len","list","max","min","range","reversed","sorted","str","sum","tuple","zip"]:List Str),mg s=J
 v:∀(i:Nat) {s:Str} {d:f7},cts[i]? = U (s,d)->mg s=U (.ref (a.u i))/\RelV (.ref (a.u i)) (.ref (a.u i))/\∀H,Dt K H (.ref (a.u i)) d
set_option hygiene false
local macro_rules|`(tactic|walk_at "n")=>`(tactic|first|exact nd|(dsimp only[Y2,Cx.AZ,qk];decide +kernel))
local macro_rules|`(tactic|walk_at "v")=>`(tactic|first|exact Or.inl rfl|exact Or.inr rfl)
local macro_rules|`(tactic|walk_at "o")=>`(tactic|(first|apply vK|apply GK|apply XH|apply SM|apply SJ|apply XI|apply SI|apply tI|apply SH|apply GI|apply Dc|apply GG|apply Jz|apply vL|apply Mr|apply JD|apply Mw|apply SK|apply Ms|apply BD|apply Mx|apply GJ|apply Mq|apply Mt|apply SQ|apply BB|apply SO|apply XJ|apply Mv|apply xO|apply wJ|apply xN|apply BE|apply Jy|apply CY|apply zS|apply Mu|apply JA|apply CZ|apply Df|apply GH|apply JB|apply My|apply MD|apply zR|apply zP|apply MC|apply GL|apply BC|apply SN|apply MB|apply MA|apply JC|apply zQ|apply Mz|exact o)<;>exact T)
local macro_rules|`(tactic|walk_at "t")=>`(tactic|first|exact QP|exact QO|exact Cq|exact Cq|exact QM|exact Wm (by repeat first|exact QN|apply Lc))
local macro_rules|`(tactic|walk_at "w")=>`(tactic|first|exact Nt f5|exact DP (jA (jA Bm f5) f5)|exact DP (jA (jA (jA Bm f5) f5) f5))
local macro_rules|`(tactic|walk_at "m")=>`(tactic|first|exact(rfl : _ = [_])|exact(rfl : _ = [_,_])|exact(rfl : _ = [_,_,_]))
local macro_rules|`(tactic|walk_at "u")=>`(tactic|first|exact bkN rfl|exact bkL ["choices","count","rows","place","choice","row'","one"] rfl|exact bkL ["house","told","count","here","stored","behind","price'"] rfl)
local macro_rules|`(tactic|walk_at "l")=>`(tactic|first|exact RE rfl (by walk_at "u") (by walk_at "m") (by walk_at "t") (by walk_at "q") (by walk_at "w") (λ_ _ _ _ _ _=>(by walk_at "q")) (λ_ _ _ _ _ _=>(by walk_at "q")) (λ_ _ _ _ _ _=>(by walk_at "q")))
seal f6 u5 qo F9 qm fO ue sL A1 Y9 S5 kL fC f9 jF eU A2 lQ G7 jd jE S3 yp mN fN aq U4 O6 rR rQ P4 Ec O0 iJ u4 Iq oy y4 X3 gS t6 S9 bh dk lj Q1 ot J3 yg O5 rN Y7 tX nq Y6 cM E8 lO V7 t9 R9 vB u9 cL wR Kd lN Il ye E9 L5 ya kH jc gQ E5 oq F6 pK tL Aa maxD xU gJ R5 fw iH di P6 ie tA R4 js IZ xv df tj fH Z6
local macro_rules|`(tactic|walk_at "x")=>`(tactic|first|apply ZW|(show PX _ _ _ _ (t6 _);exact ZT _ (pv _))|(show PX _ _ _ _ (fC _);first|exact a0b|exact a2B|exact ZV|exact ZZ|exact eB rfl (T.v 0 rfl)|exact eB rfl (T.v 1 rfl)|exact eB rfl (T.v 2 rfl)|exact eB rfl (T.v 3 rfl)|exact eB rfl (T.v 4 rfl)|exact eB rfl (T.v 5 rfl)|exact eB rfl (T.v 6 rfl)|exact eB rfl (T.v 7 rfl)|exact eB rfl (T.v 8 rfl))|(show PX _ _ _ _ (u4 E5 _ _);exact a2z (r:=Hw K) DK a4k (by walk_at "q") (by walk_at "q") (λ_ _=>rfl))|apply rG XB a2h|apply rG (r:=Ji K) XG a2n|apply rG SG YS|apply rG XC a2i|apply rG a0B a2e|apply rG (r:=Je K) XA YL|apply rG a0C a2f|apply CN (r:=Jg K) (Mp hr.units) YT (fK _)|apply CN Jv YN (fK _)|apply CN Mo YR (fK _)|apply a2x Zc a2g|apply WM|(show PX _ _ _ _ (jE _ _);exact RB hr.u1 (by walk_at "q") (by walk_at "q"))|(show PX _ _ _ _ (jd _ _ _);exact LK hr.u1 (by walk_at "q") (by walk_at "q") (by walk_at "q"))|(show PX _ _ _ _ (yp _);exact RA (K':=K) rfl hr.u2 hr.hd rfl (T.n _ f5) A9 rfl (T.n _ f5) A9 (by walk_at "q"))|(show PX _ _ _ _ (rQ kH _ _);exact LJ (K':=K) hr.units rfl (by walk_at "q") (by walk_at "q"))|apply ZU|apply a0a|apply a2A|apply a0e|apply a2y|apply ZY|apply a0c|apply a0d|(show PX _ _ _ _ (S9 _);exact WL _ (pv _))|(show PX _ _ _ _ (f9 _ _);first|(show PX _ _ _ _ (f9 F6 _);exact iG (r:=Rr K) Ob a2l rfl (T.n _ f5) A9 (by walk_at "q"))|(show PX _ _ _ _ (f9 qo _);exact iG Uz a2o rfl (T.n _ f5) A9 (by walk_at "q"))|(show PX _ _ _ _ (f9 qm _);exact iG (r:=Jh K) (Od hr.hd) YU rfl (T.n _ f5) A9 (by walk_at "q"))|(show PX _ _ _ _ (f9 tj _);exact iG (r:=Jd K) (NY hr.hd) YK rfl (T.n _ f5) A9 (by walk_at "q"))|(show PX _ _ _ _ (f9 maxD _);exact iG (Oa rfl) a2j rfl (T.n _ f5) A9 (by walk_at "q"))|(show PX _ _ _ _ (f9 xU _);exact iG (r:=Jf K) (NZ hr.hd) YM rfl (T.n _ f5) A9 (by walk_at "q"))|(show PX _ _ _ _ (f9 xv _);exact iG (r:=CI K) Eo KG rfl (T.n _ f5) A9 (by walk_at "q"))|(show PX _ _ _ _ (f9 fH _);exact AW (r:=a2u K) BI VV rfl (T.n _ f5) A9 (by walk_at "q"))|(show PX _ _ _ _ (f9 pK _);exact AW (r:=ZN K) Ep YO rfl (T.n _ f5) A9 (by walk_at "q"))|exact pcD (by walk_at "o") hr (by walk_at "q"))|(show PX _ _ _ _ (A2 _ _ _ _);walk_at "l")|(show PX _ _ _ _ (U4 "int" _);exact oe rfl TZ rfl (T.n _ f5) A9 (by walk_at "q") (qx (v:=.ty "int") rfl (T.n _ f5) A9 rfl))|(show PX _ _ _ _ (U4 "bool" _);exact oe rfl Nx rfl (T.n _ f5) A9 (by walk_at "q") (qx (v:=.ty "bool") rfl (T.n _ f5) A9 rfl))|(show PX _ _ _ _ (U4 "tuple" _);exact oe rfl Kf rfl (T.n _ f5) A9 (by walk_at "q") (qx (v:=.ty "tuple") rfl (T.n _ f5) A9 rfl))|(show PX _ _ _ _ (U4 "list" _);exact oe rfl Nw rfl (T.n _ f5) A9 (by walk_at "q") (qx (v:=.ty "list") rfl (T.n _ f5) A9 rfl))|(show PX _ _ _ _ (U4 "str" _);exact oe rfl TY rfl (T.n _ f5) A9 (by walk_at "q") (qx (v:=.ty "str") rfl (T.n _ f5) A9 rfl))|apply Rv (r:=ZL K) Zv a4i|(show PX _ _ _ _ (rQ ya _ _);exact Rz (by walk_at "q") (by walk_at "q"))|(show PX _ _ _ _ (G7 _ _ _);exact RC rfl T.cn (T.na _ f5) (by walk_at "q"))|(show PX _ _ _ _ (O0 _ _ _);exact Rx rfl T.cn (T.na _ f5) (pv _))|(show PX _ _ _ _ (iJ _ _ _ _);exact WN rfl T.cn (T.na _ f5) (pv _) (by walk_at "q"))|(show PX _ _ _ _ (S3 _ _ U8 _ u5);exact LI rfl T.cn (by walk_at "q") (T.m 20 rfl).m (oh T).h (hr.mono (by omega)) (oh (P:=P) (w:=w) (base:=base) T).b fY (pl:=_))|(show PX _ _ _ _ (S3 _ _ N6 _ _);exact wD rfl T.cn (by walk_at "q") (T.m 18 rfl).m (aO T).h (hr.mono (by omega)) (aO (P:=P) (w:=w) (base:=base) T).b fY (by walk_at "q") (pl:=_))|(show PX _ _ _ _ (S3 _ _ V6 _ _);exact wD rfl T.cn (by walk_at "q") (T.m 19 rfl).m (ic T).h (hr.mono (by omega)) (ic (P:=P) (w:=w) (base:=base) T).b fY (by walk_at "q") (pl:=_))|(show PX _ _ _ _ (S3 _ _ Z4 _ _);exact wD rfl T.cn (by walk_at "q") (T.m 21 rfl).m (qz T).h (hr.mono (by omega)) (qz (P:=P) (w:=w) (base:=base) T).b fY (by walk_at "q") (pl:=_))|(show PX _ _ _ _ (rR _ _ _);exact WR T.cn (T.i 15 rfl).m (pH T).h (hr.mono (by omega)) rfl T.mc (pH (P:=P) (w:=w) (base:=base) T).b fY (by walk_at "q")))
local macro_rules|`(tactic|walk_at "y")=>`(tactic|first|(show P5 _ _ _ (R9 _ (lQ _ _ _));exact Jk (by walk_at "n") rfl (by walk_at "v") rfl (by walk_at "u") (by walk_at "m") (by walk_at "t") (by walk_at "q") (by walk_at "w") (λ_ _ _ _ _ _=>(by walk_at "q")) (λ_ _ _ _ _ _=>(by walk_at "q")))|(show P5 _ _ _ (u9 _ (A2 _ _ _ _));exact Jm (by walk_at "n") rfl (by walk_at "v") rfl (by walk_at "u") (by walk_at "m") (by walk_at "t") (by walk_at "q") (by walk_at "w") (λ_ _ _ _ _ _=>(by walk_at "q")) (λ_ _ _ _ _ _=>(by walk_at "q")) (λ_ _ _ _ _ _=>(by walk_at "q")))|(show P5 _ _ _ (R9 _ (A2 _ _ _ _));exact Jl (by walk_at "n") rfl (by walk_at "v") rfl (by walk_at "u") (by walk_at "m") (by walk_at "t") (by walk_at "q") (by walk_at "w") (λ_ _ _ _ _ _=>(by walk_at "q")) (λ_ _ _ _ _ _=>(by walk_at "q")) (λ_ _ _ _ _ _=>(by walk_at "q")))|(show P5 _ _ _ (vB _ _ _ _);exact RM (pv _) (by walk_at "q") (by walk_at "q") (by walk_at "q"))|(show P5 _ _ _ (rN _ _);exact Xf _ (pv _))|(show P5 _ _ _ (u9 _ _);exact RL (by walk_at "n") rfl (by walk_at "v") (by walk_at "q"))|(show P5 _ _ _ (E8 (mN _));exact HB (fr:=false) (by walk_at "q"))|(show P5 _ _ _ (E8 _);exact HB (fr:=true) (by walk_at "q"))|(show P5 _ _ _ (V7 _);exact RN _ (pv _))|apply a0i|(show P5 _ _ _ (J3 _ _ _);exact RU Oq rfl (by walk_at "t") (by walk_at "q") (by walk_at "q") (by walk_at "q"))|(show P5 _ _ _ (R9 _ _);exact Xe (by walk_at "n") rfl (by walk_at "v") (by walk_at "q"))|(show P5 _ _ _ (tX);exact LV)|apply RS _|(show P5 _ _ _ (dk _ _);exact Xi _ (pv _) (by walk_at "q"))|(show P5 _ _ _ (ot _ _);exact Xh _ (pv _) (by walk_at "q"))|(show P5 _ _ _ (cL _ _ _);exact RK _ (pv _) (by walk_at "q") (by walk_at "q"))|(show P5 _ _ _ (lN _ _ _);exact LP _ Oq (by walk_at "q") (by walk_at "q"))|(show P5 _ _ _ (Kd _ _);exact Xd (by walk_at "t") (by walk_at "q") (by walk_at "q"))|(show P5 _ _ _ (Q1 _);exact LW (by walk_at "q"))|(show P5 _ _ _ (lO);exact LU)|(show P5 _ _ _ (Y6 _ _ _ _ _);exact RQ T.cn (T.na _ f5) (pv _) (by first|exact λ_ _ h=>.inr h|exact λ_ _ h=>.inl h) (by walk_at "q"))|(show P5 _ _ _ (cM _ _ _ _ _);exact RP T.cn (T.na _ f5) (pv _) (by walk_at "q") (by walk_at "q"))|(show P5 _ _ _ (nq _ _ _ _);exact RR T.cn (T.na _ f5) (pv _) (by walk_at "q")))
local macro_rules|`(tactic|walk_at "z")=>`(tactic|first|apply LL (fr:=true) Vq YQ Vq YQ|(show lV _ _ _ (fO _ _);exact wj.pt (by walk_at "q"))|(show lV _ _ _ (sL _ _);exact wj.pt (by walk_at "q"))|apply WZ|apply iV (fr:=true) (r:=Jg K) (Mp hr.units) YT (fK _)|apply iV (fr:=true) (r:=Rp K) (a0D hr.units) a4j (fK _)|apply iV (fr:=true) a2J a4l (fK _)|apply iV (fr:=true) Jv YN (fK _)|apply iV (fr:=true) a2K a4m (fK _)|apply iV (fr:=true) Mo YR (fK _)|apply iV (fr:=true) Xz VW (fK _)|apply iV (fr:=true) (r:=Rq K) (a0F hr.units) a2k (fK _)|apply WY (fr:=true))
local macro_rules|`(tactic|walk_at "q")=>`(tactic|(first|(show PX _ _ _ _ _;walk_at "x")|(show et _ _ _ _ (f6 _ _);exact Sv (by walk_at "q") (by walk_at "q"))|exact HG|(show P5 _ _ _ _;walk_at "y")|apply RV|apply LX|exact RW|(show lV _ _ _ _;walk_at "z")|apply RG|apply WW|apply WX|apply a0f|(show gD _ _ _ _ _ (E9 R4 _);exact Jr rfl (T.n _ f5) (by walk_at "q"))|(show gD _ _ _ _ _ (E9 js _);exact Jq rfl (T.n _ f5) (by walk_at "q"))|(show gD _ _ _ _ _ (E9 Z6 _);exact Xp rfl (T.n _ f5) (by walk_at "q"))|(show gD _ _ _ _ _ (E9 tA _);exact Xr (K':=K) rfl rfl (T.n _ f5) (by walk_at "q"))|(show gD _ _ _ _ _ (E9 Y9 _);exact Sj rfl (T.n _ f5) (by walk_at "q"))|apply Xq|(show PG _ _ (Y7 _);exact HC (by walk_at "n") rfl (by walk_at "v"))|(show PG _ _ (wR _ _ _);exact a0p rfl (by walk_at "q"))|(show Oo _ _ (lj _ _);exact Sn (by walk_at "q") (by walk_at "q"))|exact Xt|exact Me|apply Md|exact Sf|apply Se (fr:=true)|(show uh _ _ _ (ie _ _);exact Sw _ (pv _) (by walk_at "q"))|(show uh _ _ _ (P6 _ _);exact Sy (by walk_at "q") (by walk_at "q"))|exact Xy|(show wg _ _ _ (P4 _ _ _ ah _);exact kC T.cn (pv _) (T.m 16 rfl).m (jw T).h (hr.mono (by omega)) (jw (P:=P) (w:=w) (base:=base) T).b fY (by walk_at "q") (pl:=_))|(show wg _ _ _ (P4 _ _ _ aL _);exact kC T.cn (pv _) (T.m 17 rfl).m (ky T).h (hr.mono (by omega)) (ky (P:=P) (w:=w) (base:=base) T).b fY (by walk_at "q") (pl:=_))|(show wg _ _ _ (P4 _ _ _ N6 _);exact kC T.cn (pv _) (T.m 18 rfl).m (aO T).h (hr.mono (by omega)) (aO (P:=P) (w:=w) (base:=base) T).b fY (by walk_at "q") (pl:=_))|(show wg _ _ _ (P4 _ _ _ V6 _);exact kC T.cn (pv _) (T.m 19 rfl).m (ic T).h (hr.mono (by omega)) (ic (P:=P) (w:=w) (base:=base) T).b fY (by walk_at "q") (pl:=_))|(show wg _ _ _ (P4 _ _ _ Q4 _);exact kC T.cn (pv _) (T.m 22 rfl).m (sH T).h (hr.mono (by omega)) (sH (P:=P) (w:=w) (base:=base) T).b fY (by walk_at "q") (pl:=_))|(show wg _ _ _ (P4 _ _ _ dZ _);exact kC T.cn (pv _) (T.m 23 rfl).m (sG T).h (hr.mono (by omega)) (sG (P:=P) (w:=w) (base:=base) T).b fY (by walk_at "q") (pl:=_))|(show wg _ _ _ (jF mG _);exact Ru (HH T).h (hr.mono (by omega)) rfl (T.f 29 rfl).m (T.f 29 rfl).F.kp (HH (P:=P) (w:=w) (base:=base) T).b fY (by walk_at "q")))<;>walk_at "q")
local macro_rules|`(tactic|walk_at "j")=>`(tactic|exact okA _ λ_ _ _ _ _ _ nd hr=>⟨_,by walk_at "q"⟩)
local macro_rules|`(tactic|walk_at "i")=>`(tactic|exact okB _ λ_ _ _ _ _ _ nd hr=>⟨_,by walk_at "q"⟩)
section
variable{K:y7}{mg:Str->Option t5}{ad:Ads}(T:Txt K mg ad)
theorem vK:Ok P w mg base (T.f 0 rfl) 1 (G4 K P8):=by delta P8 cZ da;walk_at "j"
theorem GK:Ok P w mg base (T.f 1 rfl) 2 (G4 K W3):=by delta W3;walk_at "j"
theorem XH:Ok P w mg base (T.f 2 rfl) 2 (G4 K cW):=by delta cW;walk_at "j"
theorem SM:Ok P w mg base (T.f 3 rfl) 3 (G4 K Q5):=by delta Q5;walk_at "j"
theorem SJ:Ok P w mg base (T.f 4 rfl) 2 (G4 K L3):=by delta L3;walk_at "j"
theorem XI:Ok P w mg base (T.f 5 rfl) 3 (G4 K uS):=by delta uS;walk_at "j"
theorem SI:Ok P w mg base (T.f 6 rfl) 1 (G4 K U9):=by delta U9;walk_at "j"
theorem tI:Ok P w mg base (T.f 7 rfl) 3 (G4 K O2):=by delta O2 ai;walk_at "j"
theorem SH:Ok P w mg base (T.f 8 rfl) 1 (G4 K jg):=by delta jg;walk_at "j"
theorem GI:Ok P w mg base (T.f 9 rfl) 4 (G4 K kh):=by delta kh pB;walk_at "j"
theorem Dc:Ok P w mg base (T.f 10 rfl) 2 (G4 K hV):=by delta hV Z3 Z5;walk_at "j"
theorem GG:Ok P w mg base (T.f 11 rfl) 1 (G4 K ke):=by delta ke;walk_at "j"
theorem Jz:Ok P w mg base (T.f 12 rfl) 1 (G4 K mF):=by delta mF qp;walk_at "j"
theorem vL:Ok P w mg base (T.f 13 rfl) 1 (G4 K av):=by delta av X1;walk_at "j"
theorem Mr:Ok P w mg base (T.f 14 rfl) 1 (G4 K iL):=by delta iL sx;walk_at "j"
theorem aO:Ok P w mg base (T.m 18 rfl) 1 (G4 K N6):=by delta N6 dw;walk_at "j"
theorem ky:Ok P w mg base (T.m 17 rfl) 4 (lG K aL):=by delta aL bD bC T3 T5 bB bA;walk_at "i"
theorem jw:Ok P w mg base (T.m 16 rfl) 4 (lG K ah):=by delta ah aV X2 eg ef;walk_at "i"
theorem pH:Ok P w mg base (T.i 15 rfl) 5 (lG K bL):=by delta bL iS iR iQ iP;walk_at "i"
theorem ic:Ok P w mg base (T.m 19 rfl) 2 (G4 K V6):=by delta V6;walk_at "j"
theorem oh:Ok P w mg base (T.m 20 rfl) 2 (G4 K U8):=by delta U8 gN;walk_at "j"
theorem qz:Ok P w mg base (T.m 21 rfl) 2 (G4 K Z4):=by delta Z4 ko;walk_at "j"
theorem sH:Ok P w mg base (T.m 22 rfl) 1 (lG K Q4):=by delta Q4 ej;walk_at "i"
theorem sG:Ok P w mg base (T.m 23 rfl) 3 (lG K dZ):=by delta dZ ei gz ee;walk_at "i"
theorem JD:Ok P w mg base (T.f 24 rfl) 3 (G4 K mH):=by delta mH lC;walk_at "j"
theorem Mw:Ok P w mg base (T.f 25 rfl) 4 (G4 K iM):=by delta iM bF;walk_at "j"
theorem SK:Ok P w mg base (T.f 26 rfl) 3 (G4 K jh):=by delta jh mI;walk_at "j"
theorem Ms:Ok P w mg base (T.f 27 rfl) 1 (G4 K pz):=by delta pz;walk_at "j"
theorem BD:Ok P w mg base (T.f 28 rfl) 2 (G4 K cv):=by delta cv bM;walk_at "j"
theorem HH:Ok P w mg base (T.f 29 rfl) 4 (lG K mG):=by delta mG;walk_at "i"
theorem Mx:Ok P w mg base (T.f 30 rfl) 3 (G4 K dq):=by delta dq sA nG;walk_at "j"
theorem GJ:Ok P w mg base (T.f 31 rfl) 3 (G4 K ki):=by delta ki fW;walk_at "j"
theorem Mq:Ok P w mg base (T.f 32 rfl) 3 (G4 K kS):=by delta kS nC;walk_at "j"
theorem Mt:Ok P w mg base (T.f 33 rfl) 7 (G4 K pA):=by delta pA cY bE sy;walk_at "j"
theorem SQ:Ok P w mg base (T.f 34 rfl) 3 (G4 K kU):=by delta kU;walk_at "j"
theorem BB:Ok P w mg base (T.f 35 rfl) 3 (G4 K dW):=by delta dW;walk_at "j"
theorem SO:Ok P w mg base (T.f 36 rfl) 1 (G4 K nP):=by delta nP;walk_at "j"
theorem XJ:Ok P w mg base (T.f 37 rfl) 1 (G4 K fe):=by delta fe;walk_at "j"
theorem Mv:Ok P w mg base (T.f 38 rfl) 4 (G4 K eN):=by delta eN;walk_at "j"
theorem xO:Ok P w mg base (T.f 39 rfl) 5 (G4 K dX):=by delta dX;walk_at "j"
theorem wJ:Ok P w mg base (T.f 40 rfl) 5 (G4 K fD):=by delta fD nh nc;walk_at "j"
theorem xN:Ok P w mg base (T.f 41 rfl) 5 (G4 K gx):=by delta gx eO;walk_at "j"
theorem BE:Ok P w mg base (T.f 42 rfl) 6 (G4 K kl):=by delta kl gB gA;walk_at "j"
theorem Jy:Ok P w mg base (T.f 43 rfl) 1 (G4 K pY):=by delta pY du ly lz;walk_at "j"
theorem CY:Ok P w mg base (T.f 44 rfl) 1 (G4 K lu):=by delta lu sQ mU;walk_at "j"
theorem zS:Ok P w mg base (T.f 45 rfl) 2 (G4 K fg):=by delta fg kn qc km;walk_at "j"
theorem Mu:Ok P w mg base (T.f 46 rfl) 4 (G4 K su):=by delta su;walk_at "j"
theorem JA:Ok P w mg base (T.f 47 rfl) 5 (G4 K pZ):=by delta pZ lA wo;walk_at "j"
theorem CZ:Ok P w mg base (T.f 48 rfl) 4 (G4 K lx):=by delta lx iA fh;walk_at "j"
theorem Df:Ok P w mg base (T.f 49 rfl) 8 (G4 K hW):=by delta hW sU sT sS sR;walk_at "j"
theorem GH:Ok P w mg base (T.f 50 rfl) 4 (G4 K nA):=by delta nA pE pC;walk_at "j"
theorem JB:Ok P w mg base (T.f 51 rfl) 4 (G4 K qa):=by delta qa;walk_at "j"
theorem My:Ok P w mg base (T.f 52 rfl) 5 (G4 K aX):=by delta aX nH;walk_at "j"
theorem MD:Ok P w mg base (T.f 53 rfl) 2 (G4 K iO):=by delta iO;walk_at "j"
theorem zR:Ok P w mg base (T.f 54 rfl) 3 (G4 K ff):=by delta ff aS cX;walk_at "j"
theorem zP:Ok P w mg base (T.f 55 rfl) 4 (G4 K mT):=by delta mT qe;walk_at "j"
theorem MC:Ok P w mg base (T.f 56 rfl) 6 (G4 K kT):=by delta kT nI zD;walk_at "j"
theorem GL:Ok P w mg base (T.f 57 rfl) 4 (G4 K nB):=by delta nB;walk_at "j"
theorem BC:Ok P w mg base (T.f 58 rfl) 5 (G4 K kj):=by delta kj kW;walk_at "j"
theorem SN:Ok P w mg base (T.f 59 rfl) 6 (G4 K nN):=by delta nN uZ uV uY;walk_at "j"
theorem MB:Ok P w mg base (T.f 60 rfl) 1 (G4 K M9):=by delta M9;walk_at "j"
theorem wK{S:FV}(o:Ok P w mg base (T.f 61 rfl) Z (G4 K S)):Ok P w mg base (T.f 61 rfl) (Z+1) (G4 K (kY S)):=by delta kY gy;walk_at "j"
theorem MA:Ok P w mg base (T.f 61 rfl) 3 (G4 K iN):=
 wK T (wK T (wK T ⟨⟨λ_ _ _ _ ⟨_,_,_,_,_,h,_⟩=>(nE h),λ_ _ _ _ _ _ _ _ _ _ _ _ _ ⟨_,_,_,_,_,h,_⟩=>(nE h)⟩,(T.f 61 rfl).F.binds λ_ _ _ _ _ _ us hl=>(by walk_at "b" : VL _ _ _ _ _) _ _ _ _ _ _ us hl⟩))
theorem JC:Ok P w mg base (T.f 62 rfl) 2 (G4 K qb):=by delta qb lB;walk_at "j"
theorem zQ:Ok P w mg base (T.f 63 rfl) 1 (G4 K fc):=by delta fc fE fF;walk_at "j"
theorem Mz:Ok P w mg base (T.f 64 rfl) 9 (G4 K sv):=by delta sv Cb vJ AI AH;walk_at "j"
end
theorem all_mk{l:Fp}{w:E3}{K:y7}{h:Heap}{mg:Str->Option t5}{fa:Addr}(X:K.In h)(G:h.Ns aA mg)(hfa:mg "law" = U (.ref fa)){C:Addr}{fs cs:List Addr}{ds:List U5}(aC:fR K aA "Table" = U (U (.ref C)))(A:Ns K C VG fs ds)(hc:(uG K C md=Uf/\uJ K C=Uf)/\FL K C=Uf/\bq K (.ref C) "__setattr__" = U (U (.builtin "object.__setattr__")))(mc:Fs K C=Uf)(kc:hP K (.ref C)=Uf)(na:Al (aI K C) ["scales","columns","multiples","weights","unit","rights","limits","chosen","full","size","inverse","prices"])(z:Al (λs=>fR K aA s=U J) ["abs","all","bool","dict","enumerate","int","isinstance","len","list","max","min","range","reversed","sorted","str","sum","tuple","zip"])(cc:Ck K cts cs):
  ∃fd:U5,(∀(s:v7) (v:t5),lY s fd ⟨[v],[]⟩ [("_law_script",v)])/\∀base:Heap,K.In base->base.Ns aA mg->bz l.prog w K mg base sV 9 fa fd ["_law_script"] (G4 K sv):=by
 let ad:Ads:=⟨λi=>fs.getD i 0,λi=>ds.getD i (hH md md (je (top 0)) (cH (top 0)) (N7 (top 0)) .none .none .none .none J .none .none),λi=>cs.getD i 0,C⟩
 have T:Txt K mg ad:=⟨λi _ _ _ _ m=>by
  cases A.at m with
  |f a r=>exact⟨Vj r,ES X G a⟩,λi _ _ _ _ _ _ m=>by
  cases A.at m with
  |m a b r=>exact⟨Vj r,a,b,(Vj r).kp⟩,λi _ _ _ _ _ m=>by
  cases A.at m with
  |i a b r=>exact⟨Vj r,mc,a,b,kc⟩,⟨aC,⟨hc.1.1,hc.1.2,hc.2.1,hc.2.2⟩⟩,ES X G aC,λ_ m=>na.at m,λ_ m=>PySem.W.mg_none_of X G (z.at m),λi _ _ m=>⟨ES X G (cc.at m).1,(cc.at m).2.to⟩⟩
 have e:fa=ad.f 64:=Value.ref.inj (X8 (hfa.symm.trans (T.f 64 rfl).m));exact⟨ad.d 64,λs v=>(A.at (i:=64) rfl).to (by walk_at "b") s [v] rfl,λbase _ _=>e▸(Mz T).h⟩
theorem walk {l:Fp} {XP:(Str->Option t5)->Heap->Prop} {YP:E3->Heap->Prop} {d:DefRec} {K:Params->y7} (hL:∀ns:List Int,ns.length<=63->sv [.list (ns.map .int)]=U (.dat (.bool Uf))) (hn:l.most=U 63) (hdf:d.params.defaults=[]) (hY:∀(w:E3) (h:Heap),YP w h->(K w.params).In h) (F:∀(w:E3) (mg:Str->Option t5) (fa:Addr) (h:Heap),(K w.params).In h->h.Ns aA mg->mg d.name=U (.ref fa) ->
   ∃fd:U5,(∀(s:v7) (u:t5),lY s fd ⟨[u],[]⟩ [("_law_script",u)])/\∀base:Heap,(K w.params).In base->base.Ns aA mg->bz l.prog w (K w.params) mg base sV 9 fa fd ["_law_script"] (G4 (K w.params) sv)) :
  PySem.W.WalkO P S XP YP l.row.toRowW d [] (λf vs=>ED f vs):=
 L2.Wg (n:=63) (k:=9) (x:="_law_script") (CX:=λ_=>sV) (sp:=λw=>G4 (K w.params) sv) hn f5 hdf ⟨rfl,by decide,by decide⟩ hY F (λ_ _ a ns hl _ hS=>⟨[],[.list (ns.map .int)],_,λa h=>absurd h B9,.cons (.lst (Wu hS) (Ui ns)) .nil,hL ns hl,λv H' _ r=>Yq r⟩) λ_ _ _ _ _ z=>z
end Law
local macro_rules|`(tactic|walk_at "k")=>`(tactic|(refine' Law.Rw.mk ?l ?c ?k;(case l=>k_is);(case c=>k_is);(case k=>k_is)))
local macro_rules|`(tactic|walk_at "p")=>`(tactic|first|exact .n|exact .c (.f (by k_is) (by walk_at "k")) (by walk_at "p")|exact .c (.m (by k_is) (by k_is) (by walk_at "k")) (by walk_at "p")|exact .c (.i (by k_is) (by k_is) (by walk_at "k")) (by walk_at "p"))
local macro_rules|`(tactic|walk_at "e")=>`(tactic|first|exact .n|exact .i|exact .c (by k_is) (by walk_at "e") (by walk_at "e")|exact .c (by walk_at "e") (by walk_at "e")|exact .t (by k_is) B9 (by walk_at "e"))
local macro_rules|`(tactic|walk_at "a")=>`(tactic|repeat first|exact .n|refine .c (by show _ = _;k_is) ?_)
structure PySem.W.Fast:Prop where
 (tw10049950848878793277 tw10083770452188722753 tw10093546693665050704 tw10240263337997906630 tw10291752773145256827 tw1029734497237323248 tw10298376270971130940 tw10433652994704361430 tw10487729898358382050 tw10564050988283342800 tw10569382030707363949 tw10719413444050975117 tw10722266919491603240 tw10826785072203826349 tw10868938239613075285 tw11049825514368158854 tw11153970590776715144 tw11237078680094859174 tw11243184830008375115 tw11344093640767024810 tw11427652435964078247 tw11459319982912768982 tw11527222331757952577 tw11538828396797694210 tw11885762915073390354 tw11941316901542743867 tw11999079771829238491 tw12005485595841984017 tw12008809141092365983 tw12106600922076698566 tw12135542201552091178 tw12676736546965317059 tw12784999952021609129 tw12871454425637563980 tw12946426470054746033 tw12961693479213511939 tw13379625625132663684 tw13475636139588638477 tw13515601573108123510 tw13545376754978932986 tw13637851708896007887 tw13713046000160124009 tw13764646088667666435 tw13870297195856401195 tw13914168087785973393 tw14043543376603463857 tw14164321023875181436 tw14189723198262087559 tw14361186443746227402 tw14488336206264558286 tw14700236492565121981 tw14747262397338280367 tw14857553745563424089 tw14897118301554502341 tw1493948281917949087 tw14944396969968334924 tw14984241954858016184 tw15000879635467282055 tw15002909408210410898 tw15205221942473181852 tw15306977640086188616 tw15327560724905517773 tw15615449452675164421 tw15655710105934983652 tw15931465632450994593 tw16069246383161941688 tw1608611071648651733 tw16204437765353605184 tw16359086027962321444 tw16365586529708561830 tw16480209609486891816 tw16678004840217844441 tw16756012793055539185 tw17010103545669586203 tw17157925254394910315 tw17199309719082684920 tw17218831856329453248 tw17255018407643016867 tw17283814370455744386 tw17476417390288273304 tw17520809272847823933 tw1752860676009332987 tw17567197658087800686 tw17616030568017743319 tw17773488353081444077 tw17829418727786054046 tw17829849840605519546 tw17854527159970916265 tw17908141670619905202 tw17931984533524307572 tw18020528045121226827 tw18073191235267998778 tw18158570732510819127 tw18166482034089351150 tw18180549217517835680 tw18280814045518539304 tw18313448258314182894 tw2265731996726713800 tw2339981676351485484 tw2362190515018122883 tw2472905860579239898 tw2504104419398579934 tw2506257542894551681 tw2603608155255446350 tw2831370602816777649 tw2890673946792476500 tw3281254371746693341 tw3296246969252293404 tw3420882473739604664 tw3453623634305734230 tw3472130023997467983 tw3626460358293629608 tw3627439144609614160 tw379017848879497117 tw3853908371509884988 tw4003647029970303784 tw4111126475116327739 tw4248768648732622862 tw4371492176149367360 tw4440979574469986148 tw4562837044029527741 tw4729840368127164957 tw4754918836371776949 tw4769802437110495678 tw4789751839038518416 tw485012027343346630 tw4923216382634862349 tw5204520903827868409 tw5210593988563145399 tw5248509223896845184 tw5256524333548915631 tw5309635037347657747 tw539273112623151571 tw5419119441164915600 tw5546983551702323567 tw5584421157461378237 tw5612501335495755051 tw5700016118219308964 tw5777433053050572829 tw5794603195444971567 tw5907464981770303909 tw5924840197062537389 tw5927777922489077679 tw6173843017757739592 tw6197403506958832832 tw6213960497116033638 tw6268753407910223905 tw6341693626662825958 tw6363524066911101600 tw6759066659969666932 tw6818191495035947529 tw705360375308092877 tw7102009142103975990 tw7132330437182069489 tw7180329495212783272 tw7186867949431626201 tw7607838806393001602 tw7857913281353913014 tw7867032222617545618 tw7885872273095011780 tw7964189387779625798 tw7999565763129760101 tw8001772085601567927 tw8024249350197787113 tw8146311711934048941 tw819255803904754396 tw8269309799458306619 tw8378700412831850672 tw8444008317820547043 tw8547110843876848065 tw8615290645493231290 tw8811937883367395493 tw8968133585097633121 tw9053116866821850760 tw9065608514249890690 tw9084929705246173144 tw9249137062635078006 tw929518556557193406 tw9405390854515451900 tw9485722580235627864 tw9648900871185564118 tw9670854974585890997 tw9872925628066441127 tw6523926061088181110 tw1977017478307094838 tw17019150506163154585 tw16599758833173996214 tw8991171004109218760 tw7739524501209548637 tw10197667007585365474 tw4526798255584635145 tw11951191859178852917 tw17427062709541291972 tw4294369253369477915 tw8453271856474937847 tw7845986865911180049 tw14656016003318377915 tw956411371047041403 tw8250052267079791141 tw13443674348938742170 tw3025661848408099697 tw6063014900339912860 tw13294723645592590218 tw11459979129421921345 tw10031611996511388041 tw5811348305946418651 tw7345018371092025353 tw458101954894968237 tw4196112618768604877 tw2443814684355670734 tw10710737771379600997 tw6282312908701786925 tw14144724451117037167 tw12942982936859938232 tw6522413674562784598 tw15787974812333840630 tw12847256853279855007 tw2652661041014671517 tw14549198483308988776 tw14040176663226027087 tw18425424042282567066 tw3616803501975838174 tw1388264104058786985 tw939574816512012890 tw10321719591990490953 tw9720070080489350804 tw15419716029004428906 tw13972188286697916833 tw11635303316038701433 tw717877953392221933 tw220211061688917400 tw2529777665032908123 tw2963589478488766958 tw14956435660966834007 tw8444562566548497304 tw8324005086965037657 tw17159091056051512230 tw16983926381748287324 tw14108036730244328689 tw10510288471585040932 tw13297341223040515339 tw10728767863697379507 tw9899443899237646780 tw3187295823819752231 tw17465915431481711848 tw15744546859742810146 tw12871452165763997075 tw9016509600924836807 tw6050117762105559648 tw6366235463853859425 tw11194716430008292264 tw9293571058798602574 tw8351164348581938679 tw8094160340029649277 tw6530478482935331266 tw5569643991379182216 tw5395438667867150889 tw5383709185021121051 tw5052726391798288292 tw4289543020882288624 tw3345354152506145854 tw18021353190661928020 tw1697963103487816757 tw16412009669096009519 tw16168689205524763893 tw15794754301809399381 tw14442602226907969334 tw13887657877576146345 tw13503365990913621436 tw1260843527242041522 tw12553107007719829456 tw12535087135294032491 tw12341685782170161254 tw11720325835705854188 tw11224299684216591516 tw10693916316218696736 tw10163296068320986440 tw4789833518011798157 tw8124493884512289612 tw2717525274319707122 tw280561438044303621 tw13583605898624393277 tw11596874919767936825 tw1706529708771998831 tw6119052402780038877 tw3843277513969505146 tw13407761430697144365 tw10840910862327272189 tw13234588509330099472 tw16146022652325684940 tw9842470086895383093 tw14678656140671168791 tw7244634950977181260 tw17563033271474965247 tw6559135251533649015 tw14310725789077841962 tw8811439169275277736 tw3420434588227464636 tw18001840590409908196 tw5376307410768446649 tw9377899729462518091 tw17377984822317135407:True)
open PySem PySem.W PyProof.Rows
set_option maxRecDepth 100000 in
set_option maxHeartbeats 0 in
theorem PySem.Challenge.cw_sunstore_k94_whole_long_days_without_a_s_holds : PySem.Challenge.rw_sunstore_k94_whole_long_days_without_a_s.Holds := by
 w_on;o_law;k_head;(case hw=>w_witness2)
 k_fill
 refine Law.walk (l:=PySem.Challenge.rw_sunstore_k94_whole_long_days_without_a_s) Law.Ts rfl rfl (λw h Y=>PySem.W.kIn_of Y) ?F
 case F =>
  intro w mg fa h KX G hmg;exact Law.all_mk KX G hmg (by k_is) (by walk_at "p") ⟨⟨by k_is,by k_is⟩,by k_is,by k_is⟩ (by k_is) (by k_is) (by walk_at "a") (by walk_at "a") (by walk_at "e")
