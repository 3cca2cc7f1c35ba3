import PyProof.Rows.All
import Wide.All
import OpenK.AllK
import Wide.FinOn
import Lean
import PyProof.EqAt
import PyProof.EqKinds
import PyProof.TupleCall
import PyProof.FactsAll.zip_0
import PyProof.FactsAll.zip_1
import KE.KDictOf
import PySem.Challenge.RW_sunstore_k50_whole_best_and_borne_out
set_option compiler.extract_closed false
set_option linter.all false
theorem a4w{p:Prop}(h:p:=by rfl):p:=h
def w4:=a4w._auto_1
theorem a4x{p:Prop}(h:p:=by intro _;rfl):p:=h
def iz:=a4x._auto_1
theorem a3c{p:Prop}(h:p:=by intro _ _;rfl):p:=h
def xg:=a3c._auto_1
theorem a4y{p:Prop}(h:p:=by first|exact .inl rfl|exact .inr rfl|assumption):p:=h
def jZ:=a4y._auto_1
theorem a4z{p:Prop}(h:p:=by exact⟨rfl,rfl,rfl,rfl,rfl⟩):p:=h
def rK:=a4z._auto_1
theorem f5{p:Prop}(h:p:=by decide):p:=h
def L0:=f5._auto_1
theorem t9{p:Prop}(h:p:=by lia):p:=h
theorem M8{p:Prop}(h:p:=by decide +kernel):p:=h
theorem F5{p:Prop}(h:p:=by simp):p:=h
theorem u4{p:Prop}(h:p:=by assumption):p:=h
def px:=u4._auto_1
theorem bI{p:Prop}(h:p:=by omega):p:=h
theorem C4{p:Prop}(h:p:=by simp[*]):p:=h
theorem nZ{p:Prop}(h:p:=by contradiction):p:=h
theorem H9{p:Prop}(h:p:=by repeat constructor):p:=h
theorem nE{α:Type u}{x:α}{p:Prop}(h:none=some x):p:=nomatch h
theorem nS{α:Type u}{x:α}{p:Prop}(h:some x=none):p:=nomatch h
theorem nT{p:Prop}(h:false=true):p:=nomatch h
theorem nF{p:Prop}(h:true=false):p:=nomatch h
theorem t5{d c:Type}{o:Option d}{f:d->Option c}{b:c}(h:o.bind f=some b):∃a,o=some a/\f a=some b:=Option.bind_eq_some_iff.1 h
theorem K9{p:Prop}[Decidable p]{d:Type}{o:Option d}{b:d}(h:(if p then o else none)=some b):p/\o=some b:=by
 split at h;exact⟨‹_›,h⟩;exact nE h
set_option Elab.async false
set_option maxRecDepth 100000
set_option maxHeartbeats 4000000
set_option backward.match.sparseCases false
set_option bootstrap.genMatcherCode false
set_option compiler.reuse false
set_option tactic.hygienic false
noncomputable section
open Option renaming some->U,none->J,bind_some->A4,map_some->rY,map_eq_some_iff->HW,bind->Ab
open PySem renaming PyData->f9,wpAny_bind->u9,Value->t7,wpAny_pure->B9,Shared->A0,sizeLine->J4,World->G6,starEach->Q9,Program->N9,wpAny_field->ax,mainGlobals->aQ,wpAny_callSpecial?_slot->oe,FuncData->Y6,compareOp->bp,bootBuiltins->fW,wpAny_seqItems->kg,mem_of_lookup->mY,wpAny_mono->cu,swapsWith->bG,binaryOp->aD,wpAny_call_entry->kD,wpAny_holding->gz,IsPair->X2,wpAny_setField_rec->pW,wpAny_newObj_type->pU,cLine->U0,rawInt->aB,wpAny_Call_Name_kw->so,wpAny_passesOwn->pO,Around->aY,wpAny_truthy_bool->sk,assignEach->kr,cellsFrom->iG,call_meets->ko,ZipApart->iF,behindInMarks->rW,wpAny_attempt->rV,getItem->iC,wpAny_rule->pG,backTo->gq,sizeLine_eq->rP,wpAny_nextOf_list_item->HY,Scope->eQ,NameKind->mJ,tupleKind->pF,notedBy->km,sysModules->rO,wpAny_execs_nil->Av,IsPart->iB,wpAny_typeOf->vH,wpAny_updateSeq_pair->HP,standAt->mI,callerA->mG,keywordEach->vC,pushCells->rN,swapsWithSole->Aj,swappedStores->Ai,wpAny_onRaise->Ah,wpAny_pyIter_list->Hz,typeLookup->vz,BindsTo->pC,codeAny_mono->Af,concat_meets->Ae,noFill_tuple_add->Hw,wpAny_isInstance->Hu,wpAny_pyIter_zip->Ht,letOwnedTupleGo->Hl,codeAny_builtin->Hf,pyNext->pB,valueAt->rM,wpAny_nextOf_list_end->Rq,isSubtype_stop->GX,builtinLookup_eq_fast->Rm,backToKw->vx,compEnvC->vw,compPost->vt,natAbs_fdiv_le->Ri,wpAny_pyIter_revIter->Rc,attributeBase->GV,wpAny_standAt->GU,seq_tuple_add->GS,plainId_quiet->GR,Within->GO,getMethod->zU,PassesOwn->zT,seqIndex_neg->GL,call->Gy
open PySem.W renaming Frag->A6,findIn->cY,emptyDict->mU,nsIn->gu,instObj->mR,fnOf->iI,kia_one->pM,keepIn->pK,kitOne->pJ,hasDictIn->vR,plainGet->vO,any_some->AA,methodCall_KW->HU,isFn->vI,looks_findIn->HQ,plainGet_of->HL,lookIn->Ar,InstAt->Aq,codeIn->Ap,callWith_K->HJ,plainOver->HB,takerIn->Hk,makesIn->Hj,OpenLaw->Hh,findObj->Hg,cellsFrom_some->Ry,mg_of->GP,handedIn->QI
open List renaming mem_cons_of_mem->E7,mem_cons_self->F2,getElem?_eq_getElem->L6,length_map->F9,map_cons->E8,replicate->F7,mem_append_right->N1,range->D3,getElem?_map->M9,mem_append_left->T1,length_append->T7,size_toArray->V2,map_append->W4,length_cons->Y7,append_nil->af,cons_append->cz,range_succ->bL,getElem?_append_left->kl,mem_cons->bu,getD_eq_getElem?_getD->lX,nil_append->cZ,getElem?_range->gQ,getElem?_set_ne->iW,getElem?_append_right->qu,set_cons_zero->ki,getElem?_eq_none->oa,zip_cons_cons->lW,map_map->fw,not_mem_nil->kh,getElem?_cons_succ->tI,mem_of_getElem?->qt,length_range->kF,flatMap_append->mX,drop_eq_getElem_cons->sv,length_nil->kA,mem_append->kz,length_replicate->sr,lookup->gr,lookup_cons->pQ,getElem?_set_self->vU,length->kx,length_take->sj,getElem_mem->sh,ext_getElem->sf,getElem_map->se,flatMap_cons->vP,length_drop->vN,flatMap_nil->vM,filterMap_cons->AL,length_reverse->AK,map_congr_left->AI,length_set->vL,map_nil->rS,getElem?_replicate->Ic,reverse_cons->AF,getElem?_set->AD,append_assoc->AB,take_of_length_le->HX,drop_of_length_le->HV,filter_cons->Aw,length_singleton->HS,mem_filterMap->HI,set_cons_succ->HE,getElem_range->HC,ext_getElem?->Hx,drop_length->Hs,getElem_set->Hq,nodup_range->Ho,getElem?_cons_zero->RA,of_mem_zip->Hi,foldl_cons->Hd,range_succ_eq_map->Rt,getElem?_zipWith->Rp,getElem?_reverse->Rn,length_filter_le->Rl,getElem?_append->Rh,range_eq_range'->Rg,mem_of_mem_take->Rb,zipWith->GK,mem_replicate->QU,map_replicate->QT,getElem?_take->QS,findIdx?_cons->QQ,filter_append->QO,foldl_append->QK,getElem_inj->QJ,range'_succ->QF,take_length->QE,forIn_cons->Qz,nodup_cons->Qx,find?_cons->Qw
open PySem.Heap renaming get?_push_of_some->N3,lt_size->J8,get?_push_size->Y8,size_push->iV,SameBut->pI,get?_update_other->Rv,get?_update_self->Rr
open Nat renaming le_trans->B7,lt_of_lt_of_le->O1,ne_of_lt->S8,le_refl->V1,lt_irrefl->bw,le_of_lt->br,le_add_right->kE,le_of_not_lt->kC,lt_of_le_of_lt->mV,mul_le_mul_right->pX,le_of_lt_succ->mS,ne_of_gt->gx,lt_of_le_of_ne->pV,lt_succ_self->pR,zero_le->iH,lt_trans->ky,lt_succ_of_lt->vS,le_succ_of_le->vQ,pow_le_pow_right->AM,not_lt_zero->vK,le_of_eq->rT,add_comm->rR,zero_add->rQ,succ_le_succ->Ay,coprime_comm->Ax,mul_comm->vG,pow_lt_pow_right->HN,add_le_add->Ao,mul_le_mul->An,add_right_comm->HH,le_add_left->Hn,min_eq_left->GZ,Coprime->Aa,sub_succ_lt_self->Rj,add_le_add_right->Ra,mul_assoc->GQ,lt_of_lt_of_eq->QW,lt_or_ge->GJ,pow_succ->GI,pow_pos->GD,min_le_right->QH,succ_lt_succ->QG,mul_mod_left->QD,mod_eq_of_lt->QC,div_eq_of_lt->QB,lt_add_right->QA,sub_le->Gz
open Nat.le renaming refl->G8
open Int renaming mul_comm->K7,fdiv_eq_ediv_of_nonneg->bM,mul_assoc->O0,mul_pos->M3,gcd->F1,mul_le_mul_of_nonneg_left->fX,zero_add->O8,le_of_lt->S9,le_trans->W3,toNat_natCast->cA,mul_zero->X4,mul_le_mul_of_nonneg_right->og,mul_ediv_cancel_left->kj,mul_nonpos_of_nonneg_of_nonpos->tK,one_mul->bq,natAbs_mul->fx,zero_mul->cX,dvd_refl->fq,mul_add->dX,le_of_dvd->gO,gcd_pos_of_ne_zero_right->xh,gcd_dvd_right->kG,gcd_dvd_left->kB,lt_or_le->fH,dvd_trans->gy,mul_nonneg->iJ,fmod_nonneg_of_pos->su,eq_of_mul_eq_mul_right->vX,gcd_ediv_gcd_ediv_gcd->vV,mul_one->gs,natAbs_of_nonneg->sq,mul_left_comm->pS,le_add_of_nonneg_right->AY,eq_of_mul_eq_mul_left->AU,le_of_mul_le_mul_left->AS,mul_neg_of_neg_of_pos->AR,le_refl->ku,natCast_nonneg->vT,ediv_pos_of_pos_of_dvd->Ih,ediv_mul_cancel->AJ,fmod_lt_of_pos->AG,mul_nonpos_of_nonpos_of_nonneg->RS,add_zero->vF,sub_zero->vE,toNat_of_nonneg->HK,add_mul->vB,neg_neg_of_pos->HG,lt_or_eq_of_le->HF,lt_of_le_of_lt->HD,lt_trichotomy->Hy,gcd_comm->Ac,mul_fdiv_cancel_left->RD,dvd_mul_of_dvd_left->Rz,natCast_mul->He,neg_mul->zZ,neg_gcd->zY,mul_le_mul->GW,mul_ediv_cancel->QX,gcd_zero_right->QR,natAbs_add_le->QL,pow_pos->GB
open Option.some renaming inj->W5,injEq->QM
open Bool renaming true->Uf,false->U',false_ne_true->dY,false_eq_true->mW,and_eq_true->pP,eq_iff_iff->rZ,false_and->GY,or_eq_false_iff->QZ,not_eq_true'->QN,or_eq_true->Qy
open PySem.SeqAt renaming shaped->aR,canLay_of_shaped->AN,list_indexAt->RE
open PySem.NameKind renaming cell->cx,free->iU
open PySem.PyData renaming canLayAll0->gP,eqv->aw,int->cW,tuple->fV,canLay0->ke,list->mN,eqvAll->vJ,depthAll->Ha,strOk->GG
open PyProof.Rows renaming callWith_type1->qv,slot_tuple_getitem->Bb,IntsAre->eR,envOfC->gp,AllBare->kn,IsTup->iA,subscriptTail_builtinR->Rx
open Rat renaming mul_pos->fo,intCast_mul->iK,mul_le_mul_of_nonneg_right->Ba,intCast_neg->pL,add_assoc->mO,le_refl->mM,le_of_lt->pH,add_zero->vD,intCast_sub->Au,mul_le_mul_of_nonneg_left->RR,mul_nonneg->Ak,mul_lt_mul_of_pos_right->RN,zero_mul->GH,sub_eq_add_neg->QP,le_trans->GF,div_def->GC
open PySem.F renaming plainAttrs_list->tJ,slot_zip_next->mP,slot_tuple_iterator_next->AZ,slot_list_index->AO,args_tuple_add_2->Ig,entry_tuple_add->Ib,args_zip_next_1->AE,slot_tuple_add->Ia,entry_zip_next->Az,slot_dict_get->HR,args_tuple_iterator_next_1->RQ,entry_tuple_iterator_next->RP,args_list_index_2->RJ,slot_list_append->RH,type_list_append->RG,entry_list_index->RF,args_dict_get_3->RC,type_list_index->RB,entry_dict_get->Ru,slot_enumerate_next->Ro
open PySem.Value renaming ref->bH,bool->vA,type->zX,int->zW,str->zV,none->GA
open False renaming elim->eS
open Classical renaming byContradiction->vW,propDecidable->AQ
open ForInStep renaming yield->mQ
open PySem.Builtin.Slice renaming slicePlaces->AX,sliceAdjust->RK
open PySem.Builtin.SmallTypes renaming nextOf->AW
open True renaming intro->mL
open PySem.Builtin.List renaming listFitsIndex->Ii,listTooLong->Ie
open PySem.Str renaming empty->mK
open PySem.Calls renaming spliced_cons->AH,callWith_builtin->HZ,Name_function_global->RM,spliced_nil->HA,evalArgs_plain->Rk
open Sum renaming inr->iE,inl->pE
open Array renaming length_toList->HM
open Ne renaming symm->mH
open PySem.Builtin.Tuple renaming tupleItemsOf->RL
open PySem.Obj renaming mapSeq->vy,data_mapFields->QV
open Nat.succ renaming inj->Ad
open PySem.Heap.SameBut renaming update->QY
open PySem.Around renaming under->GN
open Eq renaming trans->zS
open List.cons renaming injEq->Qv
open PySem.PassesOwn renaming never->Qu
open PyProof.Rows.IsTup renaming new->Gx
theorem L9{a b:Int}(h:autoParam (b<a) px):a≠b:=Int.ne_of_gt h
theorem eN{a b:Int}(h:autoParam (a<b) px):a<=b:=S9 h
theorem fF{a b:Nat}(h:autoParam (a<b) px):a<b+1:=vS h
theorem eI{a b:Nat}(h:autoParam (a<b) px):a<=b:=br h
theorem nI{a b c:Nat}(h:autoParam (a<=b) px):a<=c+b:=Nat.le_add_left_of_le h
theorem rh{a b c:Nat}(h:autoParam (a+b<=c) px):a<=c:=B7 (kE _ _) h
theorem uR{a b c:Nat}(h:autoParam (b+a<=c) px):a<=c:=B7 (Hn _ _) h
abbrev r9:=@if_pos
abbrev s9:=@if_neg
abbrev C2:=@congrArg
abbrev ay:=@decide_eq_false
abbrev cy:=@decide_eq_true
abbrev X3:=@if_true
abbrev mT:=@of_decide_eq_true
abbrev pT:=@decide_eq_true_eq
open List (mem_filter mem_range mem_map mem_singleton mem_flatMap)
namespace L2
open PySem PySem.Spec PyProof.Rows
variable{c:A0}{d:List (Addr×Obj)}{e B:Addr}{o Z:Expr}{p M:Pos}{m:Str}{h Y:Heap}{k:Nat}{A:aY}{n:t7->A0->Prop}{u:t7}{r:N9}{y:List Expr}{z:List t7}{I:List Addr}{N:List Str}{L:A6}{a2:G6}{a6:Str->Option t7}{a8:Y6}{b4:Obj}{b5:List Stmt}{b7:Unit->A0->Prop}{b8:t7->t7->Sem t7}{b9:Sem Bool}{c6:Model}{c8:Bool}{d3:Type}{d5:Stmt}{d6:CmpOp}{d8:List (Str×t7)}{d9:eQ}{g8:Array GenState}{h8:Int->Int->Int}{i3:t7×List t7->A0->Prop}{i4:Option t7}{i5:List Env}
abbrev hz(s:A0):Nat:=s.heap.objs.size
abbrev Key:=Sum Int Str
def wN:Key->t7->Bool
 | .inl k,v=>Value.isInt k v
 | .inr x,v=>Value.isStrOf x v
def a5N(w:G6):Key->Int
 | .inl k=>hashInt k
 | .inr x=>hashStr w x
def aO:∀{k:Key}{v:t7},wN k v=Uf->(∃i t,k=pE i/\v=zW i t)\/(∃x t,k=iE x/\v=zV x t)
 | .inl i,v,h=>by obtain⟨t,e⟩:=Value.isInt_shape h;exact .inl ⟨i,t,rfl,e⟩
 | .inr x,v,h=>by obtain⟨t,e⟩:=Value.isStrOf_shape h;exact .inr ⟨x,t,rfl,e⟩
def Pj(i:Int)(t:Tok):wN (.inl i) (.int i t)=Uf:=by simp[wN,Value.isInt]
def Ph(x:Str)(t:Tok):wN (.inr x) (.str x t)=Uf:=by simp[wN,Value.isStrOf]
def a2D(a b:Int):decide ((pE a:Key)=pE b)=(a==b):=by
 by_cases e:a=b;subst e;simp;have h:¬(pE a:Key)=pE b:=λq=>e (Sum.inl.inj q);rw[ay h];exact(beq_eq_false_iff_ne.mpr e).symm
def a2A(a b:Str):decide ((iE a:Key)=iE b)=decide (a=b):=by
 by_cases e:a=b;subst e;simp;have h:¬(iE a:Key)=iE b:=λq=>e (Sum.inr.inj q);rw[ay h,ay e]
def a2C(a:Int)(b:Str):decide ((pE a:Key)=iE b)=U':=ay (λq=>nomatch q)
def a2B(a:Str)(b:Int):decide ((iE a:Key)=pE b)=U':=ay (λq=>nomatch q)
def bh(prog:N9)(w:G6):PySem.KeyKind prog w Key where
 is:=wN
 hash:=a5N w
 inj:=λv a b ha hb=>by
  rcases aO ha with ⟨i,t,rfl,rfl⟩|⟨x,t,rfl,rfl⟩
  . rcases aO hb with ⟨j,u,rfl,e⟩|⟨y,u,rfl,e⟩
    . injection e with e1 _;rw[e1]
    exact nomatch e
  . rcases aO hb with ⟨j,u,rfl,e⟩|⟨y,u,rfl,e⟩
    exact nomatch e
    . injection e with e1 _;rw[e1]
 byValue:=λk v h=>by rcases aO h with ⟨i,t,rfl,rfl⟩|⟨x,t,rfl,rfl⟩<;>rfl
 pyHash:=λhv h=>by
  rcases aO hv with ⟨i,t,rfl,rfl⟩|⟨x,t,rfl,rfl⟩
  exact wpAny_pyHash_int h;exact wpAny_pyHash_str h
 eqBool:=λhu hv h=>by
  rcases aO hu with ⟨i,t,rfl,rfl⟩|⟨x,t,rfl,rfl⟩
  . rcases aO hv with ⟨j,u,rfl,rfl⟩|⟨y,u,rfl,rfl⟩
    rw[a2D]at h;exact wpAny_eqBool_int h;rw[a2C]at h;exact SeqAt.EqAt.int_str i t y u _ _ _ _ h
  . rcases aO hv with ⟨j,u,rfl,rfl⟩|⟨y,u,rfl,rfl⟩
    rw[a2B]at h;exact SeqAt.EqAt.str_int x t j u _ _ _ _ h;rw[a2A]at h;exact wpAny_eqBool_str h
 «strs»:=λk x t v h=>by
  rcases aO h with ⟨i,u,rfl,e⟩|⟨y,u,rfl,e⟩
  exact nomatch e
  . injection e with e1 _
    subst e1;cases v<;>rfl
def IL(prog:N9)(w:G6)(i:Int)(t:Tok):(bh prog w).is (.inl i) (.int i t)=Uf:=Pj i t
def IK(prog:N9)(w:G6)(x:Str)(t:Tok):(bh prog w).is (.inr x) (.str x t)=Uf:=Ph x t
inductive V where
 |non|bl (b:Bool)|int (i:Int)|str (x:Str)|byt (b:Array UInt8)|flt (b:UInt64)|ref (a:Addr)|ty (n:String)
 deriving DecidableEq
variable{g:List (Option V)}{q:List V}{G:V}{d2:List (Str×V)}
def RelV:V->t7->Prop
 | .non,u=>u=GA
 | .bl b,u=>u=vA b
 | .int i,u=>∃t,u=zW i t
 | .str x,u=>∃t,u=zV x t
 | .byt b,u=>∃t,u=Value.bytes b t
 | .flt b,u=>∃t,u=Value.float b t
 | .ref a,u=>u=bH a
 | .ty n,u=>u=zX n
abbrev Vals:List V->List t7->Prop:=Paired RelV
theorem Vals.length(r:Vals q z):q.length=z.length:=Paired.length r
theorem Vals.get:∀{xs:List V}{us:List t7}{i:Nat}{x:V},Vals xs us->xs[i]?=U x->∃u,us[i]?=U u/\RelV x u
 |_,_,_,_,.nil,e=>by simp at e
 |_,_,0,_,.cons r _,e=>by simp at e;subst e;exact⟨_,rfl,r⟩
 |_,_,i+1,x,.cons _ t,e=>by
  obtain⟨u,b,a⟩:=Vals.get t (by simpa using e);exact⟨u,by simpa using b,a⟩
theorem Vals.set{x:V}{u:t7}(r:RelV x u):∀{xs:List V}{us:List t7} (i:Nat),Vals xs us->Vals (xs.set i x) (us.set i u)
 |_,_,_,.nil=>.nil
 |_,_,0,.cons _ t=>.cons r t
 |_,_,i+1,.cons q t=>.cons q (Vals.set r i t)
def Vals.append{ys:List V}{ws:List t7}(h:Vals q z)(s:Vals ys ws):Vals (q++ys) (z++ws):=by
 induction h with
 |nil=>exact s
 |cons r t i=>exact .cons r i
theorem Vals.take:∀{xs:List V}{us:List t7} (n:Nat),Vals xs us->Vals (xs.take n) (us.take n)
 |_,_,0,_=>.nil
 |_,_,_+1,.nil=>.nil
 |_,_,n+1,.cons r t=>.cons r (Vals.take n t)
theorem Vals.drop:∀{xs:List V}{us:List t7} (n:Nat),Vals xs us->Vals (xs.drop n) (us.drop n)
 |_,_,0,r=>r
 |_,_,_+1,.nil=>.nil
 |_,_,n+1,.cons _ t=>Vals.drop n t
def ic:Option V->Option t7->Prop
 |some v,U u=>RelV v u
 |none,J=>True
 |_,_=>False
def KV:List (d3×V)->List (d3×t7)->Prop:=Paired λ(p:d3×V) (q:d3×t7)=>p.1=q.1/\RelV p.2 q.2
noncomputable def kV:Key->V
 | .inl i=>.int i
 | .inr x=>.str x
inductive HO where
 |lst (xs:List V)
 |tup (xs:List V)
 |dK (kvs:List (Key×V))|dT (kvs:List (List Key×V))
 |set (S:Int->Bool) (n:Nat)
 |ins (C dx:Addr) (fs:List (Str×V))
 |own (x:Addr)
 |xd (fs:List (Str×V))
 |met (f x:Addr)
 |rng (lo hi:Int)
 |hC (o:Obj) (u:HO)
 |tbl (ps:Array t7)
 |ext (φ:Heap->Prop)
variable{D:HO}
abbrev Hp:=Addr->Option HO
variable{a:Hp}
def upd(H:Hp)(a:Addr)(o:HO):Hp:=λb=>if b=a then U o else H b
def Q5:upd a e D e=U D:=by delta upd;rw[r9 rfl]
def L8(h:B≠e):upd a e D B=a B:=by delta upd;rw[s9 h]
def aN(h:a e=U D)(h':a B=J):e≠B:=by intro H;subst H;rw[h]at h';exact nS h'
section
variable(P:N9)(w:G6)
def aP(H:Hp)(h:Heap)(a:Addr):HO->Prop
 | .lst xs=>xs.length<=J4/\∃(its:List t7) (n:Nat),Vals xs its/\h.get? a=U {cls:=.type "list",data:=.seq its.toArray n}
 | .tup xs=>xs.length<=J4/\∃its:List t7,Vals xs its/\iA h a its.toArray
 | .dK kvs=>kvs.length<=J4/\(a==rO)=U'/\∃vs,KV kvs vs/\h.DictOf (bh P w) a vs
 | .dT kvs=>kvs.length<=J4/\(a==rO)=U'/\∃xs:List (List Key×Addr×t7),
   Paired (λ(p:List Key×V) (q:List Key×Addr×t7)=>p.1=q.1/\H q.2.1=U (.tup (p.1.map kV))/\RelV p.2 q.2.2) kvs xs /\
   ∃o es ep,h.get? a=U o/\o.ExactDict/\o.data=.dict es ep/\es.toList=xs.map (entryOfKey (pF (bh P w)))/\(xs.map (·.1)).Nodup
 | .set S n=>h.SetOf (intKind P w) a S n
 | .ins C dx fs=>H dx=U (.own a)/\fs.length<=1000/\dx≠a/\h.get? a=U (mR C dx) /\
   ∃mA,h.Ns1 dx mA/\(∀f,ic (fs.lookup f) (mA f))/\GO mA (fs.map (·.1))
 | .own _=>∃o,h.get? a=U o
 | .xd fs=>∃mA,h.Ns1 a mA/\∀f,ic (fs.lookup f) (mA f)
 | .rng lo hi=>∃t u v,h.get? a=U {cls:=.type "range",data:=.fields #[.int lo t,.int hi u,.int 1 v]}
 | .hC o u=>h.get? a=U o/\aP H h a u
 | .tbl ps=>h.get? a=U {cls:=.none,data:=.fields ps}
 | .met f x=>h.get? a=U (PySem.W.methodObj (.ref f) (.ref x))
 | .ext φ=>φ h/\(∃o,h.get? a=U o)/\∀h1 h2:Heap,φ h1->(∀o,h1.get? a=U o->h2.get? a=U o)->φ h2
def G4(H:Hp)(h:Heap):Prop:=∀a o,H a=U o->aP P w H h a o
end
section
variable{w:G6}
theorem aP.lt{P:N9}{H:Hp}{h:Heap}{a:Addr}{o:HO}(x:aP P w H h a o):a<h.objs.size:=by
 cases o with
 |lst c=>obtain⟨_,_,_,_,e⟩:=x;exact J8 e
 |tup c=>obtain⟨_,_,_,p⟩:=x;exact p.lt
 |dK b=>obtain⟨_,_,_,_,o,_,_,e,_⟩:=x;exact J8 e
 |dT b=>obtain⟨_,_,_,_,o,_,_,e,_⟩:=x;exact J8 e
 |set S n=>obtain⟨o,_,_,_,e,_⟩:=x;exact J8 e
 |ins C k fs=>obtain⟨_,_,_,e,_⟩:=x;exact J8 e
 |own y=>obtain⟨_,e⟩:=x;exact J8 e
 |xd fs=>obtain⟨_,⟨_,_,_,e,_⟩,_⟩:=x;exact J8 e
 |rng j d=>obtain⟨_,_,_,e⟩:=x;exact J8 e
 |hC i u=>obtain⟨e,_⟩:=x;exact J8 e
 |tbl g=>exact J8 (show h.get? a=U _ from x)
 |met f y=>exact J8 (show h.get? a=U _ from x)
 |ext φ=>obtain⟨_,⟨_,e⟩,_⟩:=x;exact J8 e
def Paired.a5L{e:Type}{F G:d3->e->Prop}{c:List d3}{l:List e}(h:Paired F c l)(f:∀a b,F a b->G a b):Paired G c l:=by
 induction h with
 |nil=>exact .nil
 |cons r t i=>exact .cons (f _ _ r) i
def aP.xN{H':Hp}(x:aP r w a h e D)(k:∀b u,(b=e\/a b=U (.own e))->h.get? b=U u->Y.get? b=U u)(F:∀b,a b=U (.own e)->H' b=U (.own e))(E:∀b xs,a b=U (.tup xs)->H' b=U (.tup xs)):aP r w H' Y e D:=by
 induction D with
 |lst xs=>obtain⟨z,l,n,P,H⟩:=x;exact⟨z,l,n,P,k _ _ (.inl rfl) H⟩
 |tup xs=>obtain⟨z,l,P,g,H,c⟩:=x;exact⟨z,l,P,g,k _ _ (.inl rfl) H,c⟩
 |dK A=>obtain⟨z,y,G,P,g,i,j,H,c⟩:=x;exact⟨z,y,G,P,g,i,j,k _ _ (.inl rfl) H,c⟩
 |dT A=>
  obtain⟨z,y,xs,P,g,i,j,H,c⟩:=x;exact⟨z,y,xs,Paired.a5L P λp q z=>⟨z.1,E _ _ z.2.1,z.2.2⟩,g,i,j,k _ _ (.inl rfl) H,c⟩
 |set S n=>obtain⟨g,i,j,t,H,c⟩:=x;exact⟨g,i,j,t,k _ _ (.inl rfl) H,c⟩
 |ins C N fs=>
  obtain⟨d,z,ne,H,m,⟨s,i,j,I,c⟩,P⟩:=x;exact⟨F _ d,z,ne,k _ _ (.inl rfl) H,m,⟨s,i,j,k _ _ (.inr d) I,c⟩,P⟩
 |own y=>obtain⟨g,H⟩:=x;exact⟨g,k _ _ (.inl rfl) H⟩
 |xd fs=>obtain⟨m,⟨s,i,j,H,c⟩,P⟩:=x;exact⟨m,⟨s,i,j,k _ _ (.inl rfl) H,c⟩,P⟩
 |rng M K=>obtain⟨t,u,v,H⟩:=x;exact⟨t,u,v,k _ _ (.inl rfl) H⟩
 |hC g u o=>obtain⟨H,q⟩:=x;exact⟨k _ _ (.inl rfl) H,o q⟩
 |tbl L=>
  have H:=x;exact k e _ (.inl rfl) H
 |met f y=>
  have H:=x;exact k e _ (.inl rfl) H
 |ext φ=>obtain⟨p,⟨D,H⟩,B⟩:=x;exact⟨B _ _ p λD q=>k _ _ (.inl rfl) q,⟨D,k _ _ (.inl rfl) H⟩,B⟩
theorem G4.lt(x:G4 r w a h)(P:a e=U D):e<h.objs.size:=(x e D P).lt
def G4.fresh(x:G4 r w a h)(P:h.objs.size<=e):a e=J:=by
 cases q:a e with
 |none=>rfl
 |some u=>exact absurd (O1 (x.lt q) P) (bw _)
def G4.kept(x:G4 r w a h)(k:∀b u,h.get? b=U u->Y.get? b=U u):G4 r w a Y:=λP o e=>
 (x P o e).xN (λb u _ q=>k b u q) (λ_ q=>q) λ_ _ q=>q
def G4.laid{o:HO}(x:G4 r w a h)(k:∀b u,h.get? b=U u->Y.get? b=U u)(g:h.objs.size<=e)(new:aP r w (upd a e o) Y e o):G4 r w (upd a e o) Y:=λb u P=>by
 have d:=x.fresh g;by_cases f:b=e;subst f;rw[Q5]at P;cases P;exact new
 . rw[L8 f]at P;exact(x b u P).xN (λc v _ q=>k c v q) (λc q=>by rw[L8 (aN q d)];exact q) λc i q=>by rw[L8 (aN q d)];exact q
end
def Rd(H:Hp)(a:Addr)(u:HO):Prop:=H a=U u\/∃o,H a=U (.hC o u)
def Rd.ok(P:Rd a e D)(x:G4 r a2 a h):aP r a2 a h e D:=by
 rcases P with P|⟨o,P⟩
 exact x e D P;obtain⟨_,q⟩:=x e _ P;exact q
def Xt:Option HO->Prop
 |some (.lst _)=>True
 |some (.dK _)=>True
 |some (.dT _)=>True
 |some (.set _ _)=>True
 |some (.ins _ _ _)=>True
 |some (.ext _)=>True
 |_=>False
section
variable{w:G6}
def G4.write(ok:G4 r w a h)(mu:Xt (a B))(m:e=B\/a e=U (.own B))(k:∀b u,b≠e->h.get? b=U u->Y.get? b=U u)(l:∃u,Y.get? e=U u)(new:aP r w (upd a B D) Y B D):G4 r w (upd a B D) Y:=λb u q=>by
 have d:∀c y,a c=U (.own y)->c≠B:=λc y P z=>by subst z;rw[P]at mu;exact mu
 have f:∀c g,a c=U (.tup g)->c≠B:=λc g P z=>by subst z;rw[P]at mu;exact mu
 by_cases j:b=B;subst j;rw[Q5]at q;cases q;exact new
 . rw[L8 j]at q;by_cases H:b=e
   . have n:a b=U (.own B):=by
       rcases m with z|z
       exact absurd (H.trans z) j;rw[H];exact z
     rw[q]at n;cases n;obtain⟨v,o⟩:=l;exact⟨v,by rw[H];exact o⟩
   . refine(ok b u q).xN (λc v i P=>k c v ?_ P) (λc P=>by rw[L8 (d c b P)];exact P) λc g P=>by rw[L8 (f c g P)];exact P
     rcases i with rfl|i
     exact H
     . rintro rfl;rcases m with z|z
       exact d c b i z;rw[i]at z;cases z;exact j rfl
end
structure Un(fs ex:List Addr)(H H':Hp)(h h':Heap):Prop where
 keep:∀b o,h.get? b=U o->H b=J->b∉fs->b∉ex->h'.get? b=U o
 slot:∀b o,h.get? b=U o->H b=J->b∈fs->b∉ex->∃sl,h'.get? b=U {o with slots:=sl}
 free:∀b o,h.get? b=U o->H b=J->b∉ex->H' b=J
 there:∀b o,h.get? b=U o->b∉ex->∃o',h'.get? b=U o'
 uC:∀b xs,H b=U (.tup xs)->H' b=U (.tup xs)
 sV:∀b o u,H b=U (.hC o u)->H' b=U (.hC o u)
 uE:∀b ps,H b=U (.tbl ps)->∃more,H' b=U (.tbl (ps++more))
def Un.any{ex:List Addr}{H1:Hp}(u:Un I ex a H1 h Y)(q:h.get? e=U b4)(n:a e=J)(c:e∉ex):∃d,Y.get? e=U {b4 with slots:=d}:=by
 by_cases H:e∈I;exact u.slot e b4 q n H c;exact⟨b4.slots,u.keep e b4 q n H c⟩
def Un.kept{ex:List Addr}(k:∀b u,h.get? b=U u->Y.get? b=U u):Un I ex a a h Y:=
 ⟨λb H q _ _ _=>k b H q,λb H q _ _ _=>⟨H.slots,k b H q⟩,λ_ _ _ n _=>n,λb H q _=>⟨H,k b H q⟩,λ_ _ q=>q,λ_ _ _ q=>q,λ_ c q=>⟨#[],by rw[q];rfl⟩⟩
def Un.refl{ex:List Addr}:Un I ex a a h h:=Un.kept λ_ _ q=>q
def Un.laid{ex:List Addr}{o:HO}(k:∀b u,h.get? b=U u->Y.get? b=U u)(H:h.objs.size<=e)(c:a e=J):Un I ex a (upd a e o) h Y where
 keep:=λb u q _ _ _=>k b u q
 slot:=λb u q _ _ _=>⟨u.slots,k b u q⟩
 free:=λb u q n _=>by rw[L8 (S8 (O1 (J8 q) H))];exact n
 there:=λb u q _=>⟨u,k b u q⟩
 uC:=λb d q=>by rw[L8 (aN q c)];exact q
 sV:=λb u d q=>by rw[L8 (aN q c)];exact q
 uE:=λb f q=>⟨#[],by rw[L8 (aN q c),q];rfl⟩
def Un.write{ex:List Addr}(mu:Xt (a B))(i:e=B\/a e=U (.own B))(k:∀b u,b≠e->h.get? b=U u->Y.get? b=U u)(d:∃u,Y.get? e=U u):Un I ex a (upd a B D) h Y:=by
 have f:∀b,a b=J->b≠B:=λb n z=>by subst z;rw[n]at mu;exact mu
 have g:∀b,a b=J->b≠e:=λb n z=>by
  subst z;rcases i with r|r
  exact f b n r;rw[n]at r;exact nE r
 have c:∀b u,a b=U u->¬Xt (U u)->b≠B:=λb u q j z=>by subst z;rw[q]at mu;exact j mu
 refine⟨λb u q n _ _=>k b u (g b n) q,λb u q n _ _=>⟨u.slots,k b u (g b n) q⟩,λb u q n _=>by rw[L8 (f b n)];exact n,λb u q _=>?_,
  λb l q=>by rw[L8 (c b _ q λz=>z)];exact q,λb u l q=>by rw[L8 (c b _ q λz=>z)];exact q,λb m q=>⟨#[],by rw[L8 (c b _ q λz=>z),q];rfl⟩⟩
 by_cases H:b=e;subst H;exact d;exact⟨u,k b u H q⟩
def Wr(h:Heap)(H:Hp):List Addr:=(D3 h.objs.size).filter λa=>(H a).isSome
def uZ(h:Heap)(H:Hp):Heap:=PySem.W.hideAll h (Wr h H)
def Pw(h:Heap)(H:Hp):(uZ h H).objs.size=h.objs.size:=PySem.W.hideAll_size _ _
def Vb(b:h.get? e=U b4)(n:a e=J):(uZ h a).get? e=U b4:=
 PySem.W.hideAll_get _ b λH=>by have q:=(mem_filter.mp H).2;rw[n]at q;simp at q
def Zn(b:(uZ h a).get? e=U b4):h.get? e=U b4/\a e=J:=by
 have H:=PySem.W.of_hideAll (Wr h a) b;refine⟨H,?_⟩;cases q:a e with
 |none=>rfl
 |some x=>
  have c:e∈Wr h a:=mem_filter.mpr ⟨mem_range.mpr (J8 H),by simp[q]⟩;have z:(uZ h a).get? e=J:=PySem.W.hideAll_none (Wr h a) c;rw[z]at b;exact nE b
def a0a(g h:Heap)(L:Addr):List (Addr×Obj):=(D3 h.objs.size).filterMap λa=>if a=L\/(g.get? a).isSome=Uf then J else(h.get? a).map λo=>(a,o)
def rest(g h:Heap)(L d:Addr):List (Addr×Obj):=(a0a g h L).filter λp=>decide (p.1≠d)
structure Mod(K:A6)(mg:Str->Option t7)(base:Heap):Prop where
 JT:K.In base
 glob:base.Ns aQ mg
 blt:∃mb,base.Ns builtinsNs mb/\∀x:Str,x ≠ "__name__"->mb x=fW x
 nolimit:base.NoLimit
structure Cx where
 prog:N9
 w:G6
 K:A6
 mg:Str->Option t7
 base:Heap
 A:aY
 N:List Str
 X5:A0
 F6:Hp
 env:Env
 outer:List Env
 stack:List Env
 ex:List Addr
 fn:Str->Bool
 calm:Bool
 pn:List (Addr×Obj)
 xe:t7->A0->Prop
variable{X:Cx}
abbrev hI(X:Cx)(e:Expr)(es:List Expr):Prop:=Q9 (e::es) X.env=(U',eval e X.env)::Q9 es X.env
abbrev lj(X:Cx)(p:Pos)(es:List Expr):Prop:=(gq p (Q9 es X.env)).any (·.1)=U'
abbrev mE(x:Str):Prop:=(x==("__debug__" : Str))=U'
abbrev Bc(X:Cx)(x:Str):Prop:=X.fn x=Uf\/X.env.scope.names.lookup x=U .local
abbrev Xw(X:Cx)(e:Expr):Prop:=∀x,foldedSetIterable e X.env x=pure x
abbrev Bj(X:Cx)(o:Expr)(m:Str):Prop:=GV o m X.env (eval o X.env)=eval o X.env
abbrev Qt(X:Cx)(o:Expr)(m:Str)(a:Pos)(es:List Expr)(p:Pos)(pl:Sem Bool):Prop:=eval (.Call (.Attribute o m a) es [] p) X.env=(do
 let ov <- eval o X.env
 mI a.atName
 let (f,first) <- holding [ov] (zU ov m pl)
 callWith p f first (gq p (Q9 es X.env)) (vx p (vC [] X.env)))
def rE(l:List Env):List Addr:=l.filterMap (·.frame)
abbrev Cx.fs(X:Cx):List Addr:=rE X.outer
def Xp(sc:eQ)(x:Str):Prop:=sc.names.lookup x=U .local\/sc.names.lookup x=U .cell\/sc.names.lookup x=U .free
def Loc(sc:eQ)(x:Str):Prop:=sc.names.lookup x=U .local\/sc.names.lookup x=U .cell
def Look(env:Env)(h:Heap)(m:Str->Option t7)(x:Str)(u:t7):Prop:=
 (env.kindOf x=U .local/\m x=U u)\/((env.kindOf x=U .cell\/env.kindOf x=U .free)/\∃c,env.cells.lookup x=U c/\h.IsCell c (U u))
structure Cx.Ok(X:Cx):Prop where
 mod:Mod X.K X.mg X.base
 kind:X.env.scope.kind=.function
 glob:X.env.globals=aQ
 blt:X.env.builtins=builtinsNs
 above:X.X5.heap.objs.size<=X.env.locals
 inj:∀x y c,X.env.cells.lookup x=U c->X.env.cells.lookup y=U c->x=y
 has:∀x,(X.env.kindOf x=U .cell\/X.env.kindOf x=U .free)->∃c,X.env.cells.lookup x=U c
 Kv:∀x c,X.fn x=Uf->X.env.cells.lookup x=U c->X.X5.heap.objs.size<=c
 hd:X.calm=Uf->X.A.handled=J
 frames:X.A.frames=U X.stack
 Np:X.stack=X.outer\/(X.stack=X.env::X.outer/\X.env.frame=U X.env.locals)
 Xe:∀b∈X.ex,b≠X.env.locals/\∀x c,X.env.cells.lookup x=U c->c≠b
 bs:∀b o,X.base.get? b=U o->X.X5.heap.get? b=U o/\X.F6 b=J
 uc:X.base.objs.size<=X.X5.heap.objs.size
 ya:∀b o,X.base.get? b=U o->b∉X.ex
 Cj:∀b∈X.ex,b∉X.fs
 lC:X.X5.heap.FunFrames X.base X.outer
 Df:∀b∈X.fs,X.F6 b=J
structure Inv(X:Cx)(pins:List (Addr×Obj))(σ:List (Option V))(H:Hp)(s:A0):Prop where
 ok:X.Ok
 os:s.os=X.X5.os
 bare:kn s.gens
 base:Un X.fs X.ex X.F6 H X.X5.heap s.heap
 loc:∃m,s.heap.Ns X.env.locals m/\∀(i:Nat) (x:Str) (v:V),X.N[i]?=U x->σ[i]?=U (U v)->Xp X.env.scope x->∃u,RelV v u/\Look X.env s.heap m x u
 cell:∀x c,X.env.cells.lookup x=U c->∃v,s.heap.IsCell c v
 free:H X.env.locals=J
 jT:∀x c,X.env.cells.lookup x=U c->H c=J
 pin:∀p∈X.pn++pins,s.heap.get? p.1=U p.2/\H p.1=J/\p.1≠X.env.locals/\p.1∉X.fs/\∀v,p.2.data≠.cell v
 L3:G4 X.prog X.w H s.heap
 len:σ.length=X.N.length
def Cx.Ok.a5J(ok:X.Ok)(b:X.base.get? e=U b4):e∉X.fs:=λa=>by have:=(ok.lC.mem a).1;rw[b]at this;exact nS this
theorem Inv.bs(I:Inv X d g a c):∀b o,X.base.get? b=U o->c.heap.get? b=U o/\a b=J:=λb o e=>
 ⟨I.base.keep b o (I.ok.bs b o e).1 (I.ok.bs b o e).2 (I.ok.a5J e) (I.ok.ya b o e),I.base.free b o (I.ok.bs b o e).1 (I.ok.bs b o e).2 (I.ok.ya b o e)⟩
def Inv.bk(I:Inv X d g a c):∀b o,X.base.get? b=U o->c.heap.get? b=U o:=λb o e=>(I.bs b o e).1
theorem Inv.mod(I:Inv X d g a c):Mod X.K X.mg X.base:=I.ok.mod
def Inv.iu(I:Inv X d g a c):X.K.In c.heap:=I.ok.mod.JT.keeps I.bk
def Inv.fr(I:Inv X d g a c):∃m,Fr X.base X.env.locals c.heap m:=
 let ⟨m,σ,_⟩:=I.loc
 ⟨m,σ,I.bk,B7 I.ok.uc I.ok.above⟩
theorem Inv.lt(I:Inv X d g a c):X.env.locals<(hz c):=let ⟨_,σ,_⟩:=I.loc;σ.lt
def Inv.sz(I:Inv X d g a c):X.X5.heap.objs.size<=(hz c):=B7 I.ok.above (br I.lt)
def Inv.UI(I:Inv X d g a c)(h:(hz c)<=e):e∉X.fs:=λb=>by obtain⟨_,o,σ,_⟩:=I.ok.lC.mem b;exact absurd (O1 (J8 σ) (B7 I.sz h)) (bw _)
def Inv.Gi(I:Inv X d g a c):∀x j,X.env.cells.lookup x=U j->j≠X.env.locals:=λx j e z=>by obtain⟨v,o,f,σ⟩:=I.cell x j e;obtain⟨m,⟨i,H,h,s,b,_⟩,_⟩:=I.loc;rw[z,s]at f;cases f;rw[b]at σ;cases σ
theorem Inv.lC{X:Cx}{pins:List (Addr×Obj)}{σ:List (Option V)}{H:Hp}{s:A0}(I:Inv X pins σ H s):s.heap.FunFrames X.base X.outer:=by
 have all:∀l,(∀b∈rE l,b∈X.fs)->X.X5.heap.FunFrames X.base l->s.heap.FunFrames X.base l:=by
  intro l;induction l with
  |nil=>intro _ _;trivial
  |cons j r i=>
   intro f n;obtain⟨p,⟨L,o,d,h,k,g⟩,m⟩:=n;have a:=f L (by delta rE;rw[AL,d];exact F2);obtain⟨q,e⟩:=I.base.slot L o k (I.ok.Df L a) a λz=>I.ok.Cj L z a;exact⟨p,⟨L,_,d,h,e,g⟩,i (λb c=>f b (by delta rE;rw[AL,d];exact E7 _ c)) m⟩
 exact all X.outer (λ_ c=>c) I.ok.lC
theorem Inv.stack(I:Inv X d g a c):c.heap.FunFrames X.base X.stack:=by
 rcases I.ok.Np with e|⟨e,σ⟩
 rw[e];exact I.lC;rw[e];obtain⟨m,b,_⟩:=I.loc;refine .cons (by rw[I.ok.kind];decide) σ b ?_ I.lC;exact Heap.get?_none_of_le (B7 I.ok.uc I.ok.above)
def Inv.uG(I:Inv X d g a c):∀b∈rE X.stack,b∈X.env.locals::X.fs:=λb σ=>by
 rcases I.ok.Np with e|⟨e,H⟩
 rw[e]at σ;exact E7 _ σ;rw[e]at σ;unfold rE at σ;rw[AL,H]at σ;exact σ
def Inv.Jf(I:Inv X d g a c):∀b∈rE X.stack,a b=J:=λb σ=>by
 rcases List.mem_cons.mp (I.uG b σ)with e | σ
 rw[e];exact I.free;obtain⟨_,o,H,_⟩:=I.ok.lC.mem σ;exact I.base.free b o H (I.ok.Df b σ) λz=>I.ok.Cj b z σ
def Inv.step{H':Hp}{t':Nat}{d':Drawn}{ch:List Addr}(I:Inv X d g a c)(H:∀b∈ch,(b∈X.ex\/X.X5.heap.objs.size<=b)/\b≠X.env.locals/\(∀x w,X.env.cells.lookup x=U w->w≠b)/\∀p∈X.pn++d,p.1≠b)(keep:∀b o,b≠X.env.locals->b∉X.fs->b∉ch->c.heap.get? b=U o->a b=J->h.get? b=U o)(slot:∀b o,b≠X.env.locals->b∈X.fs->b∉ch->c.heap.get? b=U o->a b=J->∃L,h.get? b=U {o with slots:=L})(free:∀b o,b∉ch->c.heap.get? b=U o->a b=J->H' b=J)(there:∀b o,b∉ch->c.heap.get? b=U o->∃D,h.get? b=U D)(uC:∀b xs,a b=U (.tup xs)->H' b=U (.tup xs))(sV:∀b o u,a b=U (.hC o u)->H' b=U (.hC o u))(uE:∀b E,a b=U (.tbl E)->∃more,H' b=U (.tbl (E++more)))(ns:∀m,c.heap.Ns X.env.locals m->h.Ns X.env.locals m)(K:G4 X.prog X.w H' h)(Q:kn g8):
  Inv X d g H' {c with heap:=h,gens:=g8,drawn:=d',toks:=t'}:=by
 have B:∀b o,X.X5.heap.get? b=U o->b≠X.env.locals:=λb o e=>S8 (O1 (J8 e) I.ok.above)
 have j:∀b o,X.X5.heap.get? b=U o->b∉X.ex->b∉ch:=λb o e s y=>by
  rcases(H b y).1 with z|z
  exact s z;exact absurd (O1 (J8 e) z) (bw _)
 have W:∀x w,X.env.cells.lookup x=U w->∀v,c.heap.IsCell w v->h.IsCell w v:=λx w e v ⟨o,A,F⟩=>by
  have f:=λz=>(H w z).2.2.1 x w e rfl;by_cases O:w∈X.fs;obtain⟨L,q⟩:=slot w o (I.Gi x w e) O f A (I.jT x w e);exact⟨_,q,F⟩;exact⟨o,keep w o (I.Gi x w e) O f A (I.jT x w e),F⟩
 refine⟨I.ok,I.os,Q,⟨λb o e n y s=>?_,λb o e n y s=>?_,λb o e n s=>?_,λb o e s=>?_,λb xs e=>uC b xs (I.base.uC b xs e),λb o xs e=>sV b o xs (I.base.sV b o xs e),λb E e=>?_⟩,?_,λx w e=>?_,?_,λx w e=>?_,λp N=>?_,K,I.len⟩;exact keep b o (B b o e) y (j b o e s) (I.base.keep b o e n y s) (I.base.free b o e n s);obtain⟨L,t⟩:=I.base.slot b o e n y s;obtain⟨G,C⟩:=slot b _ (B b o e) y (j b o e s) t (I.base.free b o e n s);exact⟨G,C⟩;obtain⟨D,t⟩:=I.base.there b o e s;exact free b D (j b o e s) t (I.base.free b o e n s);obtain⟨D,t⟩:=I.base.there b o e s;exact there b D (j b o e s) t;obtain⟨m1,t⟩:=I.base.uE b E e;obtain⟨T,C⟩:=uE b _ t;exact⟨m1++T,by rw[C,Array.append_assoc]⟩
 . obtain⟨m,S,P⟩:=I.loc;refine⟨m,ns m S,λi x v t C R=>?_⟩
   obtain⟨u,r,l⟩:=P i x v t C R;refine⟨u,r,?_⟩;rcases l with l|⟨k,w,e,z⟩
   exact .inl l;exact .inr ⟨k,w,e,W x w e _ z⟩
 obtain⟨v,z⟩:=I.cell x w e;exact⟨v,W x w e v z⟩;obtain⟨m,⟨o,_,_,A,_⟩,_⟩:=I.loc;exact free _ o (λz=>(H _ z).2.1 rfl) A I.free;obtain⟨v,o,A,F⟩:=I.cell x w e;exact free w o (λz=>(H w z).2.2.1 x w e rfl) A (I.jT x w e);obtain⟨e,n,ne,M,σ⟩:=I.pin p N;have f:=λz=>(H p.1 z).2.2.2 p N rfl;exact⟨keep p.1 p.2 ne M f e n,free p.1 p.2 f e n,ne,M,σ⟩
def Inv.un{H':Hp}(I:Inv X d g a c)(u:Un X.fs [] a H' c.heap h)(w:G4 X.prog X.w H' h):Inv X d g H' {c with heap:=h,toks:=k}:=by
 obtain⟨m,⟨o,l,t,x,r⟩,_⟩:=id I.loc;obtain⟨p,y⟩:=u.any x I.free F5;exact I.step (ch:=[]) (λ_ z=>nomatch z) (λb o _ H _ e n=>u.keep b o e n H bI) (λb o _ H _ e n=>u.slot b o e n H bI) (λb o _ e n=>u.free b o e n bI) (λb o _ e=>u.there b o e bI) u.uC u.sV u.uE (λq i=>by obtain⟨v,σ,f,s,j⟩:=i;rw[x]at s;cases s;exact⟨_,σ,f,y,j⟩) w I.bare
def Inv.call{H':Hp}{d':Drawn}(G:Inv X d g a c)(u:Un (rE X.stack) I a H' c.heap h)(E:G4 X.prog X.w H' h)(v:kn g8)(f:∀b∈I,(b∈X.ex\/X.X5.heap.objs.size<=b)/\b≠X.env.locals/\(∀x w,X.env.cells.lookup x=U w->w≠b)/\∀p∈X.pn++d,p.1≠b):
  Inv X d g H' {c with heap:=h,gens:=g8,drawn:=d',toks:=k}:=by
 obtain⟨m,⟨o,y,B,F,r⟩,_⟩:=id G.loc;obtain⟨A,H⟩:=u.any F G.free λz=>(f _ z).2.1 rfl;exact G.step f (λb o H l s e n=>u.keep b o e n (λz=>(List.mem_cons.mp (G.uG b z)).elim H l) s) (λb o _ _ s e n=>u.any e n s) (λb o s e n=>u.free b o e n s) (λb o s e=>u.there b o e s) u.uC u.sV u.uE (λC q=>by obtain⟨D,j,i,σ,t⟩:=q;rw[F]at σ;cases σ;exact⟨_,j,i,H,t⟩) E v
def Inv.turned{s:A0}(I:Inv X d g a s)(E:∀b o,b≠e->s.heap.get? b=U o->h.get? b=U o)(H:a e=J)(f:e≠X.env.locals)(y:e∈X.ex\/X.X5.heap.objs.size<=e)(j:∀x c,X.env.cells.lookup x=U c->c≠e)(l:∀p∈X.pn++d,p.1≠e):Inv X d g a {s with heap:=h,toks:=k}:=by
 have σ:∀b u,a b=U u->b≠e:=λb u F z=>by rw[z,H]at F;exact nE F
 refine I.step (ch:=[e]) (λb A=>?_) (λb o _ _ C F _=>E b o (λz=>C (by simp[z])) F) (λb o _ _ C F _=>⟨o.slots,E b o (λz=>C (by simp[z])) F⟩) (λ_ _ _ _ n=>n)
  (λb o C F=>⟨o,E b o (λz=>C (by simp[z])) F⟩) (λ_ _ F=>F) (λ_ _ _ F=>F) (λb B F=>⟨#[],by rw[F];rfl⟩) (λm w=>?_) (λb u F=>?_) I.bare
 . have F:b=e:=by simpa using A
   subst F;exact⟨y,f,j,l⟩
 obtain⟨o,D,t,i,r⟩:=w;exact⟨o,D,t,E _ o (mH f) i,r⟩
 . refine(I.L3 b u F).xN (λc v C q=>E c v ?_ q) (λ_ q=>q) λ_ _ q=>q
   rcases C with z|z
   rw[z];exact σ b u F;exact σ c _ z
def Inv.tok(I:Inv X d g a c)(t:Nat):Inv X d g a {c with toks:=t}:=I.un Un.refl I.L3
theorem Inv.kept(I:Inv X d g a c)(σ:∀b u,c.heap.get? b=U u->h.get? b=U u):Inv X d g a {c with heap:=h,toks:=k}:=I.un (Un.kept σ) (I.L3.kept σ)
theorem Inv.laid{o:HO}{t':Nat}(I:Inv X d g a c)(k:∀b u,c.heap.get? b=U u->h.get? b=U u)(σ:(hz c)<=e)(new:aP X.prog X.w (upd a e o) h e o):
  Inv X d g (upd a e o) {c with heap:=h,toks:=t'}:=I.un (Un.laid k σ (I.L3.fresh σ)) (I.L3.laid k σ new)
theorem Inv.write(I:Inv X d g a c)(mu:Xt (a B))(H:e=B\/a e=U (.own B))(s:∀b u,b≠e->c.heap.get? b=U u->h.get? b=U u)(σ:∃u,h.get? e=U u)(new:aP X.prog X.w (upd a B D) h B D):Inv X d g (upd a B D) {c with heap:=h,toks:=k}:=I.un (Un.write mu H s σ) (I.L3.write mu H s σ new)
def Inv.weak{s:List (Option V)}(I:Inv X d g a c)(H:s.length=g.length)(w:∀(i:Nat) v,s[i]?=U (U v)->g[i]?=U (U v)):Inv X d s a c:=
 ⟨I.ok,I.os,I.bare,I.base,let ⟨m,h,b⟩:=I.loc;⟨m,h,λi x v e f σ=>b i x v e (w i v f) σ⟩,I.cell,I.free,I.jT,I.pin,I.L3,H.trans I.len⟩
def Inv.ly{σ:List (Addr×Obj)}(I:Inv X d g a c)(h:∀p∈σ,c.heap.get? p.1=U p.2/\a p.1=J/\p.1≠X.env.locals/\p.1∉X.fs/\∀v,p.2.data≠.cell v):Inv X σ g a c:=
 ⟨I.ok,I.os,I.bare,I.base,I.loc,I.cell,I.free,I.jT,λp b=>(List.mem_append.mp b).elim (λz=>I.pin p (T1 _ z)) (h p),I.L3,I.len⟩
def EY(d:N.Nodup){j:Nat}(a:N[k]?=U m)(b:N[j]?=U m):k=j:=by obtain⟨g,c⟩:=List.getElem?_eq_some_iff.mp a;obtain⟨f,e⟩:=List.getElem?_eq_some_iff.mp b;exact(QJ d).mp (c.trans e.symm)
def Nm(I:Inv X d g a c)(hN:X.N.Nodup)(hi:X.N[k]?=U m)(hx:Loc X.env.scope m)(r:RelV G u)(h:∀s',Inv X d (g.set k (U G)) a s'->(∃H,pI H c.heap s'.heap/\(H=X.env.locals\/X.env.cells.lookup m=U H))->b7 () s')(hf:autoParam (Bc X m) jZ):wpAny c6 A (storeName X.env m u) b7 n c:=by
 obtain⟨i,hn,hl⟩:=id I.loc;have hcls:(X.env.scope.kind==.class||(X.env.scope.kind==.module&&X.env.locals != X.env.globals))=U':=by rw[I.ok.kind];rfl
 have hiσ:k<g.length:=by rw[I.len];exact(List.getElem?_eq_some_iff.mp hi).1
 have Gi:=I.Gi;have tracked:∀{H:Addr}{h':Heap},(∃o,c.heap.get? H=U o/\a H=J)->pI H c.heap h'->G4 X.prog X.w a h':=λ{H h'} ha hs b ob e=>by
  obtain⟨_,_,hfree⟩:=ha;refine(I.L3 b ob e).xN (λs w' hc q=>(hs.2 s ?_).trans q) (λ_ q=>q) λ_ _ q=>q
  rintro rfl;rcases hc with rfl|hc
  rw[hfree]at e;exact nE e;rw[hfree]at hc;exact nE hc
 rcases hx with hk|hk
 . refine wpAny_storeName_local hk hn (λh' hn' hs=>?_) hcls;obtain⟨oL,_,_,hoL,_⟩:=id hn;refine h _ ⟨I.ok,I.os,I.bare,⟨λb o e M hb hx=>?_,λb o e M hb hx=>?_,I.base.free,λb o e hx=>?_,I.base.uC,I.base.sV,I.base.uE⟩,⟨_,hn',λj y v' e1 e2 e3=>?_⟩,λy s e=>?_,I.free,I.jT,λp hp=>?_,tracked ⟨oL,hoL,I.free⟩ hs,by simpa using I.len⟩ ⟨_,hs,.inl rfl⟩;exact(hs.2 b (S8 (O1 (J8 e) I.ok.above))).trans (I.base.keep b o e M hb hx);obtain⟨sl,e1⟩:=I.base.slot b o e M hb hx;exact⟨sl,(hs.2 b (S8 (O1 (J8 e) I.ok.above))).trans e1⟩;obtain⟨o',e1⟩:=I.base.there b o e hx;exact⟨o',(hs.2 b (S8 (O1 (J8 e) I.ok.above))).trans e1⟩
   . by_cases hj:j=k;subst hj;rw[hi]at e1;cases e1;rw[vU hiσ]at e2;cases e2;exact⟨u,r,.inl ⟨hk,by simp⟩⟩
     . rw[iW (mH hj)]at e2;obtain⟨u',r',q⟩:=hl j y v' e1 e2 e3;refine⟨u',r',?_⟩;rcases q with ⟨E,e⟩|⟨E,s,e,z⟩
       refine .inl ⟨E,?_⟩;have:y≠m:=λe=>hj (EY hN e1 (e▸hi));simp[this,e];exact .inr ⟨E,s,e,z.sameBut hs (Gi y s e)⟩
   obtain⟨w',z⟩:=I.cell y s e;exact⟨w',z.sameBut hs (Gi y s e)⟩;obtain⟨e,M,ne,nf,σ⟩:=I.pin p hp;exact⟨(hs.2 p.1 ne).trans e,M,ne,nf,σ⟩
 . have hfn:X.fn m=Uf:=by
     rcases hf with z|z
     exact z;rw[z]at hk;cases hk
   obtain⟨s,hc⟩:=I.ok.has m (.inl hk);obtain⟨w',z⟩:=I.cell m s hc;refine wpAny_storeName_cell I.ok.kind hk hc z (λh' hc' hs=>?_);obtain⟨oc,hoc,hocd⟩:=id z;refine h {c with heap:=h'} ⟨I.ok,I.os,I.bare,⟨λb o e M hb hx=>?_,λb o e M hb hx=>?_,I.base.free,λb o e hx=>?_,I.base.uC,I.base.sV,I.base.uE⟩,⟨i,hn.sameBut hs (mH (Gi m s hc)),λj y v' e1 e2 e3=>?_⟩,λy c' e=>?_,I.free,I.jT,λp hp=>?_,tracked ⟨oc,hoc,I.jT m s hc⟩ hs,by simpa using I.len⟩ ⟨s,hs,.inr hc⟩;exact(hs.2 b (S8 (O1 (J8 e) (I.ok.Kv m s hfn hc)))).trans (I.base.keep b o e M hb hx);obtain⟨sl,e1⟩:=I.base.slot b o e M hb hx;exact⟨sl,(hs.2 b (S8 (O1 (J8 e) (I.ok.Kv m s hfn hc)))).trans e1⟩;obtain⟨o',e1⟩:=I.base.there b o e hx;exact⟨o',(hs.2 b (S8 (O1 (J8 e) (I.ok.Kv m s hfn hc)))).trans e1⟩
   . by_cases hj:j=k;subst hj;rw[hi]at e1;cases e1;rw[vU hiσ]at e2;cases e2;exact⟨u,r,.inr ⟨.inl hk,s,hc,hc'⟩⟩
     . rw[iW (mH hj)]at e2;obtain⟨u',r',q⟩:=hl j y v' e1 e2 e3;refine⟨u',r',?_⟩;rcases q with q|⟨E,c',e,z'⟩
       exact .inl q;refine .inr ⟨E,c',e,z'.sameBut hs ?_⟩;rintro rfl;exact hj (EY hN e1 (I.ok.inj _ _ _ e hc▸hi))
   by_cases hcc:c'=s;subst hcc;exact⟨_,hc'⟩;obtain⟨w2,z2⟩:=I.cell y c' e;exact⟨w2,z2.sameBut hs hcc⟩;obtain⟨e,M,ne,nf,σ⟩:=I.pin p hp;refine⟨(hs.2 p.1 ?_).trans e,M,ne,nf,σ⟩;intro q;rw[q,hoc]at e;exact σ w' (by rw[<-(W5 e)];exact hocd)
def Ep(I:Inv X d g a c)(s:X.N.Nodup)(H:X.N[k]?=U m)(b:Loc X.env.scope m)(r:RelV G u)(h:∀s',Inv X d (g.set k (U G)) a s'->b7 () s')(e:autoParam (Bc X m) jZ):wpAny c6 A (storeName X.env m u) b7 n c:=
 Nm I s H b r (λs' σ _=>h s' σ) e
def Inv.a4u{H':Hp}{s':A0}(m:Inv X d g a c)(f:s'.os=c.os)(u:Un (rE X.stack) I a H' c.heap s'.heap)(σ:G4 X.prog X.w H' s'.heap)(e:kn s'.gens)(s:∀b∈I,(b∈X.ex\/X.X5.heap.objs.size<=b)/\b≠X.env.locals/\(∀x l,X.env.cells.lookup x=U l->l≠b)/\∀p∈X.pn++d,p.1≠b):Inv X d g H' s':=by obtain⟨j,h,i,H,k⟩:=s';subst f;exact m.call u σ e s
abbrev XK:=t7->Option Addr->Hp->Prop
variable{b3:XK}
abbrev St:=List (Option V)
variable{l:St}
abbrev VK:=V->Hp->Prop
variable{c9:VK}{i6:List V->Hp->VK->Prop}
abbrev TE:=St->Hp->VK->Prop
variable{t S:TE}
abbrev TT:=St->Hp->(Bool->Hp->Prop)->Prop
variable{R:TT}
abbrev TA:=St->Hp->(List V->Hp->Prop)->Prop
variable{O:TA}
structure Ends where
 nx:St->Hp->Prop
 rt:VK
 bk:St->Hp->Prop:=λ_ _=>False
 ct:St->Hp->Prop:=λ_ _=>False
abbrev TS:=Ends->St->Hp->Prop
variable{b6:TS}
def EP(X:Cx)(pins:List (Addr×Obj))(σ:St)(Q:VK)(u:t7)(s':A0):Prop:=∃v H',Inv X pins σ H' s'/\RelV v u/\Q v H'
def TP(X:Cx)(pins:List (Addr×Obj))(σ:St)(Q:Bool->Hp->Prop)(b:Bool)(s':A0):Prop:=∃H',Inv X pins σ H' s'/\Q b H'
def AP(X:Cx)(pins:List (Addr×Obj))(σ:St)(Q:List V->Hp->Prop)(us:List t7)(s':A0):Prop:=∃vs H',Inv X pins σ H' s'/\Vals vs us/\Q vs H'
def SP(X:Cx)(pins:List (Addr×Obj))(D:Ends)(f:Flow)(s':A0):Prop:=
 match f with
 | .next=>∃σ' H',Inv X pins σ' H' s'/\D.nx σ' H'
 | .brk=>∃σ' H',Inv X pins σ' H' s'/\D.bk σ' H'
 | .cont=>∃σ' H',Inv X pins σ' H' s'/\D.ct σ' H'
 | .ret u=>∃v σ' H',Inv X pins σ' H' s'/\RelV v u/\D.rt v H'
def PE(X:Cx)(e:Expr)(t:TE):Prop:=
 ∀(pins:List (Addr×Obj)) (s:A0) (σ:St) (H:Hp) (Q:VK),Inv X pins σ H s->t σ H Q->wpAny (model X.prog X.w) X.A (eval e X.env) (EP X pins σ Q) X.xe s
def PT(X:Cx)(e:Expr)(t:TT):Prop:=
 ∀(pins:List (Addr×Obj)) (s:A0) (σ:St) (H:Hp) (Q:Bool->Hp->Prop),Inv X pins σ H s->t σ H Q->wpAny (model X.prog X.w) X.A (isTrue e X.env (eval e X.env)) (TP X pins σ Q) X.xe s
def PW(X:Cx)(e:Expr)(t:TT):Prop:=
 ∀(whole:Sem t7) (pins:List (Addr×Obj)) (s:A0) (σ:St) (H:Hp) (Q:Bool->Hp->Prop),Inv X pins σ H s->t σ H Q->wpAny (model X.prog X.w) X.A (isTrue e X.env whole) (TP X pins σ Q) X.xe s
def PW.pt(h:PW X o R):PT X o R:=h _
def PA(X:Cx)(es:List Expr)(t:TA):Prop:=
 ∀(pos:Pos) (pins:List (Addr×Obj)) (s:A0) (σ:St) (H:Hp) (Q:List V->Hp->Prop),Inv X pins σ H s->t σ H Q->wpAny (model X.prog X.w) X.A (spliced (gq pos (Q9 es X.env))) (AP X pins σ Q) X.xe s
def PS(X:Cx)(st:Stmt)(t:TS):Prop:=
 ∀(pins:List (Addr×Obj)) (s:A0) (σ:St) (H:Hp) (D:Ends),Inv X pins σ H s->t D σ H->wpAny (model X.prog X.w) X.A (exec st X.env) (SP X pins D) X.xe s
def qr(X:Cx)(st:List Stmt)(t:TS):Prop:=
 ∀(pins:List (Addr×Obj)) (s:A0) (σ:St) (H:Hp) (D:Ends),Inv X pins σ H s->t D σ H->wpAny (model X.prog X.w) X.A (execs st X.env) (SP X pins D) X.xe s
def K0{t:Sem d3}{Q b:d3->A0->Prop}(h:wpAny c6 A t Q n c)(d:∀a c,Q a c->b a c):wpAny c6 A t b n c:=cu h d λ_ _ x=>x
def S3(i:Nat):TE:=λσ H Q=>∃v,σ[i]?=U (U v)/\Q v H
def tC(v:V):TE:=λ_ H Q=>Q v H
def a1K(w:X.N[k]?=U m)(o:Xp X.env.scope m)(hd:autoParam (mE m) L0)(g:autoParam ((m==("__classdict__" : Str))=U') L0):PE X (.Name m p) (S3 k):=by
 intro f s t H Q I h;obtain⟨v,e,h⟩:=h;obtain⟨x,i,q⟩:=I.loc;obtain⟨u,r,l⟩:=q k m v w e o;have d:EP X f t Q u s:=⟨v,H,I,r,h⟩;rcases l with ⟨b,n⟩|⟨b,c,j,a⟩
 exact wpAny_Name (wpAny_loadName_local I.ok.kind b i n d) hd
 . rcases b with b|b
   exact wpAny_Name (wpAny_loadName_cell I.ok.kind b j a d) hd;exact wpAny_Name (wpAny_loadName_free I.ok.kind b j a d g) hd
def a1Q{i j pos}:PE X (.Constant (.int i) j pos) (tC (.int i)):=λ_ _ _ H _ I h=>wpAny_Constant_int ⟨.int i,H,I.tok _,⟨_,rfl⟩,h⟩
def a4b{b j pos}:PE X (.Constant (.bool b) j pos) (tC (.bl b)):=λ_ _ _ H _ I h=>Constant_bool ⟨.bl b,H,I,rfl,h⟩
def a1O{j pos}:PE X (.Constant .none j pos) (tC .non):=λ_ _ _ H _ I h=>Constant_none ⟨.non,H,I,rfl,h⟩
def a1L{x j pos}:PE X (.Constant (.str x) j pos) (tC (.str x)):=λ_ _ _ H _ I h=>Calls.Constant_str ⟨.str x,H,I.tok _,⟨_,rfl⟩,h⟩
def Gl(X:Cx)(x:Str):Prop:=X.env.kindOf x=U .globalImplicit
def BS{H:Hp}{Q:t7->A0->Prop}(I:Inv X d l H c)(E:Gl X m)(b:X.mg m=U u)(h:Q u c)(hd:autoParam (mE m) L0):wpAny (model X.prog X.w) X.A (eval (.Name m p) X.env) Q n c:=
 RM I.ok.kind E (Calls.loadGlobal_global (by rw[I.ok.glob];exact I.mod.glob.keeps I.bk) b h) hd
def iq{Q:t7->A0->Prop}(I:Inv X d l a c)(f:Gl X m)(s:X.mg m=J)(E:fW m=U u)(h:Q u c)(b:autoParam (m ≠ "__name__") L0)(hd:autoParam (mE m) w4):wpAny (model X.prog X.w) X.A (eval (.Name m p) X.env) Q n c:=by obtain⟨i,g,e⟩:=I.mod.blt;exact RM I.ok.kind f (Calls.loadGlobal_builtin (by rw[I.ok.glob];exact I.mod.glob.keeps I.bk) s (by rw[I.ok.blt];exact g.keeps I.bk) ((e m b).trans E) h) hd
def YU(b:Gl X m)(a:X.mg m=U u)(r:RelV G u)(hd:autoParam (mE m) L0):PE X (.Name m p) (tC G):=
 λ_ _ _ H _ I h=>BS I b a ⟨G,H,I,r,h⟩ hd
def YY(c:Gl X m)(a:X.mg m=J)(d:fW m=U u)(r:RelV G u)(b:autoParam (m ≠ "__name__") L0)(hd:autoParam (mE m) L0):PE X (.Name m p) (tC G):=
 λ_ _ _ H _ I h=>iq I c a d ⟨G,H,I,r,h⟩ b hd
def PC(X:Cx)(op:CmpOp)(a b:Expr)(t:TE):Prop:=
 ∀(pins:List (Addr×Obj)) (s:A0) (σ:St) (H:Hp) (Q:VK),Inv X pins σ H s->t σ H Q ->
  wpAny (model X.prog X.w) X.A (eval a X.env) (λv s₁=>wpAny (model X.prog X.w) X.A (eval b X.env) (λu s₂=>wpAny (model X.prog X.w) X.A (bp op v u) (EP X pins σ Q) X.xe s₂) X.xe s₁) X.xe s
def tB(t:TE):TT:=λσ H Q=>t σ H λx H1=>∃c,x=.bl c/\Q c H1
def a1z(h:PE X o t)(f:autoParam (∀a,isTrue o X.env a=(do let v <- a;mI o.pos;holding [v] (truthy v))) iz):PT X o (tB t):=by
 intro b s i H Q I c;refine isTrue_plain (K0 (h b s i H _ I c) λv m ⟨x,j,k,g,l⟩=>?_) (f _);obtain⟨d,rfl,q⟩:=l;cases g;exact sk ⟨j,k,q⟩
def SD(t u:TT):TT:=λσ H Q=>t σ H λc H1=>if c=Uf then u σ H1 Q else Q U' H1
def tOr(t u:TT):TT:=λσ H Q=>t σ H λc H1=>if c=Uf then Q Uf H1 else u σ H1 Q
def SA(t:TT):TT:=λσ H Q=>t σ H λc H1=>Q (!c) H1
def pw_and1(f:PT X o R):PW X (.BoolOp .And [o] p) R:=by
 intro wh b s d H Q I h;refine isTrue_and (K0 (f b s d H Q I h) λc g e=>?_)
 cases c with
 |true=>exact isTrue_and_nil e
 |false=>exact e
def pw_or1(f:PT X o R):PW X (.BoolOp .Or [o] p) R:=by
 intro wh b s d H Q I h;refine isTrue_or (K0 (f b s d H Q I h) λc g e=>?_)
 cases c with
 |false=>exact isTrue_or_nil e
 |true=>exact e
def pw_and{tB':TT}(l:PT X o R)(k:PW X (.BoolOp .And (Z::y) p) tB'):PW X (.BoolOp .And (o::Z::y) p) (SD R tB'):=by
 intro wh d s e H Q I h;refine isTrue_and (K0 (l d s e H _ I h) λc j ⟨f,g,i⟩=>?_)
 cases c with
 |true=>exact k wh d j e f Q g i
 |false=>exact⟨f,g,i⟩
def pw_or{tB':TT}(l:PT X o R)(k:PW X (.BoolOp .Or (Z::y) p) tB'):PW X (.BoolOp .Or (o::Z::y) p) (tOr R tB'):=by
 intro wh d s e H Q I h;refine isTrue_or (K0 (l d s e H _ I h) λc j ⟨f,g,i⟩=>?_)
 cases c with
 |true=>exact⟨f,g,i⟩
 |false=>exact k wh d j e f Q g i
def a1A(f:PT X o R):PT X (.UnaryOp .Not o p) (SA R):=by exact λb s d H Q I h=>isTrue_not (f b s d H (λc e=>Q (!c) e) I h)
def Wz(ta tb:TE):TE:=λσ H Q=>ta σ H λx H1=>∃c,x=.bl c/\if c=Uf then tb σ H1 Q else Q (.bl U') H1
def a0J(ta tb:TE):TE:=λσ H Q=>ta σ H λx H1=>∃c,x=.bl c/\if c=Uf then Q (.bl Uf) H1 else tb σ H1 Q
def Wv(ta:TE):TE:=λσ H Q=>ta σ H λx H1=>∃c,x=.bl c/\Q (.bl (!c)) H1
def a1M{op}(h:PE X o t):PE X (.BoolOp op [o] p) t:=λb s c H Q I d=>BoolOp_one (h b s c H Q I d)
def a1S(m:PE X o t)(l:PE X (.BoolOp .And (Z::y) p) S):PE X (.BoolOp .And (o::Z::y) p) (Wz t S):=by
 intro d s f H Q I h;refine BoolOp_and (K0 (m d s f H _ I h) λv k ⟨x,g,i,j,e⟩=>?_)
 obtain⟨c,rfl,e⟩:=e;cases j;refine sk ?_;cases c with
 |true=>exact l d k f g Q i e
 |false=>exact⟨.bl U',g,i,rfl,e⟩
def a3Z(m:PE X o t)(l:PE X (.BoolOp .Or (Z::y) p) S):PE X (.BoolOp .Or (o::Z::y) p) (a0J t S):=by
 intro d s f H Q I h;refine BoolOp_or (K0 (m d s f H _ I h) λv k ⟨x,g,i,j,e⟩=>?_)
 obtain⟨c,rfl,e⟩:=e;cases j;refine sk ?_;cases c with
 |false=>exact l d k f g Q i e
 |true=>exact⟨.bl Uf,g,i,rfl,e⟩
def a1N(j:PE X o t):PE X (.UnaryOp .Not o p) (Wv t):=by
 intro b s f H Q I h;refine UnaryOp_ (K0 (j b s f H _ I h) λv k ⟨x,g,i,e,d⟩=>?_);obtain⟨c,rfl,d⟩:=d;cases e;exact not_of (sk ⟨.bl (!c),g,i,rfl,d⟩)
def tIf(t:TT)(ta tb:TE):TE:=λσ H Q=>t σ H λc H1=>if c=Uf then ta σ H1 Q else tb σ H1 Q
def Ul{c:Expr}(l:PT X c R)(n:PE X o t)(m:PE X Z S):PE X (.IfExp c o Z p) (tIf R t S):=by
 intro e s f H Q I h;refine wpAny_IfExp (K0 (l e s f H _ I h) λd g ⟨i,j,k⟩=>?_)
 cases d with
 |true=>exact n e g f i Q j k
 |false=>exact m e g f i Q j k
def O2(K:A6)(H:Hp)(a:Addr)(xs:List V):Prop:=
 Rd H a (.lst xs) \/
  ∃(o:Obj) (its:Array t7) (n:Nat),K.lookup a=U o/\o.cls=.type "list"/\o.dict=J/\o.data=.seq its n/\its.size<=J4/\Vals xs its.toList
def ae(K:A6)(H:Hp)(a:Addr)(xs:List V):Prop:=
 Rd H a (.tup xs) \/
  ∃(o:Obj) (its:Array t7) (n:Nat),K.lookup a=U o/\o.cls=.type "tuple"/\o.data=.seq its n/\its.size<=J4/\Vals xs its.toList
noncomputable def a5T:t7->Option V
 | .none=>U .non
 | .bool b=>U (.bl b)
 | .int i _=>U (.int i)
 | .str x _=>U (.str x)
 | .bytes b _=>U (.byt b)
 | .float b _=>U (.flt b)
 | .ref a=>U (.ref a)
 | .type n=>U (.ty n)
 |_=>J
def RelV.abs(r:RelV G u):a5T u=U G:=by
 cases G with
 |non=>cases r;rfl
 |bl _=>cases r;rfl
 |int _=>obtain⟨t,rfl⟩:=r;rfl
 |str _=>obtain⟨t,rfl⟩:=r;rfl
 |byt _=>obtain⟨t,rfl⟩:=r;rfl
 |flt _=>obtain⟨t,rfl⟩:=r;rfl
 |ref _=>cases r;rfl
 |ty _=>cases r;rfl
def RelV.inj{y:V}(r:RelV G u)(q:RelV y u):G=y:=W5 (r.abs.symm.trans q.abs)
theorem Vals.inj{xs ys:List V}{us:List t7}(h:Vals xs us):Vals ys us->xs=ys:=by
 induction h generalizing ys with
 |nil=>intro k;cases k;rfl
 |cons r t i=>intro k;cases k with
  |cons q s=>rw[r.inj q,i s]
def O2.of(h:a e=U (.lst q)):O2 L a e q:=.inl (.inl h)
def ae.of(h:a e=U (.tup q)):ae L a e q:=.inl (.inl h)
def Inv.list(I:Inv X d l a c)(h:O2 X.K a e q):∃b:List t7,Vals q b/\PlainL c.heap e b.toArray/\q.length<=J4:=by
 rcases h with h|⟨o,b,n,g,f,H,σ,i,r⟩
 obtain⟨z,b,n,r,s⟩:=h.ok I.L3;exact⟨b,r,⟨_,n,s,rfl,rfl,rfl⟩,z⟩;refine⟨b.toList,r,⟨o,n,I.iu e o g,f,H,by simpa using σ⟩,?_⟩;have s:=r.length;simp only[HM]at s;simp[*]
def Inv.tuple(I:Inv X d l a c)(h:ae X.K a e q):∃b:List t7,Vals q b/\iA c.heap e b.toArray/\q.length<=J4:=by
 rcases h with h|⟨o,b,n,f,σ,H,g,r⟩
 obtain⟨z,b,r,p⟩:=h.ok I.L3;exact⟨b,r,p,z⟩;refine⟨b.toList,r,⟨o,I.iu e o f,σ,n,by simpa using H⟩,?_⟩;have s:=r.length;simp only[HM]at s;simp[*]
def Inv.yb{ys:List V}(I:Inv X d l a c)(h:O2 X.K a e q)(h':O2 X.K a e ys):q=ys:=by
 obtain⟨H,r,⟨o,n,s,_,_,σ⟩,_⟩:=I.list h;obtain⟨b,i,⟨k,j,g,_,_,f⟩,_⟩:=I.list h';rw[s]at g;cases g;rw[σ]at f;injection f with d1 _
 have:H=b:=by simpa using C2 Array.toList d1
 subst this;exact r.inj i
def Inv.CC{ys:List V}(I:Inv X d l a c)(h:ae X.K a e q)(h':ae X.K a e ys):q=ys:=by
 obtain⟨H,r,⟨o,s,_,n,σ⟩,_⟩:=I.tuple h;obtain⟨b,i,⟨k,g,_,j,f⟩,_⟩:=I.tuple h';rw[s]at g;cases g;rw[σ]at f;injection f with d1 _
 have:H=b:=by simpa using C2 Array.toList d1
 subst this;exact r.inj i
abbrev Cx.qD(X:Cx)(E:t7->A0->Prop):Cx:={X with xe:=E}
abbrev Cx.CN(X:Cx):Cx:=X.qD λ_ _=>False
theorem Cx.Ok.qD(ok:X.Ok)(E:t7->A0->Prop):(X.qD E).Ok:=
 ⟨ok.mod,ok.kind,ok.glob,ok.blt,ok.above,ok.inj,ok.has,ok.Kv,ok.hd,ok.frames,ok.Np,ok.Xe,ok.bs,ok.uc,ok.ya,ok.Cj,ok.lC,ok.Df⟩
def Cx.Ok.mj(ok:(X.qD n).Ok):X.Ok:=
 ⟨ok.mod,ok.kind,ok.glob,ok.blt,ok.above,ok.inj,ok.has,ok.Kv,ok.hd,ok.frames,ok.Np,ok.Xe,ok.bs,ok.uc,ok.ya,ok.Cj,ok.lC,ok.Df⟩
theorem Inv.qD(I:Inv X d l a c)(E:t7->A0->Prop):Inv (X.qD E) d l a c:=⟨I.ok.qD E,I.os,I.bare,I.base,I.loc,I.cell,I.free,I.jT,I.pin,I.L3,I.len⟩
theorem Inv.mj(I:Inv (X.qD n) d l a c):Inv X d l a c:=⟨I.ok.mj,I.os,I.bare,I.base,I.loc,I.cell,I.free,I.jT,I.pin,I.L3,I.len⟩
theorem SP.mj{X:Cx}{pins:List (Addr×Obj)}{E:t7->A0->Prop}{D:Ends}{f:Flow}{s':A0}(h:SP (X.qD E) pins D f s'):SP X pins D f s':=by
 cases f with
 |next=>obtain⟨a,b,I,q⟩:=h;exact⟨a,b,I.mj,q⟩
 |brk=>obtain⟨a,b,I,q⟩:=h;exact⟨a,b,I.mj,q⟩
 |cont=>obtain⟨a,b,I,q⟩:=h;exact⟨a,b,I.mj,q⟩
 |ret u=>obtain⟨v,a,b,I,r,q⟩:=h;exact⟨v,a,b,I.mj,r,q⟩
theorem qr.CN(h:qr X.CN b5 b6):qr X b5 b6:=λa s c H D I d=>
 cu (h a s c H D (I.qD _) d) (λ_ _ q=>q.mj) λ_ _ z=>eS z
def Ww:TS:=λD σ H=>D.nx σ H
def a0I(t u:TS):TS:=λD σ H=>t {D with nx:=u D} σ H
def YF:qr X [] Ww:=λ_ _ a H _ I h=>Av ⟨a,H,I,h⟩
def TK{u:TS}(i:PS X d5 b6)(d:qr X b5 u):qr X (d5::b5) (a0I b6 u):=by
 intro a s c H D I h;refine wpAny_execs_cons (K0 (i a s c H {D with nx:=u D} I h) λf g q=>?_)
 cases f with
 |next=>
  obtain⟨b,j,e,q⟩:=q;exact d a g b j D e q
 |ret v=>exact q
 |brk=>exact q
 |cont=>exact q
def YE(c:PS X d5 b6):qr X [d5] b6:=by
 intro a s b H D I h;refine wpAny_execs_cons (K0 (c a s b H D I h) λf d q=>?_)
 cases f with
 |next=>exact Av q
 |ret v=>exact q
 |brk=>exact q
 |cont=>exact q
def Inv.quiet{H:Hp}(I:Inv X d l H c):interactive X.env=U':=by simp[interactive,I.ok.kind]
def sF(te:TE):TS:=λD σ H=>te σ H λ_ H1=>D.nx σ H1
def ow(c:PE X o t)(hs:autoParam (bG o J p.line X.env=pure U') w4):PS X (.Expr o p) (sF t):=by exact λa s b H D I h=>wpAny_Expr_any (K0 (c a s b H _ I h) λv j ⟨x,d,f,i,g⟩=>⟨b,d,f,g⟩) I.quiet hs
def Sy(te:TE):TS:=λD σ H=>te σ H D.rt
def NX(f:PE X o t):PS X (.Return (U o) p) (Sy t):=by exact λa s b H D I h=>wpAny_Return_some (K0 (f a s b H _ I h) λv j ⟨x,c,d,i,g⟩=>⟨x,b,c,d,i,g⟩)
def Wt:TS:=λD _ H=>D.rt .non H
def YH:PS X (.Return J p) Wt:=λ_ _ a H _ I h=>wpAny_Return_none ⟨.non,a,H,I,rfl,h⟩
def a0M(c:TT)(t u:TS):TS:=λD σ H=>c σ H λb H1=>if b=Uf then t D σ H1 else u D σ H1
def a3W{u:TS}{b:List Stmt}(m:PT X o R)(t:qr X b5 b6)(n:qr X b u):PS X (.If o b5 b p) (a0M R b6 u):=by
 intro e s f H D I h;refine wpAny_If (K0 (m e s f H _ I h) λd g ⟨i,j,k⟩=>?_)
 cases d with
 |true=>exact t e g f i D j k
 |false=>exact n e g f i D j k
def Ni:TS:=λ_ _ _=>False
def TM:PS X d5 Ni:=λ_ _ _ _ _ _ h=>h.elim
abbrev TG:=V->St->Hp->(St->Hp->Prop)->Prop
abbrev xB:=List V->St->Hp->(St->Hp->Prop)->Prop
def PG(X:Cx)(target:Expr)(t:TG):Prop:=
 ∀(pins:List (Addr×Obj)) (s:A0) (σ:St) (H:Hp) (v:V) (u:t7) (Q:St->Hp->Prop),Inv X pins σ H s->RelV v u->t v σ H Q ->
  wpAny (model X.prog X.w) X.A (assign target X.env u) (λ_ s'=>∃σ' H',Inv X pins σ' H' s'/\Q σ' H') X.xe s
def Qs(X:Cx)(ts:List Expr)(t:xB):Prop:=
 ∀(pins:List (Addr×Obj)) (s:A0) (σ:St) (H:Hp) (vs:List V) (us:List t7) (Q:St->Hp->Prop),Inv X pins σ H s->Vals vs us->t vs σ H Q ->
  wpAny (model X.prog X.w) X.A (assignInOrder ((kr ts X.env).map (·.2)) us) (λ_ s'=>∃σ' H',Inv X pins σ' H' s'/\Q σ' H') X.xe s
abbrev VW:=V->V->V->Hp->(Hp->Prop)->Prop
def a3s(X:Cx)(t:VW):Prop:=
 ∀(pins:List (Addr×Obj)) (s:A0) (σ:St) (H:Hp) (o i v:V) (ov iv u:t7) (Q:Hp->Prop),Inv X pins σ H s->RelV o ov->RelV i iv->RelV v u->t o i v H Q ->
  wpAny (model X.prog X.w) X.A (setItem ov iv u) (λ_ s'=>∃H',Inv X pins σ H' s'/\Q H') X.xe s
def cO(i:Nat):TG:=λv σ H Q=>Q (σ.set i (U v)) H
def Jy(d:X.N.Nodup)(b:X.N[k]?=U m)(c:Loc X.env.scope m)(f:autoParam (Bc X m) jZ):PG X (.Name m p) (cO k):=by exact λa s g H v u Q I r h=>wpAny_assign_Name (Ep I d b c r (λj e=>⟨_,H,e,h⟩) f)
def Mm:xB:=λvs σ H Q=>vs=[]/\Q σ H
def sU(t:TG)(u:xB):xB:=λvs σ H Q=>∃v r,vs=v::r/\t v σ H λσ' H'=>u r σ' H' Q
def YS:Qs X [] Mm:=by intro a s b H d c Q I r h;obtain⟨e,h⟩:=h;subst e;cases r;exact assignInOrder_nil ⟨b,H,I,h⟩
def Ui{t:TG}{u:xB}(i:PG X o t)(d:Qs X y u)(hs:autoParam ((kr (o::y) X.env).map (·.2)=assign o X.env::(kr y X.env).map (·.2)) w4):Qs X (o::y) (sU t u):=by
 intro a s f H e p Q I r h;obtain⟨v,n,j,h⟩:=h;subst j;cases r with
 |cons r c=>
  rw[hs];refine assignInOrder_cons (K0 (i a s f H _ _ _ I r h) λ_ g ⟨b,k,l,m⟩=>?_);exact d a g b k _ _ Q l c m
def Cd(K:A6)(n:Nat)(t:xB):TG:=λv σ H Q=>∃a xs,v=.ref a/\ae K H a xs/\xs.length=n/\t xs σ H Q
def a1J{t:xB}{n:Nat}(z:X.calm=Uf)(h:Qs X y t)(j:autoParam ((kr y X.env).length=n) w4)(d:autoParam ((kr y X.env).findIdx? (·.1)=J) w4):PG X (.Tuple y k p) (Cd X.K n t):=by
 intro c s g H v u Q I r f;obtain⟨a,x,D,hq,C,f⟩:=f;subst D;cases r;obtain⟨A,i,l,B⟩:=I.tuple hq;refine assign_Tuple_tuple (I.ok.hd z) l (by simp[j,<-C,i.length]) d λw m=>?_;have q:Inv X c g H {s with heap:=w}:=I.kept λb o e=>m b o (S8 (J8 e)) e;exact h c _ g H x _ Q q (by simpa using i) f
def Ml(to ti:TE)(t:VW):TG:=λv σ H Q=>to σ H λo H1=>ti σ H1 λi H2=>t o i v H2 λH3=>Q σ H3
def EM{e:VW} (j:PE X o t) (g:PE X Z S) (hs:a3s X e) (F:autoParam (∀v,assign (.Subscript o Z p) X.env v=(do
   let b <- holding [v] (eval o X.env)
   let c <- holding [v,b] (eval Z X.env)
   mI p
   holding [v,b,c] (setItem b c v)
   release [v,b,c] [])) iz):PG X (.Subscript o Z p) (Ml t S e):=by
 intro a s d H v u Q I r h;refine u9 (gz (K0 (j a s d H _ I h) λb m ⟨x,B,n,z,C⟩=>?_));refine u9 (gz (K0 (g a m d B _ n C) λc w ⟨y,q,l,i,q2⟩=>?_));refine u9 (GU (u9 (gz (K0 (hs a w d q x y v b c u _ l z i r q2) λ_ E ⟨A,D,k⟩=>?_))));exact wpAny_release ⟨d,A,D,k⟩
def oG(te:TE)(g:TG):TS:=λD σ H=>te σ H λx H1=>g x σ H1 D.nx
def EG{g:TG}(f:PE X Z t)(j:PG X o g)(hs:autoParam (Aj [o] Z p.line X.env=pure U') w4)(d:autoParam (Ai [o] Z X.env=pure J) w4)(l:autoParam ((kr [o] X.env).map (·.2)=[assign o X.env]) w4):PS X (.Assign [o] Z p) (oG t g):=by
 intro a s c H D I h;refine wpAny_Assign_stores (K0 (f a s c H _ I h) λv k ⟨x,m,n,i,e⟩=>?_) hs d;rw[l];exact K0 (j a k c m x v _ n i e) λ_ b q=>q
def NW(g:X.N.Nodup)(c:X.N[k]?=U m)(f:Loc X.env.scope m)(d:PE X o t)(hs:autoParam (bG o (U (.Name m M)) p.line X.env=pure U') w4)(n:autoParam (Bc X m) jZ):
  PS X (.Assign [.Name m M] o p) (oG t (cO k)):=by
 intro b s l H D I h;refine wpAny_Assign_Name (K0 (d b s l H _ I h) λv r ⟨y,e,a,x,i⟩=>?_) hs;exact Ep a g c f x (λq j=>⟨_,e,j,i⟩) n
def Nh(c:TT)(tb:TS):TS:=λD σ H=>∃W:Nat->St->Hp->Prop,(∃m,W m σ H)/\∀m σ H,W m σ H ->
 c σ H λb H1=>if b=Uf then ∃N:St->Hp->Prop,(∀σ' H',N σ' H'->∃m',m'<m/\W m' σ' H')/\tb {D with nx:=N,ct:=N,bk:=D.nx} σ H1 else D.nx σ H1
def TL(t:zT (model X.prog X.w) X.A X.env X.xe)(P:PT X o R)(Q:qr X b5 b6):PS X (.While o b5 [] p) (Nh R b6):=by
 intro d s E H D I h;obtain⟨W,⟨m0,F⟩,turn⟩:=h;refine wpAny_While (codeAny_whileLoop (λn O=>∃i C,Inv X d i C O/\W n i C) ?_ m0 ⟨E,H,I,F⟩);rintro n G ⟨e,z,K,L⟩;refine pO t (K0 (P d G e z _ K (turn n e z L)) λb M ⟨u,r,q2⟩=>?_)
 cases b with
 |true=>
  obtain⟨N,y,q2⟩:=q2;refine pO t (K0 (Q d M e u _ r q2) λf B k=>?_)
  cases f with
  |next=>
   obtain⟨a,j,q,l⟩:=k;obtain⟨c,g,m⟩:=y a j l;exact⟨c,g,a,j,q,m⟩
  |cont=>
   obtain⟨a,j,q,l⟩:=k;obtain⟨c,g,m⟩:=y a j l;exact⟨c,g,a,j,q,m⟩
  |brk=>exact k
  |ret v=>exact k
 |false=>
  exact Av ⟨e,u,r,q2⟩
structure It where
 go:Nat->Hp->Prop
 Wh:Nat->Hp->V->Hp->Prop
 stop:Nat->Hp->Prop
def nA(X:Cx)(pins:List (Addr×Obj))(H:Hp)(b:Addr):Prop:=
 H b=J/\b≠X.env.locals/\b∉X.fs/\(b∈X.ex\/X.X5.heap.objs.size<=b)/\(∀x c,X.env.cells.lookup x=U c->c≠b)/\∀p∈X.pn++pins,p.1≠b
def Inv.ye{H':Hp}(I:Inv X d l a c)(H:(hz c)<=e)(f:H' e=J):nA X d H' e:=by
 refine⟨f,gx (O1 I.lt H),I.UI H,.inr (B7 I.sz H),λx s b z=>?_,λp g z=>?_⟩;obtain⟨v,q⟩:=I.cell x s b;exact absurd (O1 q.lt (by rw[z];exact H)) (bw _);exact absurd (O1 (J8 (I.pin p g).1) (by rw[z];exact H)) (bw _)
structure Turn(P:N9)(w:G6)(K:A6)(tg:Expr)(Jff:It)(fp:List Addr)(it:Addr)(tn:Nat->Heap->Prop):Prop where
 mem:it∈fp
 obj:∀i h,tn i h->∀b∈fp,∃o,h.get? b=U o/\∀v,o.data≠.cell v
 keep:∀i h h',tn i h->(∀b∈fp,∀o,h.get? b=U o->h'.get? b=U o)->tn i h'
 item:∀(X:Cx),X.prog=P->X.w=w->X.K=K->X.calm=Uf->∀(i:Nat) (pins:List (Addr×Obj)) (s:A0) (σ:St) (H:Hp) (E:t7->A0->Prop),Inv X pins σ H s->(∀b∈fp,nA X pins H b)->tn i s.heap->Jff.go i H ->
  wpAny (model P w) X.A (pB (.ref it)) (λr s1=>∃u,r=U u /\
   wpAny (model P w) X.A (Hl tg (.ref it) u) (λ_ s2=>∃x H',Inv X pins σ H' s2/\RelV x u/\Jff.Wh i H x H'/\tn (i+1) s2.heap/\∀b∈fp,H' b=J) E s1) E s
 done:∀(X:Cx),X.prog=P->X.w=w->X.K=K->X.calm=Uf->∀(i:Nat) (pins:List (Addr×Obj)) (s:A0) (σ:St) (H:Hp) (E:t7->A0->Prop),Inv X pins σ H s->(∀b∈fp,nA X pins H b)->tn i s.heap->Jff.stop i H ->
  wpAny (model P w) X.A (pB (.ref it)) (λr s1=>r=J/\Inv X pins σ H s1) E s
 self:∀(A:aY) (i:Nat) (s:A0) (Q:t7->A0->Prop) (E:t7->A0->Prop),tn i s.heap->Q (.ref it) s->wpAny (model P w) A (pyIter (.ref it)) Q E s
abbrev TI:=St->Hp->(It->Hp->Prop)->Prop
def PIE(X:Cx)(pins:List (Addr×Obj))(σ:St)(tg:Expr)(R:It->Hp->Prop)(itv:t7)(s2:A0):Prop:=
 ∃(it:Addr) (fp:List Addr) (tn:Nat->Heap->Prop) (Jff:It) (H':Hp),itv=.ref it/\Inv X pins σ H' s2/\Turn X.prog X.w X.K tg Jff fp it tn/\tn 0 s2.heap/\(∀b∈fp,nA X pins H' b)/\R Jff H'
def PI(X:Cx)(tg iter:Expr)(wi:TI):Prop:=
 ∀(pins:List (Addr×Obj)) (s:A0) (σ:St) (H:Hp) (R:It->Hp->Prop),Inv X pins σ H s->wi σ H R ->
  wpAny (model X.prog X.w) X.A (eval iter X.env) (λv s1=>wpAny (model X.prog X.w) X.A (pyIter v) (PIE X pins σ tg R) X.xe s1) X.xe s
def Ea{M:String}{vs:Array t7}(d:c.heap.get? e=U b4)(s:b4.cls=.type M)(hd:b4.data=.fields vs)(E:["enumerate","zip","dict_itemiterator","dict_reverseitemiterator","odict_iterator","itertools.zip_longest","itertools.pairwise"].contains M=U')(a:b7 () c):wpAny c6 A (Hl o (.ref e) u) b7 n c:=by
 cases o<;>first
  |exact B9 a
  |(cases u<;>first
    |exact B9 a
    | (refine u9 (wpAny_load d ?_)
       rw[s,hd];show wpAny c6 A (if (["enumerate","zip","dict_itemiterator","dict_reverseitemiterator","odict_iterator","itertools.zip_longest","itertools.pairwise"].contains M&&vs[0]?==U (aB _))=Uf then _ else _) b7 n c;rw[s9 (by intro h;rw[E,GY]at h;exact nT h)]
       exact B9 a))
def Itl(K:A6)(a:Addr):It:=
 ⟨λi H=>∃xs x,O2 K H a xs/\xs[i]?=U x,λi H x H'=>H'=H/\∀xs,O2 K H a xs->xs[i]?=U x,λi H=>∃xs,O2 K H a xs/\xs.length<=i⟩
def Itt(K:A6)(a:Addr):It:=
 ⟨λi H=>∃xs x,ae K H a xs/\xs[i]?=U x,λi H x H'=>H'=H/\∀xs,ae K H a xs->xs[i]?=U x,λi H=>∃xs,ae K H a xs/\xs.length<=i⟩
def RV(lo:Int)(n:Nat):It:=⟨λi _=>i<n,λi H x H'=>H'=H/\x=.int (lo+i),λi _=>n<=i⟩
def MZ(a it:Addr):Turn r a2 L Z (Itl L a) [it] it (λi h=>h.IsListIter it a i) where
 mem:=H9
 obj:=λi h f b j=>by
  have e:b=it:=by simpa using j
  subst e;obtain⟨o,e,c,d⟩:=f;exact⟨o,e,λv z=>by rw[d]at z;cases z⟩
 keep:=λi h C f k=>f.at λo e=>k it H9 o e
 item:=by
  intro X n B t O i g s N H E I m f G;subst n B t;obtain⟨xs,x,hq,q⟩:=G;obtain⟨w,F,p,Q⟩:=I.list hq;obtain⟨u,Y,T⟩:=F.get q;obtain⟨y,M,f2,D,P,A⟩:=m it H9;refine wpAny_pyNext_list_item f p.isList (by simpa using Y) λC l R=>?_;have S:Inv X g N H {s with heap:=C}:=I.turned (λb o j e=>(R.2 b j).trans e) y M D P A;obtain⟨o,e,c,d⟩:=id l;exact⟨u,rfl,Ea e c d f5 ⟨x,H,S,T,⟨rfl,λys hy=>by rw[I.yb hy hq];exact q⟩,l,λb j=>(m b j).1⟩⟩
 done:=by intro X n B t O i g s N H E I m f G;subst n B t;obtain⟨xs,hq,q⟩:=G;obtain⟨w,F,p,Q⟩:=I.list hq;obtain⟨y,M,f2,D,P,A⟩:=m it H9;have:=F.length;exact wpAny_pyNext_list_end (I.ok.hd O) f p.isList (by simp;simp_all) λC V=>⟨rfl,I.turned (λb o j e=>V b o j e) y M D P A⟩
 self:=λ_ _ _ _ _ f h=>wpAny_pyIter_listiter f h
def KJ(a it:Addr):Turn r a2 L Z (Itt L a) [it] it (λi h=>h.IsTupleIter it a i) where
 mem:=H9
 obj:=λi h f b j=>by
  have e:b=it:=by simpa using j
  subst e;obtain⟨o,e,c,d⟩:=f;exact⟨o,e,λv z=>by rw[d]at z;cases z⟩
 keep:=λi h D f k=>f.at λo e=>k it H9 o e
 item:=by
  intro X q C y O i g s N H E I n f w;subst q C y;obtain⟨xs,x,hq,P⟩:=w;obtain⟨l,G,p,Q⟩:=I.tuple hq;obtain⟨u,Y,T⟩:=G.get P;obtain⟨A,M,f2,F,t,B⟩:=n it H9;refine wpAny_pyNext_tuple_item f (show s.heap.IsTuple a l.toArray from p) (by simpa using Y) λD m R=>?_;have S:Inv X g N H {s with heap:=D}:=I.turned (λb o j e=>(R.2 b j).trans e) A M F t B;obtain⟨o,e,c,d⟩:=id m;exact⟨u,rfl,Ea e c d f5 ⟨x,H,S,T,⟨rfl,λys hy=>by rw[I.CC hy hq];exact P⟩,m,λb j=>(n b j).1⟩⟩
 done:=by intro X q C y O i g s N H E I n f w;subst q C y;obtain⟨xs,hq,P⟩:=w;obtain⟨l,G,p,Q⟩:=I.tuple hq;obtain⟨A,M,f2,F,t,B⟩:=n it H9;have:=G.length;exact wpAny_pyNext_tuple_end (I.ok.hd O) f (show s.heap.IsTuple a l.toArray from p) (by simp;simp_all) λD V=>⟨rfl,I.turned (λb o j e=>V b o j e) A M F t B⟩
 self:=λ_ _ _ _ _ f h=>wpAny_pyIter_tupleiter f h
def KL(it:Addr)(lo:Int)(n:Nat):Turn r a2 L o (RV lo n) [it] it (λi h=>IsRangeIter h it (lo+(i:Nat)*1) ((n:Int)-(i:Nat)) 1) where
 mem:=H9
 obj:=λi h a b d=>by
  have e:b=it:=by simpa using d
  subst e;exact⟨_,a,λv z=>by cases z⟩
 keep:=λi h q a k=>k it H9 _ a
 item:=by
  intro X y C A x i c s B H E I g a u;obtain⟨l,p,O,P,j,m⟩:=g it H9;refine(Walks.range (I.ok.hd x) it lo 1 n).item i s _ _ u a λv q D M f N=>?_;obtain⟨t,rfl⟩:=M;have F:Inv X c B H {s with heap:=q,toks:=D}:=I.turned (λb w d e=>N b w (by simpa using d) e) l p P j m;refine⟨_,rfl,Ea f rfl rfl f5 ⟨.int (lo+i),H,F,⟨t,?_⟩,⟨rfl,rfl⟩,f,λb d=>(g b d).1⟩⟩;rw[gs]
 done:=by intro X y C A x i c s B H E I g a u;obtain⟨l,p,O,P,j,m⟩:=g it H9;exact wpAny_pyNext_range_end (I.ok.hd x) a (by have:n<=i:=u;lia) λq G=>⟨rfl,I.turned (λb w d e=>G b w d e) l p P j m⟩
 self:=λ_ _ _ _ _ a h=>wpAny_pyIter_rangeiter a h
def EC{s:A0}{R:It->Hp->Prop}{lo f:Int}{t u v:Tok}(I:Inv X d l a s)(p : -(2^62)<=lo)(i:lo<2^62)(j : -(2^62)<=f)(g:f<2^62)(q:R (RV lo (f-lo).toNat) a):wpAny (model X.prog X.w) X.A (pyIter (.ref (hz s))) (PIE X d l o R) n {s with heap:=s.heap.push {cls:=.type "range",data:=.fields #[.int lo t,.int f u,.int 1 v]},toks:=k}:=by
 refine wpAny_pyIter_range (IsRange.new ..) (small_one p i j g) ?_;have H:Inv X d l a {s with heap:=s.heap.push {cls:=.type "range",data:=.fields #[.int lo t,.int f u,.int 1 v]},toks:=k}:=I.kept λb c e=>N3 _ e
 refine⟨(s.heap.push {cls:=.type "range",data:=.fields #[.int lo t,.int f u,.int 1 v]}).objs.size,[(s.heap.push {cls:=.type "range",data:=.fields #[.int lo t,.int f u,.int 1 v]}).objs.size],_,_,a,rfl,
  H.kept λb c e=>N3 _ e,KL _ lo (f-lo).toNat,?_,λb m=>?_,q⟩
 . have E:lo+((0:Nat))*1=lo:=by simp
   have h:(((f-lo).toNat))-((0:Nat))=Builtin.Range.rangeSize lo f 1:=by rw[rangeSize_one];split<;>lia
   rw[E,h];exact Y8 _ rfl
 . have e:b=(s.heap.push {cls:=.type "range",data:=.fields #[.int lo t,.int f u,.int 1 v]}).objs.size:=by simpa using m
   subst e;exact H.ye G8 (H.L3.fresh G8)
def WZ(ta:TA):TI:=λσ H R=>ta σ H λvs H1=>∃j:Int,vs=[.int j]/\-(2^62)<=j/\j<2^62/\R (RV 0 j.toNat) H1
def WY(ta:TA):TI:=λσ H R=>ta σ H λvs H1=>∃i j:Int,vs=[.int i,.int j]/\(-(2^62)<=i/\i<2^62/\-(2^62)<=j/\j<2^62)/\R (RV i (j-i).toNat) H1
def Og(l:Gl X "range")(f:X.mg "range" = J)(n:PA X [Z] O)(hs:autoParam (Q9 [Z] X.env=[(U',eval Z X.env)]) w4):PI X o (.Call (.Name "range" p) [Z] [] M) (WZ O):=by
 intro b s k H R I h;refine Call_ (iq I l f boot_range (qv (K0 (n M b s k H _ I h) λv u ⟨a,w,m,i,c⟩=>?_) hs rfl))
 obtain⟨j,e,c,q2,q⟩:=c;subst e;cases i with
 |cons r g=>
  cases g;obtain⟨t,rfl⟩:=r;exact call_range_1 (EC m C4 C4 c q2 (by simpa using q))
def Of{b:Expr}(x:Gl X "range")(a:X.mg "range" = J)(y:PA X [Z,b] O)(hs:autoParam (Q9 [Z,b] X.env=[(U',eval Z X.env),(U',eval b X.env)]) w4)(c:autoParam (Q9 [b] X.env=[(U',eval b X.env)]) w4):
  PI X o (.Call (.Name "range" p) [Z,b] [] M) (WY O):=by
 intro d s m H R I h;refine Call_ (iq I x a boot_range (qv (K0 (y M d s m H _ I h) λC B ⟨z,D,n,w,g⟩=>?_) (by rw[hs,c]) (by rw[c];rfl)))
 obtain⟨i,j,e,⟨g,q2,l,v⟩,q⟩:=g;subst e;cases w with
 |cons r f=>
  cases f with
  |cons u f=>
   cases f;obtain⟨t,rfl⟩:=r;obtain⟨A,rfl⟩:=u;exact call_range_2 (EC n g q2 l v q)
def a0N(wi:TI)(g:TG)(tb:TS):TS:=λD σ H=>wi σ H λJff H1=>∃W:Nat->Nat->St->Hp->Prop,(∃m,W 0 m σ H1)/\∀i m σ H,W i m σ H ->
 (Jff.stop i H/\D.nx σ H)\/(Jff.go i H/\∃N:St->Hp->Prop,(∀σ' H',N σ' H'->∃m',m'<m/\W (i+1) m' σ' H')/\∀x H',Jff.Wh i H x H'->g x σ H' λσ2 H2=>tb {D with nx:=N,ct:=N,bk:=D.nx} σ2 H2)
def uN(fp:List Addr)(h:Heap):List (Addr×Obj):=fp.filterMap λb=>(h.get? b).map λo=>(b,o)
def nW(a:e∈I)(b:h.get? e=U b4):(e,b4)∈uN I h:=List.mem_filterMap.mpr ⟨e,a,by rw[b];rfl⟩
def OJ{p:Addr×Obj}(a:p∈uN I h):p.1∈I/\h.get? p.1=U p.2:=by
 obtain⟨b,d,e⟩:=List.mem_filterMap.mp a;cases q:h.get? b with
 |none=>rw[q]at e;exact nE e
 |some o=>
  rw[q]at e;have c:=W5 e;subst c;exact⟨d,q⟩
def Inv.pinned{H:Hp}(n:Inv X d l H c)(h:∀b∈I,nA X d H b)(g:∀b∈I,∃o,c.heap.get? b=U o/\∀v,o.data≠.cell v):Inv X (d++uN I c.heap) l H c:=
 n.ly λp i=>(List.mem_append.mp i).elim (λz=>n.pin p (N1 _ z)) λz=>by obtain⟨f,e⟩:=OJ z;obtain⟨j,s,k,_⟩:=h p.1 f;obtain⟨o,m,a⟩:=g p.1 f;rw[e]at m;cases m;exact⟨e,j,s,k,a⟩
def Inv.xK{pl:List (Addr×Obj)}{H:Hp}(I:Inv X (d++pl) l H c):Inv X d l H c:=I.ly λp b=>I.pin p (N1 _ (T1 _ b))
def a1C{wi:TI}{g:TG}(hp:zT (model X.prog X.w) X.A X.env X.xe)(hc:X.calm=Uf)(hi:PI X o Z wi)(hg:PG X o g)(hb:qr X b5 b6)(hs:autoParam (Xw X Z) iz):PS X (.For o Z b5 [] p) (a0N wi g b6):=by
 intro pins s σ H D I h;refine wpAny_For (K0 (hi pins s σ H _ I h) λv s1 h1=>K0 h1 λitv s2 h2=>?_) hs;obtain⟨it,fp,tn,Jff,H2,e,I2,T,st2,f2,W,⟨m0,w0⟩,turn⟩:=h2;subst e;have stat:∀{H':Hp},(∀b∈fp,H' b=J)->∀b∈fp,nA X pins H' b:=λhn b hb=>⟨hn b hb,(f2 b hb).2⟩;refine codeAny_forLoop_any (λn s'=>∃i σ' H',Inv X pins σ' H' s'/\tn i s'.heap/\(∀b∈fp,H' b=J)/\W i n σ' H') ?_ m0 ⟨0,σ,H2,I2,st2,λb hb=>(f2 b hb).1,w0⟩
 rintro n s3 ⟨i,σ3,H3,I3,st3,fr3,w3⟩;rcases turn i n σ3 H3 w3 with ⟨stop,qn⟩|⟨go,N,hN,step⟩
 refine pO hp (K0 (T.done X rfl rfl rfl hc i pins s3 σ3 H3 X.xe I3 (stat fr3) st3 stop) λr s4 ⟨hr,I4⟩=>?_);subst hr;exact Av ⟨σ3,H3,I4,qn⟩
 . refine pO hp (K0 (T.item X rfl rfl rfl hc i pins s3 σ3 H3 X.xe I3 (stat fr3) st3 go) λr s4 ⟨u,hr,h4⟩=>?_);subst hr;refine pO hp (K0 h4 λ_ s5 ⟨x,H5,I5,r5,y5,st5,fr5⟩=>?_);have I5':=I5.pinned (stat fr5) (T.obj _ _ st5);refine pO hp (K0 (hg _ s5 σ3 H5 x u _ I5' r5 (step x H5 y5)) λ_ s6 ⟨σ6,H6,I6,q6⟩=>?_);refine pO hp (K0 (hb _ s6 σ6 H6 _ I6 q6) λf s7 q7=>?_)
   have again:∀{σ7:St}{H7:Hp},Inv X (pins++uN fp s5.heap) σ7 H7 s7->N σ7 H7->∃m,m<n/\∃i σ' H',Inv X pins σ' H' s7/\tn i s7.heap/\(∀b∈fp,H' b=J)/\W i m σ' H':=λ{σ7 H7} I7 n7=>by
    obtain⟨m',hm,w7⟩:=hN σ7 H7 n7;refine⟨m',hm,i+1,σ7,H7,I7.xK,T.keep _ _ _ st5 λb hb a e=>(I7.pin (b,a) (N1 _ (N1 _ (nW hb e)))).1,λb hb=>?_,w7⟩;obtain⟨a,e,d⟩:=T.obj _ _ st5 b hb;exact(I7.pin (b,a) (N1 _ (N1 _ (nW hb e)))).2.1
   cases f with
   |next=>obtain⟨σ7,H7,I7,n7⟩:=q7;exact again I7 n7
   |cont=>obtain⟨σ7,H7,I7,n7⟩:=q7;exact again I7 n7
   |brk=>obtain⟨σ7,H7,I7,q7⟩:=q7;exact⟨σ7,H7,I7.xK,q7⟩
   |ret v=>obtain⟨x7,σ7,H7,I7,r7,q7⟩:=q7;exact⟨x7,σ7,H7,I7.xK,r7,q7⟩
abbrev R2:=V->V->Hp->VK->Prop
variable{c7:R2}
def Y9(X:Cx)(f:t7->t7->Sem t7)(r:R2):Prop:=
 ∀(pins:List (Addr×Obj)) (s:A0) (σ:St) (H:Hp) (x y:V) (v u:t7) (Q:VK),Inv X pins σ H s->RelV x v->RelV y u->r x y H Q ->
  wpAny (model X.prog X.w) X.A (f v u) (EP X pins σ Q) X.xe s
def Xq(X:Cx)(f:t7->Sem t7)(r:V->Hp->VK->Prop):Prop:=
 ∀(pins:List (Addr×Obj)) (s:A0) (σ:St) (H:Hp) (x:V) (v:t7) (Q:VK),Inv X pins σ H s->RelV x v->r x H Q ->
  wpAny (model X.prog X.w) X.A (f v) (EP X pins σ Q) X.xe s
def cD(X:Cx)(f:t7)(r:List V->Hp->VK->Prop):Prop:=
 ∀(pins:List (Addr×Obj)) (s:A0) (σ:St) (H:Hp) (xs:List V) (us:List t7) (Q:VK),Inv X pins σ H s->Vals xs us->r xs H Q ->
  wpAny (model X.prog X.w) X.A (call f us) (EP X pins σ Q) X.xe s
def tU(r:R2)(ta tb:TE):TE:=λσ H Q=>ta σ H λx H1=>tb σ H1 λy H2=>r x y H2 Q
def tUn(r:V->Hp->VK->Prop)(ta:TE):TE:=λσ H Q=>ta σ H λx H1=>r x H1 Q
def rI(C:Int->Int->Prop)(g:Int->Int->V):R2:=λx y H Q=>∃i j,x=.int i/\y=.int j/\C i j/\Q (g i j) H
def nH(g:Int->Int->V):R2:=λx y H Q=>∃i j,x=.int i/\y=.int j/\Q (g i j) H
def rU(g:Int->V):V->Hp->VK->Prop:=λx H Q=>∃i,x=.int i/\Q (g i) H
def VO(a:PE X o t)(Q:PE X Z S){H:Hp}{R:V->V->Hp->Prop}(I:Inv X d l H c)(h:t l H λx b=>S l b λy H2=>R x y H2)(k:∀v u s2 x y H2,Inv X d l H2 s2->RelV x v->RelV y u->R x y H2->wpAny (model X.prog X.w) X.A (b8 v u) n X.xe s2):
  wpAny (model X.prog X.w) X.A (eval o X.env) (λv s₁=>wpAny (model X.prog X.w) X.A (eval Z X.env) (λu s₂=>wpAny (model X.prog X.w) X.A (b8 v u) n X.xe s₂) X.xe s₁) X.xe c:=by
 refine K0 (a d c l H _ I h) λv j ⟨x,b,s,i,m⟩=>?_;refine K0 (Q d j l b _ s m) λu s2 ⟨y,H2,g,e,q2⟩=>?_;exact k v u s2 x y H2 g i e q2
def a4a{op:Operator}(e:Y9 X (aD op) c7)(m:PE X o t)(l:PE X Z S):PE X (.BinOp o op Z p) (tU c7 t S):=by exact λc s j H Q I h=>wpAny_BinOp (VO m l I h λv u f x y d g k i q=>e c f j d x y v u Q g k i q)
def a3Y{op:UnaryOp}{r:V->Hp->VK->Prop}(d:Xq X (unaryOp op) r)(k:PE X o t):PE X (.UnaryOp op o p) (tUn r t):=by exact λb s c H Q I h=>UnaryOp_ (K0 (k b s c H _ I h) λv f ⟨x,g,i,e,j⟩=>d b f c g x v Q i e j)
def Oq{C:Int->Int->Prop}(a:∀(i j:Int) (t u:Tok) (s:A0) (Q:t7->A0->Prop) (E:t7->A0->Prop),C i j->Q (.int (h8 i j) s.toks) {s with toks:=s.toks+1}->wpAny (model X.prog X.w) X.A (b8 (.int i t) (.int j u)) Q E s):
  Y9 X b8 (rI C λi j=>.int (h8 i j)):=by intro b s l H x y v u Q I e c h;obtain⟨i,j,rfl,rfl,k,q⟩:=h;obtain⟨t,rfl⟩:=e;obtain⟨d,rfl⟩:=c;exact a i j t d s _ _ k ⟨.int (h8 i j),H,I.tok _,⟨_,rfl⟩,q⟩
def a2f(a:∀(i j:Int) (t u:Tok) (s:A0) (Q:t7->A0->Prop) (E:t7->A0->Prop),Q (.int (h8 i j) s.toks) {s with toks:=s.toks+1}->wpAny (model X.prog X.w) X.A (b8 (.int i t) (.int j u)) Q E s):
  Y9 X b8 (nH λi j=>.int (h8 i j)):=by intro b s k H x y v u Q I e c h;obtain⟨i,j,rfl,rfl,q⟩:=h;obtain⟨t,rfl⟩:=e;obtain⟨d,rfl⟩:=c;exact a i j t d s _ _ ⟨.int (h8 i j),H,I.tok _,⟨_,rfl⟩,q⟩
def Lq{g:Int->Int->Bool}(a:∀(i j:Int) (t u:Tok) (s:A0) (Q:t7->A0->Prop) (E:t7->A0->Prop),Q (.bool (g i j)) s->wpAny (model X.prog X.w) X.A (b8 (.int i t) (.int j u)) Q E s):
  Y9 X b8 (nH λi j=>.bl (g i j)):=by intro b s k H x y v u Q I e c h;obtain⟨i,j,rfl,rfl,q⟩:=h;obtain⟨t,rfl⟩:=e;obtain⟨d,rfl⟩:=c;exact a i j t d s _ _ ⟨.bl (g i j),H,I,rfl,q⟩
def Cv(i j:Int):Prop:=0<=j/\j<=1000000/\i.natAbs<2^64
def KI(k:Nat):(0:Int)<=2^k:=by exact vT _
def a2e:Y9 X (aD .Add) (nH λi j=>.int (i+j)):=a2f λ_ _ _ _ _ _ _ q=>add_int q
def a1V:Y9 X (aD .Sub) (nH λi j=>.int (i-j)):=a2f λ_ _ _ _ _ _ _ q=>sub_int q
def Ze:Y9 X (aD .Mod) (rI (λ_ j=>j≠0) λi j=>.int (i.fmod j)):=Oq λ_ _ _ _ _ _ _ a q=>mod_int' a q
def a1X:Y9 X (aD .Pow) (rI Cv λi j=>.int (i^j.toNat)):=Oq λ_ _ _ _ _ _ _ a q=>pow_int_small a.1 a.2.1 a.2.2 q
def a1W:Y9 X (aD .RShift) (rI (λ_ j=>0<=j) λi j=>.int (i/2^j.toNat)):=Oq λi j _ _ _ _ _ a q=>
 rshift_int a (by rw[bM i (KI _)];exact q)
def unI{f:t7->Sem t7}{g:Int->Int}(a:∀(i:Int) (t:Tok) (s:A0) (Q:t7->A0->Prop) (E:t7->A0->Prop),Q (.int (g i) s.toks) {s with toks:=s.toks+1}->wpAny (model X.prog X.w) X.A (f (.int i t)) Q E s):
  Xq X f (rU λi=>.int (g i)):=by intro b s d H x v Q I c h;obtain⟨i,rfl,q⟩:=h;obtain⟨t,rfl⟩:=c;exact a i t s _ _ ⟨.int (g i),H,I.tok _,⟨_,rfl⟩,q⟩
def a0z:Xq X (unaryOp .USub) (rU λi=>.int (-i)):=unI λ_ _ _ _ _ q=>neg_int q
noncomputable def a0V:V->V->Bool
 | .non,.non=>Uf | .non,.int _=>Uf | .int _,.non=>Uf | .non,.bl _=>Uf | .bl _,.non=>Uf | .non,.str _=>Uf | .str _,.non=>Uf
 | .int _,.int _=>Uf | .bl _,.bl _=>Uf | .str _,.str _=>Uf | .byt _,.byt _=>Uf
 | .int _,.str _=>Uf | .str _,.int _=>Uf | .bl _,.str _=>Uf | .str _,.bl _=>Uf
 |_,_=>U'
def rEq:R2:=λx y H Q=>a0V x y=Uf/\Q (.bl (decide (x=y))) H
def rNe:R2:=λx y H Q=>a0V x y=Uf/\Q (.bl (!decide (x=y))) H
def Kr{i j:Int}:decide (V.int i=V.int j)=(i==j):=by rw[rZ];simp
def PZ{j:Bool}:decide (V.bl c8=V.bl j)=(c8==j):=by rw[rZ];simp
def Kq{j:Str}:decide (V.str m=V.str j)=(m==j):=by rw[rZ];simp
def Ks{i j:Array UInt8}:decide (V.byt i=V.byt j)=(i.toList==j.toList):=by rw[rZ];cases i;cases j;simp
def N0{H:Hp}{k':Bool}(I:Inv X d l H c)(q:c9 (.bl c8) H)(e:c8=k'):EP X d l c9 (.bool k') c:=by subst e;exact⟨.bl c8,H,I,rfl,q⟩
def a4e:Y9 X (bp .Eq) rEq:=by
 intro e s f H x y v u Q I d a h;obtain⟨c,q⟩:=h;cases x with
 |non=>
  cases d;cases y with
  |non=>cases a;exact PySem.EqNone.eq_none_none (N0 I q rfl)
  |bl j=>cases a;exact PySem.EqNone.eq_none_bool (N0 I q rfl)
  |int j=>obtain⟨b,rfl⟩:=a;exact PySem.EqNone.eq_none_int (N0 I q rfl)
  |str j=>obtain⟨b,rfl⟩:=a;exact PySem.EqNone.eq_none_str (N0 I q rfl)
  |_=>exact absurd (show U'=Uf from c) dY
 |bl i=>
  cases d;cases y with
  |non=>cases a;exact PySem.EqNone.eq_bool_none (N0 I q rfl)
  |bl j=>cases a;exact eq_bool (N0 I q PZ)
  |str j=>obtain⟨b,rfl⟩:=a;exact PySem.EqMixed.eq_bool_str (N0 I q rfl)
  |_=>exact absurd (show U'=Uf from c) dY
 |int i=>
  obtain⟨t,rfl⟩:=d;cases y with
  |non=>cases a;exact PySem.EqNone.eq_int_none (N0 I q rfl)
  |int j=>obtain⟨b,rfl⟩:=a;exact eq_int (N0 I q Kr)
  |str j=>obtain⟨b,rfl⟩:=a;exact PySem.EqMixed.eq_int_str (N0 I q rfl)
  |_=>exact absurd (show U'=Uf from c) dY
 |str i=>
  obtain⟨t,rfl⟩:=d;cases y with
  |non=>cases a;exact PySem.EqNone.eq_str_none (N0 I q rfl)
  |bl j=>cases a;exact PySem.EqMixed.eq_str_bool (N0 I q rfl)
  |int j=>obtain⟨b,rfl⟩:=a;exact PySem.EqMixed.eq_str_int (N0 I q rfl)
  |str j=>obtain⟨b,rfl⟩:=a;exact eq_str (N0 I q Kq)
  |_=>exact absurd (show U'=Uf from c) dY
 |byt i=>
  obtain⟨t,rfl⟩:=d;cases y with
  |byt j=>obtain⟨b,rfl⟩:=a;exact PySem.W.eq_bytes (N0 I q Ks)
  |_=>exact absurd (show U'=Uf from c) dY
 |_=>cases y<;>exact absurd (show U'=Uf from c) dY
def a4d:Y9 X (bp .NotEq) rNe:=by
 intro e s f H x y v u Q I d a h;obtain⟨c,q⟩:=h;cases x with
 |non=>
  cases d;cases y with
  |non=>cases a;exact PySem.EqNone.ne_none_none (N0 I q rfl)
  |bl j=>cases a;exact PySem.EqNone.ne_none_bool (N0 I q rfl)
  |int j=>obtain⟨b,rfl⟩:=a;exact PySem.EqNone.ne_none_int (N0 I q rfl)
  |str j=>obtain⟨b,rfl⟩:=a;exact PySem.EqNone.ne_none_str (N0 I q rfl)
  |_=>exact absurd (show U'=Uf from c) dY
 |bl i=>
  cases d;cases y with
  |non=>cases a;exact PySem.EqNone.ne_bool_none (N0 I q rfl)
  |bl j=>cases a;exact ne_bool (N0 I q (C2 not PZ))
  |str j=>obtain⟨b,rfl⟩:=a;exact PySem.EqMixed.ne_bool_str (N0 I q rfl)
  |_=>exact absurd (show U'=Uf from c) dY
 |int i=>
  obtain⟨t,rfl⟩:=d;cases y with
  |non=>cases a;exact PySem.EqNone.ne_int_none (N0 I q rfl)
  |int j=>obtain⟨b,rfl⟩:=a;exact ne_int (N0 I q (C2 not Kr))
  |str j=>obtain⟨b,rfl⟩:=a;exact PySem.EqMixed.ne_int_str (N0 I q rfl)
  |_=>exact absurd (show U'=Uf from c) dY
 |str i=>
  obtain⟨t,rfl⟩:=d;cases y with
  |non=>cases a;exact PySem.EqNone.ne_str_none (N0 I q rfl)
  |bl j=>cases a;exact PySem.EqMixed.ne_str_bool (N0 I q rfl)
  |int j=>obtain⟨b,rfl⟩:=a;exact PySem.EqMixed.ne_str_int (N0 I q rfl)
  |str j=>obtain⟨b,rfl⟩:=a;exact ne_str (N0 I q (C2 not Kq))
  |_=>exact absurd (show U'=Uf from c) dY
 |byt i=>
  obtain⟨t,rfl⟩:=d;cases y with
  |byt j=>obtain⟨b,rfl⟩:=a;exact PySem.W.ne_bytes (N0 I q (C2 not Ks))
  |_=>exact absurd (show U'=Uf from c) dY
 |_=>cases y<;>exact absurd (show U'=Uf from c) dY
def DU:Y9 X (bp .Lt) (nH λi j=>.bl (decide (i<j))):=Lq λ_ _ _ _ _ _ _ q=>lt_int q
def WL:Y9 X (bp .LtE) (nH λi j=>.bl (decide (i<=j))):=Lq λ_ _ _ _ _ _ _ q=>le_int q
def WM:Y9 X (bp .Gt) (nH λi j=>.bl (decide (j<i))):=Lq λ_ _ _ _ _ _ _ q=>gt_int q
def WN:Y9 X (bp .GtE) (nH λi j=>.bl (decide (j<=i))):=Lq λ_ _ _ _ _ _ _ q=>ge_int q
def a2c:Y9 X (bp .Is) (λx y H Q=>y=.non/\Q (.bl (decide (x=.non))) H):=by
 intro b s d H x y v u Q I a c h;obtain⟨rfl,q⟩:=h;cases c;refine is_none_gen (N0 I q ?_);cases x<;>first
  |(cases a;rfl)
  |(obtain⟨t,rfl⟩:=a;rfl)
def Zb:Y9 X (bp .IsNot) (λx y H Q=>y=.non/\Q (.bl (!decide (x=.non))) H):=by
 intro b s d H x y v u Q I a c h;obtain⟨rfl,q⟩:=h;cases c;refine isnot_none_gen (N0 I q ?_);cases x<;>first
  |(cases a;rfl)
  |(obtain⟨t,rfl⟩:=a;rfl)
def Y9.or{b:R2}(h:Y9 X b8 c7)(h':Y9 X b8 b):Y9 X b8 (λx y H Q=>c7 x y H Q\/b x y H Q):=by
 intro a s d H x y v u Q I e c q;rcases q with q|q
 exact h a s d H x y v u Q I e c q;exact h' a s d H x y v u Q I e c q
def ck(b:Expr)(h:autoParam (d6≠.In) L0)(a:autoParam (d6≠.NotIn) L0):rW d6 b=U':=by
 have d:(d6==CmpOp.In)=U':=by cases d6<;>first|rfl|exact absurd rfl h
 have c:(d6==CmpOp.NotIn)=U':=by cases d6<;>first|rfl|exact absurd rfl a
 cases b<;>simp[rW,d,c]
def YX(f:Y9 X (bp d6) c7)(n:PE X o t)(m:PE X Z S)(d:rW d6 Z=U'):PE X (.Compare o [d6] [Z] p) (tU c7 t S):=by exact λc s k H Q I h=>wpAny_Compare1 (VO n m I h λv u g x y e i l j q=>f c g k e x y v u Q i l j q) d
def Ws(t:TE):TT:=λσ H Q=>t σ H λx H'=>∃k,x=.bl k/\Q k H'
def Yw(g:Y9 X (bp d6) c7)(E:PE X o t)(D:PE X Z S)(a:rW d6 Z=U'):PT X (.Compare o [d6] [Z] p) (Ws (tU c7 t S)):=by
 intro d s f H Q I h;refine wpAny_isTrue_Compare1 (K0 (E d s f H _ I h) λv l ⟨x,B,m,b,C⟩=>K0 (D d l f B _ m C) λu q ⟨y,r,j,n,q2⟩=>
  K0 (g d q f r x y v u _ j b n q2) λc G ⟨z,w,F,A,k,e,i⟩=>?_) a
 subst e;cases A;exact sk ⟨w,F,i⟩
def rj:(J4:Nat)<2^63:=by rw[rP];decide
def Lp:Y9 X (aD .Add) (λx y H Q=>∃i j,x=.str i/\y=.str j/\i.length+j.length<=J4/\Q (.str (i++j)) H):=by intro a s g H x y v u Q I e c h;obtain⟨i,j,rfl,rfl,b,q⟩:=h;obtain⟨t,rfl⟩:=e;obtain⟨d,rfl⟩:=c;exact add_str (λd f=>⟨.str (i++j),H,I.tok _,⟨_,rfl⟩,q⟩) b
def vals1(r:Vals [G] z):∃u,z=[u]/\RelV G u:=by
 cases r with
 |cons b a=>cases a;exact⟨_,rfl,b⟩
def vals2{y:V}(r:Vals [G,y] z):∃u w',z=[u,w']/\RelV G u/\RelV y w':=by
 cases r with
 |cons c a=>
  cases a with
  |cons b d=>cases d;exact⟨_,_,rfl,c,b⟩
def VM:cD X (.builtin "abs") (λxs H Q=>∃i,xs=[.int i]/\Q (.int (if i<0 then -i else i)) H):=by intro a s c H xs d Q I r h;obtain⟨i,rfl,q⟩:=h;obtain⟨u,rfl,t,rfl⟩:=vals1 r;exact call_abs_int λu b=>⟨.int (if i<0 then -i else i),H,I.tok _,⟨_,rfl⟩,q⟩
structure yr(h:Heap)(x dx C:Addr)(mA:Str->Option t7):Prop where
 obj:h.get? x=U (mR C dx)
 ns:h.Ns1 dx mA
 ne:dx≠x
set_option tactic.hygienic true in
def OY(n:h.Ns1 e a6):∃od,h.get? e=U od/\∀name,Ar name od=U (a6 name):=by
 obtain⟨o,c,p,j,g,m,_,i⟩:=n;refine⟨o,j,λname=>?_⟩;have f:=i name;unfold nsFind findBy at f;rw[<-Array.find?_toList]at f;delta Ar;rw[g];dsimp only;split;rename_i y q;rw[q]at f;exact C2 U f
 . rename_i q;rw[q]at f;have a:c.toList.any (·.refKey)=U':=by rw[List.any_eq_false];intro y k;obtain⟨z,t,b⟩:=m y (Array.mem_toList_iff.mp k);simp[DictEntry.refKey,b]
   have l:¬c.toList.any (·.refKey)=Uf:=by rw[a];exact dY
   rw[s9 l];exact C2 U f
def yr.look{C:Addr}(I:yr h e B C a6):∃od,Aq h e (mR C B) C (U od)/\∀name,Ar name od=U (a6 name):=
 let ⟨od,c,d⟩:=OY I.ns
 ⟨od,⟨I.obj,rfl,rfl,c⟩,d⟩
section
variable{prog:N9}{w:G6}{K:A6}
def get_map{C:Addr}{Q:t7->A0->Prop}(X:K.In c.heap)(I:yr c.heap e B C a6)(d:vO K C m=Uf)(E:vR K C=Uf)(g:cY K (.ref C) m=U J)(f:a6 m=U u)(b:QI u=Uf)(h:Q u {c with toks:=c.toks+1}):
  wpAny (model prog w) A (getAttr (.ref e) m c8) Q n c:=by obtain⟨i,Jff,s⟩:=I.look;exact PySem.W.get_value X Jff (HL d).1 (PySem.W.findObj_own E g rfl (by rw[s,f])) b h
def Vd{C f:Addr}(X:K.In c.heap)(I:yr c.heap e B C a6)(a:vO K C m=Uf)(d:cY K (.ref C) m=U (U (.ref f)))(b:vI K (.ref f)=Uf)(E:a6 m=J)(h:i3 (.ref f,[.ref e]) c):
  wpAny (model prog w) A (zU (.ref e) m b9) i3 n c:=by obtain⟨s,Jff,g⟩:=I.look;exact PySem.W.method_fn X Jff (HL a).1 (HL a).2 d (beq_iff_eq.mp b) (by show(Ar m s).map (·.isSome)=U U';rw[g,E];rfl) h
def Yd{C:Addr}(X:K.In c.heap)(I:yr c.heap e B C a6)(hs:cY K (.ref C) "__setattr__" = U (U (.builtin "object.__setattr__")))(p:HB K C=Uf)(j:Hk K C m=U J)(o:vR K C=Uf)(l:GO a6 N)(hsz:N.length<=J4)(h:∀h',yr h' e B C (λy=>if y=m then U u else a6 y)->pI B c.heap h'->b7 () {c with heap:=h',toks:=c.toks+2}):
  wpAny (model prog w) A (setAttr (.ref e) m u) b7 n c:=by
 obtain⟨t,Jff,Q⟩:=I.look;refine PySem.W.set_plain X Jff hs (PySem.W.osa_open X Jff p j λb=>?_);obtain⟨v,q,x⟩:=AA o;refine u9 (B9 (u9 (u9 (wpAny_loadPart I.obj (u9 (PySem.W.Looks.here (PySem.W.looks_clsIn X q) ?_))))));rw[x];refine B9 (u9 (B9 (u9 ?_)));refine wpAny_nsSet1 I.ns λh' d s=>?_;obtain⟨z,E,k,g,i,f⟩:=d.count (PySem.Within.cons m u l);refine u9 (wpAny_lookBehind g (by rw[i];exact pastItsLine_dict (B7 f (by rw[Y7];simp[*]))) ?_);exact B9 (h _ ⟨(s.2 _ (mH I.ne)).trans I.obj,d,I.ne⟩ s)
def UT{R:Result->A0->Prop} (X:K.In c.heap) (s:Hj K e=Uf) (C:cY K (.ref e) "__init__" = U (U (.ref B))) (i:PySem.W.typeIn K (.ref B)=U (.type "function")) (h:codeAny (model prog w) (A.under (.builtin "type.__call__" ⟨.ref e::z,d8⟩)) (.call (.ref B) ⟨.ref ((hz c) + 1)::z,d8⟩) (PySem.W.InitBack ((hz c) + 1) R)
   {c with heap:=(c.heap.push mU).push (mR e (hz c))}) :
  codeAny (model prog w) A (.call (.ref e) ⟨z,d8⟩) R c:=by obtain⟨j,g,d,t,k⟩:=c;exact PySem.W.make_core (PySem.W.makes_of X s) (HQ X C) (λa=>PySem.W.bind_fn X a i) (.inl rfl) h
end
noncomputable def dB(f:Str)(v:V):List (Str×V)->List (Str×V)
 | []=>[(f,v)]
 |(g,x)::r=>if g=f then(g,v)::r else(g,x)::dB f v r
theorem xr(f g:Str)(v:V):∀fs:List (Str×V),(dB f v fs).lookup g=if g=f then U v else fs.lookup g
 | []=>by
  show gr g [(f,v)]=_;by_cases h:g=f;have a:=beq_iff_eq.mpr h;simp only[gr,a,r9 h];have a:=beq_eq_false_iff_ne.mpr h;simp only[gr,a,s9 h]
 |(k,x)::r=>by
  rw[show dB f v ((k,x)::r)=(if k=f then(k,v)::r else(k,x)::dB f v r)from rfl];by_cases b:k=f;rw[r9 b];by_cases h:g=k;have a:=beq_iff_eq.mpr h;simp only[gr,a,r9 (h.trans b)];have a:=beq_eq_false_iff_ne.mpr h;simp only[gr,a,s9 (λe:g=f=>h (e.trans b.symm))];rw[s9 b];by_cases h:g=k;have a:=beq_iff_eq.mpr h;simp only[gr,a,s9 (λe:g=f=>b (h.symm.trans e))];have a:=beq_eq_false_iff_ne.mpr h;simp only[gr,a];exact(xr f g v r)
theorem uW(f:Str)(v:V):∀fs:List (Str×V),f∈(dB f v fs).map (·.1)/\∀g,g∈fs.map (·.1)->g∈(dB f v fs).map (·.1)
 | []=>⟨by simp[dB],λg h=>by simp at h⟩
 |(k,x)::r=>by
  obtain⟨b,c⟩:=uW f v r;rw[show dB f v ((k,x)::r)=(if k=f then(k,v)::r else(k,x)::dB f v r)from rfl];by_cases a:k=f;rw[r9 a];subst a;exact⟨H9,λg h=>by simpa using h⟩
  . rw[s9 a];refine⟨?_,λg h=>?_⟩;rw[E8];exact E7 _ b
    . rw[E8]at h⊢;rcases List.mem_cons.mp h with e|e
      exact List.mem_cons.mpr (.inl e);exact E7 _ (c g e)
theorem xt(f:Str)(v:V):∀fs:List (Str×V),(dB f v fs).length<=fs.length+1
 | []=>by simp[dB]
 |(k,x)::r=>by
  have:=xt f v r;rw[show dB f v ((k,x)::r)=(if k=f then(k,v)::r else(k,x)::dB f v r)from rfl];by_cases a:k=f;rw[r9 a,Y7,Y7];simp[*];rw[s9 a,Y7,Y7];simp[*]
def ic.some_of(r:ic (U G) i4):∃u,i4=U u/\RelV G u:=by
 cases i4 with
 |none=>exact(show False from r).elim
 |some u=>exact⟨u,rfl,r⟩
def ic.none_of(r:ic J i4):i4=J:=by
 cases i4 with
 |none=>rfl
 |some u=>exact(show False from r).elim
def Px(r:RelV G u):QI u=Uf:=by
 cases G with
 |non=>cases(show u=GA from r);rfl
 |bl b=>cases(show u=vA b from r);rfl
 |int i=>obtain⟨t,e⟩:=(show ∃t,u=zW i t from r);cases e;rfl
 |str x=>obtain⟨t,e⟩:=(show ∃t,u=zV x t from r);cases e;rfl
 |byt b=>obtain⟨t,e⟩:=(show ∃t,u=Value.bytes b t from r);cases e;rfl
 |flt b=>obtain⟨t,e⟩:=(show ∃t,u=Value.float b t from r);cases e;rfl
 |ref a=>cases(show u=bH a from r);rfl
 |ty n=>cases(show u=zX n from r);rfl
section
variable{w:G6}
def BW{dx:Addr}(c:G4 r w a h)(H:a e=U (.ins B dx d2)):∃b,yr h e dx B b/\(∀f,ic (d2.lookup f) (b f))/\GO b (d2.map (·.1))/\d2.length<=1000/\a dx=U (.own e):=by
 obtain⟨d,z,ne,g,b,n,P,q⟩:=(show aP r w a h e (.ins B dx d2)from c e _ H);exact⟨b,⟨g,n,ne⟩,P,q,z,d⟩
end
structure wg(K:A6)(C:Addr):Prop where
 pg:vO K C mK=Uf
 hd:vR K C=Uf
 po:HB K C=Uf
 sa:cY K (.ref C) "__setattr__" = U (U (.builtin "object.__setattr__"))
def wg.get(c:wg L e)(f:Str):vO L e f=Uf:=c.pg
def cU(K:A6)(C:Addr)(f:Str):Prop:=cY K (.ref C) f=U J
def cU.a3J(n:cU L e m):Hk L e m=U J:=by
 delta Hk;rw[show cY L (.ref e) m=U J from n];rfl
structure Meth(K:A6)(C:Addr)(m:Str)(f:Addr):Prop where
 at_:cY K (.ref C) m=U (U (.ref f))
 fn:vI K (.ref f)=Uf
 kp:pK K (.ref f)=Uf
def Mi{dx:Addr}{Q:t7->A0->Prop}(I:Inv X d l a c)(C:a e=U (.ins B dx d2))(s:wg X.K B)(f:cU X.K B m)(H:d2.lookup m=U G)(h:∀u s',Inv X d l a s'->RelV G u->Q u s'):wpAny (model X.prog X.w) A (getAttr (.ref e) m c8) Q n c:=by
 obtain⟨i,O,r,_,_,_⟩:=BW I.L3 C;obtain⟨u,g,σ⟩:=ic.some_of (by rw[<-H];exact r m);exact get_map I.iu O (s.get m) s.hd f g (Px σ) (h u _ (I.tok _) σ)
def sS{dx:Addr}{g:Addr}(I:Inv X d l a c)(s:a e=U (.ins B dx d2))(H:wg X.K B)(k:Meth X.K B m g)(σ:d2.lookup m=J)(h:i3 (.ref g,[.ref e]) c):wpAny (model X.prog X.w) A (zU (.ref e) m b9) i3 n c:=by
 obtain⟨mA,O,r,_,_,_⟩:=BW I.L3 s;have hn:mA m=J:=ic.none_of (by rw[<-σ];exact r m);exact Vd I.iu O (H.get m) k.at_ k.fn hn h
def KY{dx:Addr}(I:Inv X d l a c)(C:a e=U (.ins B dx d2))(s:wg X.K B)(y:cU X.K B m)(Q:d2.length<1000)(t:RelV G u)(h:∀s',Inv X d l (upd a e (.ins B dx (dB m G d2))) s'->b7 () s'):wpAny (model X.prog X.w) A (setAttr (.ref e) m u) b7 n c:=by
 obtain⟨i,O,r,k,_,j⟩:=BW I.L3 C;have p:(d2.map (·.1)).length<=J4:=by rw[F9,rP];exact nI
 refine Yd I.iu O s.sa s.po y.a3J s.hd k p λE σ f=>h _ ?_
 have H:∃o,E.get? dx=U o:=let ⟨o,_,_,D,_⟩:=σ.ns;⟨o,D⟩;refine I.write (by rw[C];exact mL) (.inr j) (λb q F z=>(f.2 b F).trans z) H ?_
 refine⟨by rw[L8 O.ne];exact j,?_,O.ne,σ.obj,_,σ.ns,λg=>?_,λg v=>?_⟩;have:=xt m G d2;exact B7 u4 u4;show ic ((dB m G d2).lookup g) (if g=m then U u else i g);rw[xr];by_cases q:g=m;rw[r9 q,r9 q];exact t;rw[s9 q,s9 q];exact r g;by_cases q:g=m;rw[q];exact(uW m G d2).1;refine(uW m G d2).2 g (k g λz=>v ?_);show(if g=m then U u else i g)=J;rw[s9 q];exact z
def Inv.made{C:Addr}(I:Inv X d l a c):Inv X d l (upd (upd a (hz c) (.own ((hz c)+1))) ((hz c)+1) (.ins C (hz c) []))
  {c with heap:=(c.heap.push mU).push (mR C (hz c))}:=by
 have H:(c.heap.push mU).get? (hz c)=U mU:=Y8 c.heap rfl;have g:((c.heap.push mU).push (mR C (hz c))).get? ((hz c)+1)=U (mR C (hz c)):=by
  have:=Y8 (c.heap.push mU) (o:=mR C (hz c)) rfl
  rwa [iV]at this
 have s:(c.heap.push mU).Ns (hz c) (λ_=>J):=⟨mU,#[],_,H,rfl,(λe f=>absurd f (λh=>nomatch h)),λ_=>rfl⟩;have σ:=I.laid (o:=.own ((hz c)+1)) (t':=c.toks) (λb u q=>N3 _ q) G8 ⟨_,H⟩;refine σ.laid (λb u q=>N3 _ q) (rT (iV _ _)) ?_;have ne:(hz c)≠(hz c)+1:=S8 (pR _);refine⟨by rw[L8 ne,Q5],iH _,ne,g,λ_=>J,(Heap.Ns1.of_empty s).at λo q=>N3 _ q,λ_=>mL,λy h=>absurd rfl h⟩
def ZX{env:Env}{Q:t7->A0->Prop}(a:GV o m env (eval o env)=eval o env)(h:wpAny (model r a2) A (eval o env) (λE s₁=>wpAny (model r a2) A (getAttr E m Uf) Q n s₁) n c):wpAny (model r a2) A (eval (.Attribute o m p) env) Q n c:=
 Attribute_any_ h (by rw[arm_eval_Attribute,a])
def Bm(K:A6)(ta:TE)(f:Str):TE:=λσ H Q=>ta σ H λx H1=>∃a C dx fs v,x=.ref a/\H1 a=U (.ins C dx fs)/\wg K C/\cU K C f/\fs.lookup f=U v/\Q v H1
def a0X(K:A6)(ta tv:TE)(f:Str):TS:=λD σ H=>tv σ H λy H1=>ta σ H1 λx H2=>∃a C dx fs,x=.ref a/\H2 a=U (.ins C dx fs)/\wg K C/\cU K C f/\fs.length<1000 /\
 D.nx σ (upd H2 a (.ins C dx (dB f y fs)))
def uO(g:PE X o t)(r:Bj X o m):PE X (.Attribute o m p) (Bm X.K t m):=by
 intro b s j H Q I h;refine ZX r (K0 (g b s j H _ I h) λu y ⟨x,f,e,k,a,C,z,fs,v,D,d,c,n,l,q⟩=>?_);subst D;obtain rfl:=k;exact Mi e d c n l λA w i B=>⟨v,f,i,B,q⟩
def a1D(w:PE X o t)(r:PE X Z S)(hs:bG Z (U (.Attribute o m M)) p.line X.env=pure U'):PS X (.Assign [.Attribute o m M] Z p) (a0X X.K t S m):=by
 intro b s d H D I h;refine plainObj_wpAny_Assign_Attribute (K0 (r b s d H _ I h) λu j ⟨y,v,f,K,q⟩=>K0 (w b j d v _ f q) λk E ⟨x,B,g,i,a,C,F,fs,G,e,c,n,l,q2⟩=>?_) hs;subst G;obtain rfl:=i;exact KY g e c n l K λA z=>⟨d,_,z,q2⟩
def a3x(v:PE X o t) (I:Inv X d l a c) (h:t l a λx i=>∃Q C w fs g,x=.ref Q/\i Q=U (.ins C w fs)/\wg X.K C/\Meth X.K C m g/\fs.lookup m=J /\
   ∀s1,Inv X d l i s1->wpAny (model X.prog X.w) X.A (callWith p (.ref g) [.ref Q] (gq p (Q9 y X.env)) (vx p (vC [] X.env))) n X.xe s1)
  (b:eval (.Call (.Attribute o m M) y [] p) X.env=(do
   let ov <- eval o X.env
   mI M.atName
   let (f,first) <- holding [ov] (zU ov m b9)
   callWith p f first (gq p (Q9 y X.env)) (vx p (vC [] X.env)))) :
  wpAny (model X.prog X.w) X.A (eval (.Call (.Attribute o m M) y [] p) X.env) n X.xe c:=by
 refine HU (K0 (v d c l a _ I h) λu s1 ⟨x,i,j,r,Q,C,w,fs,g,z,e,s,k,H,q⟩=>?_) b;subst z;obtain rfl:=r;exact sS j e s k H (q s1 j)
section
variable{Q:t7->A0->Prop}
end
structure S5(k:Nat)(A:aY):Prop where
 hd:A.handled=J
 dp:A.depth+3*k+5<recursionLimit
 un:A.units+16*k+200<U0
def S5.mono{j:Nat}(r:S5 k A)(h:j<=k):S5 j A:=⟨r.hd,by have:=r.dp;lia,by have:=r.un;lia⟩
theorem S5.deeper(r:S5 (k+1) A)(env:Env):S5 k (A.deeper env):=
 ⟨r.hd,by have:=r.dp;show A.depth+1+3*k+5<_;lia,by have:=r.un;show A.units+3+16*k+200<_;lia⟩
def LV:(A.under (.builtin "type.__call__" ⟨.ref e::z,d8⟩)).depth=A.depth+1:=by first|rfl|simp[GN]
def LU:(A.under (.builtin "type.__call__" ⟨.ref e::z,d8⟩)).units=A.units+1:=by first|rfl|simp[GN]
def S5.make(r:S5 (k+1) A)(C:Addr)(us:List t7)(a:List (Str×t7)):S5 k (A.under (.builtin "type.__call__" ⟨.ref C::us,a⟩)):=
 ⟨r.hd,by have:=r.dp;rw[LV];lia,by have:=r.un;rw[LU];lia⟩
theorem S5.depth(r:S5 k A):A.depth<recursionLimit:=by have:=r.dp;lia
theorem S5.units(r:S5 k A):A.units+64<U0:=by have:=r.un;lia
def qF:TA:=λ_ H Q=>Q [] H
def jI(ta:TE)(tr:TA):TA:=λσ H Q=>ta σ H λx H1=>tr σ H1 λxs H2=>Q (x::xs) H2
def oP:PA X [] qF:=λ_ _ _ _ H Q I h=>HA ⟨[],H,I,.nil,h⟩
def fK(e:PE X o t)(f:PA X y O)(hs:autoParam (hI X o y) w4):PA X (o::y) (jI t O):=by
 intro pos a s b H Q I h;rw[hs];refine AH (K0 (e a s b H _ I h) λu k ⟨x,l,m,i,n⟩=>?_);exact K0 (f pos a k b l _ m n) λq p ⟨j,d,g,c,q2⟩=>⟨x::j,d,g,.cons i c,q2⟩
def Sw(t:TA):TE:=λσ H Q=>t σ H λxs H1=>xs.length<=J4/\∀p,H1 p=J->Q (.ref p) (upd H1 p (.tup xs))
def a0L(t:TA):TE:=λσ H Q=>t σ H λxs H1=>xs.length<=J4/\∀p,H1 p=J->Q (.ref p) (upd H1 p (.lst xs))
def Oh{x1}(h:PA X y O):PE X (.Tuple y x1 p) (Sw O):=by
 intro pins s σ H Q I hq;refine wpAny_Tuple_spliced (K0 (h p pins s σ H _ I hq) λus s1 ⟨xs,H1,I1,r,z,q⟩=>⟨by rw[<-r.length];exact z,?_⟩);have hf:H1 s1.heap.objs.size=J:=I1.L3.fresh G8;refine⟨.ref s1.heap.objs.size,upd H1 s1.heap.objs.size (.tup xs),I1.laid (t':=s1.toks) (λb u e=>N3 _ e) G8 ?_,rfl,q _ hf⟩;exact⟨z,us,r,⟨_,Y8 _ rfl,rfl,_,rfl⟩⟩
def a1P(h:PA X y O):PE X (.List y p) (a0L O):=by
 intro pins s σ H Q I hq;refine wpAny_List_spliced (K0 (h p pins s σ H _ I hq) λus s1 ⟨xs,H1,I1,r,z,q⟩=>⟨by rw[<-r.length];exact z,?_⟩);have hf:H1 s1.heap.objs.size=J:=I1.L3.fresh G8;refine⟨.ref s1.heap.objs.size,upd H1 s1.heap.objs.size (.lst xs),I1.laid (t':=s1.toks) (λb u e=>N3 _ e) G8 ?_,rfl,q _ hf⟩;exact⟨z,us,0,r,Y8 _ rfl⟩
abbrev Sp:=List V->Hp->VK->XK->Prop
variable{a9:Sp}
abbrev Bi:=List Env->Hp->A0->XK->t7->A0->Prop
variable{a7:Bi}
structure yu(P:N9)(w:G6)(K:A6)(mg:Str->Option t7)(base:Heap)(A:aY)(outer:List Env)(s:A0)(H:Hp):Prop where
 frames:A.frames=U outer
 mod:Mod K mg base
 bs:∀b o,base.get? b=U o->s.heap.get? b=U o/\H b=J
 uc:base.objs.size<=s.heap.objs.size
 lC:s.heap.FunFrames base outer
 Df:∀b∈rE outer,H b=J
 L3:G4 P w H s.heap
 bare:kn s.gens
def CE(outer:List Env)(P:N9)(w:G6)(H:Hp)(s:A0)(Q:VK)(u:t7)(s':A0):Prop:=
 ∃v H',s'.os=s.os/\kn s'.gens/\Un (rE outer) [] H H' s.heap s'.heap/\G4 P w H' s'.heap/\RelV v u/\Q v H'
def CR(CX:Bi)(outer:List Env)(P:N9)(w:G6)(H:Hp)(s:A0)(Q:VK)(E:XK)(r:Result)(s':A0):Prop:=
 match r with
 | .ok (.ret u)=>CE outer P w H s Q u s'
 | .ok _=>False
 | .error e=>CX outer H s E e s'
structure ie(P:N9)(w:G6)(K:A6)(mg:Str->Option t7)(base:Heap)(CX:Bi)(k:Nat)(f:Addr)(fd:Y6)(ps:List Str)(sp:Sp):Prop where
 len:∀vs H Q E,sp vs H Q E->vs.length=ps.length
 run:∀(A:aY) (outer:List Env) (s:A0) (H:Hp) (args:Args) (us:List t7) (vs:List V) (Q:VK) (E:XK),S5 k A->yu P w K mg base A outer s H->pC s fd args (ps.zip us)->Vals vs us->sp vs H Q E ->
  codeAny (model P w) A (.call (.ref f) args) (CR CX outer P w H s Q E) s
def yu.make(e:yu r a2 L a6 h A i5 c a)(C:Addr)(us:List t7)(P:List (Str×t7)):
  yu r a2 L a6 h (A.under (.builtin "type.__call__" ⟨.ref C::us,P⟩)) i5 c a:=⟨by first|exact e.frames|(simpa [GN,Code.envs,Code.isFrame,pushEnvs]using e.frames),e.mod,e.bs,e.uc,e.lC,e.Df,e.L3,e.bare⟩
def Inv.a2Y(I:Inv X d l a c):yu X.prog X.w X.K X.mg X.base X.A X.stack c a:=
 ⟨I.ok.frames,I.ok.mod,I.bs,B7 I.ok.uc I.sz,I.stack,I.Jf,I.L3,I.bare⟩
def Inv.after{s':A0}(I:Inv X d l a c)(h:CE X.stack X.prog X.w a c c9 u s'):EP X d l c9 u s':=by obtain⟨v,i,f,H,un,s,r,q⟩:=h;obtain⟨j,g,σ,t,e⟩:=s';obtain rfl:=f;exact⟨v,i,I.call un s H (λb z=>absurd z F5),r,q⟩
def yG(sp:Sp)(dvs:List V)(E:XK)(t:TA):TE:=λσ H Q=>t σ H λvs H1=>sp (vs++dvs) H1 Q E
def sE(C:Addr)(m:Str)(sp:Sp)(dvs:List V)(E:XK)(ta:TE)(t:TA):TE:=λσ H Q=>ta σ H λx H1=>∃a dx fs,x=.ref a/\H1 a=U (.ins C dx fs)/\fs.lookup m=J /\
 t σ H1 λvs H2=>sp (x::(vs++dvs)) H2 Q E
def Wx(C:Addr)(sp:Sp)(dvs:List V)(E:XK)(t:TA):TE:=λσ H Q=>t σ H λvs H1=>∀x dx,H1 x=J->H1 dx=J->dx≠x ->
 sp (.ref x::(vs++dvs)) (upd (upd H1 dx (.own x)) x (.ins C dx [])) (λv H2=>v=.non/\Q (.ref x) H2) E
def Binds(K:A6)(fd:Y6)(ps:List Str)(ds:List t7):Prop:=
 ∀(s:A0) (us:List t7),K.In s.heap->(us++ds).length=ps.length->pC s fd ⟨us,[]⟩ (ps.zip (us++ds))
def Binds.all(h:∀us:List t7,us.length=N.length->bindArgs a8 ⟨us,[]⟩=pure (N.zip us)):Binds L a8 N []:=λs us _ b=>by rw[af]at b⊢;exact .of_eq (h us b)
def Passes(CX:Bi)(X:Cx)(E:XK):Prop:=∀(pins:List (Addr×Obj)) (σ:St) (H:Hp) (s:A0) (e:t7) (s':A0),Inv X pins σ H s->CX X.stack H s E e s'->X.xe e s'
section
variable{f C:Addr}
def Ey{H:Hp}{us:List t7}{vs:List V}(F:ie X.prog X.w X.K X.mg X.base a7 k f a8 N a9)(g:S5 k X.A)(a:Binds X.K a8 N z)(hd:Vals q z)(E:Passes a7 X b3)(I:Inv X d l H c)(r:Vals vs us)(h:a9 (vs++q) H c9 b3):wpAny (model X.prog X.w) X.A (call (.ref f) us) (EP X d l c9) X.xe c:=by
 have b:=r.append hd;have i:(us++z).length=N.length:=by rw[<-b.length];exact F.len _ _ _ _ h
 refine wpAny_call (Af (F.run X.A X.stack c H ⟨us,[]⟩ (us++z) (vs++q) c9 b3 g I.a2Y (a c us I.iu i) b h) λr j hq=>?_)
 cases r with
 |error e=>exact E d l H c e j I hq
 |ok s=>
  cases s with
  |ret u=>exact I.after hq
  |next=>exact eS hq
  |brk=>exact eS hq
  |cont=>exact eS hq
def JA(F:ie X.prog X.w X.K X.mg X.base a7 k f a8 N a9)(l:S5 k X.A)(n:Gl X m)(g:X.mg m=U (.ref f))(u:pK X.K (.ref f)=Uf)(t:Binds X.K a8 N z)(hd:Vals q z)(j:Passes a7 X b3)(v:PA X (o::y) O)(b:autoParam (mE m) L0)(i:autoParam (hI X o y) w4)(c:autoParam (lj X M y) w4):
  PE X (.Call (.Name m p) (o::y) [] M) (yG a9 q b3 O):=by
 intro a s e H Q I h;refine so (BS I n g ?_ b);refine HJ I.ok.mod.JT u (K0 (v M a s e H _ I h) λB x ⟨w,C,d,r,E⟩=>⟨d.iu,?_⟩) i c;exact Ey F l t hd j d r E
def Jz(K:PE X o t)(c:wg X.K C)(v:Meth X.K C m f)(F:ie X.prog X.w X.K X.mg X.base a7 k f a8 N a9)(E:S5 k X.A)(P:Binds X.K a8 N z)(hd:Vals q z)(B:Passes a7 X b3)(R:PA X (Z::y) O)(d:autoParam (hI X Z y) w4)(g:autoParam (lj X p y) w4)(w:autoParam (Qt X o m M (Z::y) p b9) w4):
  PE X (.Call (.Attribute o m M) (Z::y) [] p) (sE C m a9 q b3 t O):=by
 intro b s n H Q I h;refine HU (K0 (K b s n H _ I h) λu G ⟨x,CX,A,D,a,Y,fs,L,W,l,e⟩=>?_) w;subst L;obtain rfl:=D;refine sS A W c v l ?_;refine HJ I.ok.mod.JT v.kp (K0 (R p b G n CX _ A e) λS V ⟨j,T,i,r,q2⟩=>⟨i.iu,?_⟩) d g;exact Ey (vs:=.ref a::j) F E P hd B i (.cons rfl r) q2
def Uk(j:PE X o t)(c:wg X.K C)(e:Meth X.K C m f)(F:ie X.prog X.w X.K X.mg X.base a7 k f a8 N a9)(A:S5 k X.A)(v:Binds X.K a8 N z)(hd:Vals q z)(n:Passes a7 X b3)(i:autoParam (Qt X o m M [] p b9) w4):
  PE X (.Call (.Attribute o m M) [] [] p) (sE C m a9 q b3 t qF):=by
 intro b s r H Q I h;refine HU (K0 (j b s r H _ I h) λu w ⟨x,D,d,G,a,B,fs,y,g,l,E⟩=>?_) i;subst y;obtain rfl:=G;refine sS d g c e l ?_;exact PySem.W.callWith_K0 d.iu e.kp (Ey (vs:=[.ref a]) F A v hd n d (.cons rfl .nil) E)
structure Mk(K:A6)(C f:Addr):Prop where
 makes:Hj K C=Uf
 init:cY K (.ref C) "__init__" = U (U (.ref f))
 fn:vI K (.ref f)=Uf
 kp:pK K (.ref C)=Uf
def SU{us:List t7}{vs:List V}(M:Mk X.K C f)(F:ie X.prog X.w X.K X.mg X.base a7 k f a8 N a9)(n:S5 (k+1) X.A)(H:Binds X.K a8 N z)(hd:Vals q z)(s:Passes a7 X b3)(I:Inv X d l a c)(r:Vals vs us)(h:∀x w,a x=J->a w=J->w≠x->a9 (.ref x::(vs++q)) (upd (upd a w (.own x)) x (.ins C w [])) (λv H2=>v=.non/\c9 (.ref x) H2) b3):
  wpAny (model X.prog X.w) X.A (call (.ref C) us) (EP X d l c9) X.xe c:=by
 have hq:=h ((hz c)+1) (hz c) (I.L3.fresh (Nat.le_succ _)) (I.L3.fresh G8) (S8 (pR _));have b:=Inv.made (C:=C) I;have g:Vals (V.ref ((hz c)+1)::(vs++q)) (bH ((hz c)+1)::(us++z)):=.cons rfl (r.append hd);have p:(bH ((hz c)+1)::us++z).length=N.length:=by have e:=g.length;rw[F.len _ _ _ _ hq]at e;exact e.symm
 refine wpAny_call (UT I.iu M.makes M.init (beq_iff_eq.mp M.fn) (Af (F.run _ X.stack _ _ ⟨bH ((hz c)+1)::us,[]⟩ (bH ((hz c)+1)::(us++z)) _ _ b3 (n.make C us [])
  (b.a2Y.make C us []) (H _ (bH ((hz c)+1)::us) b.iu p) g hq) λr E Q=>?_))
 cases r with
 |error e=>exact s d l _ _ e E b Q
 |ok i=>
  cases i with
  |ret u=>
   obtain⟨v,y,j,o,t,m⟩:=b.after Q;subst t;exact⟨o,⟨V.ref ((hz c)+1),y,j,rfl,m⟩⟩
  |next=>exact eS Q
  |brk=>exact eS Q
  |cont=>exact eS Q
def YT(t:Mk X.K C f)(F:ie X.prog X.w X.K X.mg X.base a7 k f a8 N a9)(l:S5 (k+1) X.A)(n:Gl X m)(g:X.mg m=U (.ref C))(w:Binds X.K a8 N z)(hd:Vals q z)(j:Passes a7 X b3)(u:PA X (o::y) O)(b:autoParam (mE m) L0)(i:autoParam (hI X o y) w4)(c:autoParam (lj X M y) w4):
  PE X (.Call (.Name m p) (o::y) [] M) (Wx C a9 q b3 O):=by
 intro a s e H Q I h;refine so (BS I n g ?_ b);refine HJ I.ok.mod.JT t.kp (K0 (u M a s e H _ I h) λx A ⟨v,B,d,r,E⟩=>⟨d.iu,?_⟩) i c;exact SU t F l w hd j d r E
end
structure lL(N P:List Str)(sc:eQ):Prop where
 kind:sc.kind=.function
 co:sc.isCoroutine=U'
 gen:sc.isGenerator=U'
 nd:N.Nodup
 pre:N.take P.length=P
 par:∀x∈P,sc.names.lookup x=U .local\/sc.names.lookup x=U .cell
 a2m:∀y∈sc.names,y.2≠.free
theorem Di{a:Str->Option mJ}{x:Str}:∀{binds:List (Str×t7)}{m:Str->Option t7},(∀v,(x,v)∉binds)->bindL a binds m x=m x
 | [],_,_=>rfl
 |(n,v)::r,m,h=>by
  unfold bindL;rw[Di λw b=>h w (E7 _ b)];split
  . have:x≠n:=by rintro rfl;exact h v F2
    simp[this]
  rfl
theorem Dk{a:Str->Option mJ}{x:Str}:∀{binds:List (Str×t7)}{m:Str->Option t7},(∀v,(x,v)∉binds)->bindC a binds m x=m x
 | [],_,_=>rfl
 |(n,v)::r,m,h=>by
  unfold bindC;rw[Dk λw b=>h w (E7 _ b)];split;rfl
  . have:x≠n:=by rintro rfl;exact h v F2
    simp[this]
theorem Dj{a:Str->Option mJ}{x:Str}{v:t7}:∀{P:List Str}{vs:List t7}{i:Nat}{m:Str->Option t7},P.Nodup->P[i]?=U x->vs[i]?=U v->a x=U .local ->
  bindL a (P.zip vs) m x=U v
 | [],_,_,_,_,h,_,_=>by simp at h
 |_::_,[],_,_,_,_,h,_=>by simp at h
 |p::P,w::vs,0,m,nd,h1,h2,hk=>by
  simp at h1 h2;subst h1;subst h2;show bindL a ((p,w)::P.zip vs) m p=_;unfold bindL;rw[Di λv b=>(List.nodup_cons.mp nd).1 (Hi b).1,r9 hk];simp
 |p::P,w::vs,i+1,m,nd,h1,h2,hk=>by
  show bindL a ((p,w)::P.zip vs) m x=_;exact Dj (List.nodup_cons.mp nd).2 (by simpa using h1) (by simpa using h2) hk
theorem Dl{a:Str->Option mJ}{x:Str}{v:t7}:∀{P:List Str}{vs:List t7}{i:Nat}{m:Str->Option t7},P.Nodup->P[i]?=U x->vs[i]?=U v->a x≠U .local ->
  bindC a (P.zip vs) m x=U v
 | [],_,_,_,_,h,_,_=>by simp at h
 |_::_,[],_,_,_,_,h,_=>by simp at h
 |p::P,w::vs,0,m,nd,h1,h2,hk=>by
  simp at h1 h2;subst h1;subst h2;show bindC a ((p,w)::P.zip vs) m p=_;unfold bindC;rw[Dk λv b=>(List.nodup_cons.mp nd).1 (Hi b).1,s9 hk];simp
 |p::P,w::vs,i+1,m,nd,h1,h2,hk=>by
  show bindC a ((p,w)::P.zip vs) m x=_;exact Dl (List.nodup_cons.mp nd).2 (by simpa using h1) (by simpa using h2) hk
def start(N:List Str)(vs:List V):St:=vs.map U++F7 (N.length-vs.length) J
noncomputable def qH(CX:Bi)(P:N9)(w:G6)(K:A6)(mg:Str->Option t7)(base:Heap)(N:List Str)(qual:Str)(scope:eQ)(f:Addr)(cd:t7)(A:aY)(outer:List Env)(s:A0)(H:Hp)(E:XK):Cx where
 prog:=P
 w:=w
 K:=K
 mg:=mg
 base:=base
 A:=A.deeper (gp qual scope s.heap.objs.size f cd)
 N:=N
 X5:=s
 F6:=H
 env:=gp qual scope s.heap.objs.size f cd
 outer:=outer
 stack:=gp qual scope s.heap.objs.size f cd::outer
 ex:=[]
 calm:=Uf
 fn:=λ_=>Uf
 pn:=[]
 xe:=λe s'=>wpAny (model P w) (A.deeper (gp qual scope s.heap.objs.size f cd)) (leaving (gp qual scope s.heap.objs.size f cd) e) (λ_ s''=>CX outer H s E e s'') (λe' s''=>CX outer H s E e' s'') s'
def Gk(h:d9.names.lookup m=U .cell):∃c,(iG k d9.names []).lookup m=U c:=by exact Option.isSome_iff_exists.mp (Ry d9.names k [] (.inl h))
def Po{d:List Str}{s1:A0}(S:lL N d d9)(hd:A.handled=J)(j:yu r a2 L a6 h A i5 c a)(Q:q.length=d.length)(P:Vals q z)(x:InCallC c (hz c) (bindL (gp m d9 (hz c) e u).kindOf (d.zip z) λ_=>J) (iG ((hz c)+1) d9.names []) (bindC (gp m d9 (hz c) e u).kindOf (d.zip z) λ_=>J) s1):
  Inv (qH a7 r a2 L a6 h N m d9 e u A i5 c a b3) [] (start N q) a s1:=by
 have:d.length<=N.length:=by have:=C2 kx S.pre;rw[sj]at this;lia
 obtain⟨F,R,rfl,G⟩:=x.done;have l:∀b:Addr,b∉(qH a7 r a2 L a6 h N m d9 e u A i5 c a b3).ex:=λb E=>absurd (show b∈([])from E) F5
 refine⟨⟨j.mod,S.kind,rfl,rfl,V1 _,λy E s F g=>?_,λy o=>?_,λy s _ K=>?_,λ_=>hd,Around.frames_deeper j.frames,.inr ⟨rfl,rfl⟩,λb E=>absurd E (l b),j.bs,j.uc,λb _ _=>l b,λb E=>absurd E (l b),j.lC,j.Df⟩,
  rfl,j.bare,Un.kept G,⟨_,x.toInCall.ns,λi y v F g T=>?_⟩,λy s K=>⟨_,x.cell y s K⟩,j.L3.fresh G8,λy s K=>?_,λp t=>absurd (show p∈([])from t) F5,j.L3.kept G,?_⟩
 exact name_of_addr x.apart (mY F) (mY g)
 . have o:=o;rcases o with o|o
   exact Gk o;exact absurd rfl (S.a2m _ (mY o))
 exact br (x.above y s (mY K))
 . have C:i<q.length:=by
     unfold start at g;by_cases C:i<q.length;exact C
     . rw[qu (by simpa using C)]at g
       rw[Ic]at g;split at g<;>cases g
   have M:q[i]?=U v:=by
    unfold start at g;rw[kl (by simpa using C),M9]at g
    cases f:q[i]? with
    |none=>rw[f]at g;exact nE g
    |some H=>rw[f]at g;cases g;rfl
   obtain⟨D,I,w⟩:=P.get M;have t:d[i]?=U y:=by rw[<-S.pre,List.getElem?_take_of_lt (QW u4 u4)];exact F
   have B:d.Nodup:=by rw[<-S.pre];exact S.nd.sublist (List.take_sublist _ _)
   refine⟨D,w,?_⟩;rcases S.par y (qt t)with k|k
   exact .inl ⟨k,Dj B t I k⟩;obtain⟨s,f⟩:=Gk k;refine .inr ⟨.inl k,s,f,?_⟩;have n:=x.cell y s f;rw[Dl B t I (by show d9.names.lookup y≠_;rw[k];decide)]at n;exact n
 exact j.L3.fresh (br (x.above y s (mY K)));delta start;show _=N.length;rw[T7,F9,sr];simp[*]
def a4o{qual:Str}{params:Arguments}{dV kV doc pm cdv ct oc:t7}{an od:Option Addr}{osl:Array (Option t7)}{ps:List Str} (lk:L.lookup e=U ⟨oc,od,.func (iI m qual params b5 d9 dV kV doc pm an cdv ct),osl⟩) (hcd:Ap L cdv qual=Uf) (S:lL N ps d9) (len:∀vs H Q E,a9 vs H Q E->vs.length=ps.length) (hbody:∀(A:aY) (outer:List Env) (s:A0) (H:Hp) (vs:List V) (Q:VK) (E:XK),S5 k (A.deeper (gp qual d9 s.heap.objs.size e cdv))->a9 vs H Q E ->
   ∃t,qr (qH a7 r a2 L a6 h N qual d9 e cdv A outer s H E) b5 t/\t {nx:=λ_ H'=>Q .non H',rt:=Q} (start N vs) H) :
  ie r a2 L a6 h a7 (k+1) e (iI m qual params b5 d9 dV kV doc pm an cdv ct) ps a9:=by
 refine⟨len,λA outer s H args us vs Q E hr e0 hb P hsp=>?_⟩;have hl:=len _ _ _ _ hsp;have KX:L.In s.heap:=e0.mod.JT.keeps λb o w=>(e0.bs b o w).1;have lim:s.heap.NoLimit:=e0.mod.nolimit.keeps λb o w=>(e0.bs b o w).1
 have hkind:∀y∈ps.zip us,d9.names.lookup y.1=U .local\/(d9.names.lookup y.1=U .cell/\((iG (s.heap.objs.size+1) d9.names []).lookup y.1).isSome=Uf):=λ⟨n,v⟩ hy=>by
  rcases S.par n (Hi hy).1 with q|q
  exact .inl q;exact .inr ⟨q,Ry _ _ _ (.inl q)⟩
 refine codeAny_call_function hr.depth (KX _ _ lk) rfl S.co S.gen rfl (PySem.W.codeRec_of KX hcd) (hb _ _ _ _ ?_);refine wpAny_newFunctionEnv_cells S.kind hkind λenv he s1 x=>?_;subst he;refine⟨lim.keeps x.toInCall.keep,codeAny_func ?_⟩;obtain⟨t,ht,hq⟩:=hbody A outer s H vs Q E (hr.deeper _) hsp;have I:Inv (qH a7 r a2 L a6 h N qual d9 e cdv A outer s H E) [] (start N vs) H s1:=Po S hr.hd e0 hl P x;refine cu (ht [] s1 (start N vs) H _ I hq) (λfl s' hs=>?_) λw s' hs=>hs
 have fin:∀{σ':St}{H':Hp}{v:V}{u:t7},Inv (qH a7 r a2 L a6 h N qual d9 e cdv A outer s H E) [] σ' H' s'->RelV v u->Q v H'->CE outer r a2 H s Q u s':=
  λ{σ' H' v u} Jff rv q=>⟨v,H',Jff.os,Jff.bare,Jff.base,Jff.L3,rv,q⟩
 cases fl with
 |ret u=>
  obtain⟨v,σ',H',Jff,rv,q⟩:=hs;exact fin Jff rv q
 |next=>
  obtain⟨σ',H',Jff,q⟩:=hs;exact fin (v:=V.non) (u:=GA) Jff rfl q
 |brk=>
  obtain⟨_,_,_,q⟩:=hs;exact eS q
 |cont=>
  obtain⟨_,_,_,q⟩:=hs;exact eS q
section
variable{T:String}
def CD(r:List V->Hp->VK->Prop)(t:TA):TE:=λσ H Q=>t σ H λvs H1=>r vs H1 Q
def EN{id:String}(w:cD X (.builtin id) i6)(x:Gl X m)(f:X.mg m=J)(i:fW m=U (.builtin id))(t:PA X (o::y) O)(g:autoParam (m ≠ "__name__") L0)(b:autoParam (mE m) L0)(j:autoParam (hI X o y) w4)(c:autoParam (lj X M y) w4):PE X (.Call (.Name m p) (o::y) [] M) (CD i6 O):=by intro a s d H Q I h;refine so (iq I x f i ?_ g b);exact PyProof.Rows.callWith_builtin1 (K0 (t M a s d H _ I h) λe n ⟨l,q,u,k,v⟩=>w a n d q l e Q u k v) j c
def Oi(w:cD X (.type T) i6)(x:Gl X m)(f:X.mg m=J)(i:fW m=U (.type T))(t:PA X (o::y) O)(g:autoParam (m ≠ "__name__") L0)(b:autoParam (mE m) L0)(j:autoParam (hI X o y) w4)(c:autoParam (lj X M y) w4):PE X (.Call (.Name m p) (o::y) [] M) (CD i6 O):=by intro a s d H Q I h;refine so (iq I x f i ?_ g b);exact qv (K0 (t M a s d H _ I h) λe n ⟨l,q,u,k,v⟩=>w a n d q l e Q u k v) j c
end
end L2
namespace HT
open PySem PyProof.Rows
variable{A:aY}{E:t7->A0->Prop}{s:A0}{b:Addr}{v:t7}{o:Option Int}{a:Array t7}
def lexLt:List Int->List Int->Bool
 | [],[]=>U'
 | [],_::_=>Uf
 |_::_,[]=>U'
 |x::xs,y::ys=>if x=y then lexLt xs ys else decide (x<y)
def Ma(x y:Int)(xs ys:List Int):lexLt (x::xs) (y::ys)=if x=y then lexLt xs ys else decide (x<y):=rfl
def DE:lexLt [] []=U':=rfl
def BQ(y:Int)(ys:List Int):lexLt [] (y::ys)=Uf:=rfl
def BR(x:Int)(xs:List Int):lexLt (x::xs) []=U':=rfl
def Vq(A:aY)(s:A0)(a:Int)(t:Tok)(c:Int)(u:Tok):∃e,SeqAt.EqAt A s (.int a t) (.int c u) e/\(e=Uf↔a=c):=
 ⟨(a==c),SeqAt.EqAt.int_int a t c u,by simp⟩
def Ta(A:aY)(s:A0)(a:Int)(t:Tok)(c:Int)(u:Tok)(prog:N9)(w:G6)(E:t7->A0->Prop)(Q:t7->A0->Prop)(h:Q (.bool (decide (a<c))) s):
  wpAny (model prog w) A (richCompare .Lt (.int a t) (.int c u)) Q E s:=
 (PyProof.Rows.lt_int h)
section
open PySem.SeqAt
open PySem.AutoSeq1 (wpAny_loadPart')
open PySem.MeetsSeq PySem.MeetsSeq2 PySem.MeetsSeq3
def Dq(l b:Addr)(items items2:Array t7)(n n2:Nat)(dd dd2:Option Addr)(sl C3:Array (Option t7))(ns ms:List Int)(hi:eR items.toList ns)(hj:eR items2.toList ms):
  Meets (Builtin.«tuple.__lt__» ⟨[.ref l,.ref b],[]⟩)
   (λ_ R s=>s.heap.get? l=U {cls:=.type "tuple",dict:=dd,data:=.seq items n,slots:=sl}/\s.heap.get? b=U {cls:=.type "tuple",dict:=dd2,data:=.seq items2 n2,slots:=C3} /\
    R (.ok (.ret (.bool (lexLt ns ms)))) s):=
 .of_wp λprog w A R s h=>by
  obtain⟨hp,g,d,tk,os⟩:=s;obtain⟨hl,hb,h⟩:=h;have f2:=AutoSeq1.sub_tuple_tuple;have z1:items.size=ns.length:=by rw[<-hi.length];simp
  have z2:items2.size=ms.length:=by rw[<-hj.length];simp
  wp_walk using wpAny_loadPart' hl,wpAny_loadPart' hb,wpAny_forIn_list _ (λrest b s'=>b.1=J/\s'=⟨hp,g,d,tk,os⟩/\∃(vs ws:List t7) (ns' ms':List Int),rest=vs.zip ws /\
   eR vs ns'/\eR ws ms'/\ns'.length+items2.size=ms'.length+items.size/\R (.ok (.ret (.bool (lexLt ns' ms')))) ⟨hp,g,d,tk,os⟩) _
  case turn=>
   rintro⟨y,x⟩ rest b s' ⟨hb',rfl,vs,ws,ns',ms',hz,hvi,hwi,hlen,hR⟩;cases hvi with
   |nil=>rw[List.zip_nil_left]at hz;cases hz
   |cons a t hvi'=>
    cases hwi with
    |nil=>rw[List.zip_nil_right]at hz;cases hz
    |cons c u hwi'=>
     rw[lW]at hz;injection hz with hyx hrest
     injection hyx with hy hx
     subst hy hx;rw[Ma]at hR;simp only[Y7]at hlen;obtain⟨e,he,hiff⟩:=Vq A.in1 ⟨hp,g,d,tk,os⟩ a t c u;refine u9 (he prog w _ _ ?_);cases e with
     |true=>
      rw[r9 (hiff.mp rfl)]at hR
      wp_walk
      exact⟨rfl,rfl,_,_,_,_,hrest,hvi',hwi',by lia,hR⟩
     |false=>
      rw[s9 (λq=>absurd (hiff.mpr q) dY)]at hR;have hri:=Ta A.in1 ⟨hp,g,d,tk,os⟩ a t c u prog w
      wp_walk using hri
      exact⟨_,rfl,by simpa using hR⟩
  case fin=>
   rintro⟨b1,b2⟩ s' ⟨hb',rfl,vs,ws,ns',ms',hz,hvi,hwi,hlen,hR⟩;simp only at hb';subst hb';have hv:lexLt ns' ms'=decide (items.size<items2.size):=by
    cases hvi with
    |nil=>
     cases hwi with
     |nil=>
      simp only[kA]at hlen;rw[DE];exact(ay (by simp_all)).symm
     |cons c u hw=>
      simp only[kA,Y7]at hlen;rw[BQ];exact(cy (by simp_all)).symm
    |cons a t hv=>
     cases hwi with
     |nil=>
      simp only[kA,Y7]at hlen;rw[BR];exact(ay (by lia)).symm
     |cons c u hw=>
      rw[lW]at hz;cases hz
   rw[hv]at hR
   wp_walk
   exact⟨_,rfl,by simpa [Builtin.Tuple.tupleCompareSizes]using hR⟩
  case h=>
   exact⟨rfl,rfl,items.toList,items2.toList,ns,ms,rfl,hi,hj,by lia,h⟩
end
section
variable{prog:N9}{w:G6}
def LW{l:Addr}{items:Array t7}{ns ms:List Int}{Q:t7->A0->Prop}(v:iA s.heap l items)(C:iA s.heap b a)(r:eR items.toList ns)(t:eR a.toList ms)(q:A.units<U0)(h:Q (.bool (lexLt ns ms)) s):wpAny (model prog w) A (bp .Lt (.ref l) (.ref b)) Q E s:=by
 obtain⟨⟨z,B,o,u⟩,m,p,n,j⟩:=id v;obtain⟨⟨k,f,g,i⟩,d,c,y,e⟩:=id C;subst p j c e;exact richCompare_meets_room (op:=.Lt) ⟨_,m,rfl⟩ ⟨_,d,rfl⟩ PySem.F.slot_tuple_lt PySem.F.entry_tuple_lt (PySem.F.args_tuple_lt_2 _ _) (Dq l b items a n y B f u i ns ms r t)
  ⟨m,d,show vA (lexLt ns ms)≠Value.notImplemented/\Q (.bool (lexLt ns ms)) s from⟨(λx=>nomatch x),h⟩⟩ q
def ZR{t:Addr}{vs ws:List t7}{Q:t7->A0->Prop}(x:iA s.heap t vs.toArray)(B:iA s.heap b ws.toArray)(p:vs≠[])(z:ws=[]->Q (.ref t) s)(y:ws≠[]->Q (.ref s.heap.objs.size) {s with heap:=s.heap.push {cls:=.type "tuple",data:=.seq (vs++ws).toArray}})(hsz:vs.length+ws.length<=J4):wpAny (model prog w) A (aD .Add (.ref t) (.ref b)) Q E s:=by
 obtain⟨⟨l,v,g,q⟩,i,u,n,m⟩:=id x;obtain⟨⟨o,c,k,f⟩,a,d,r,h⟩:=id B;subst u m d h;have e:vs.toArray++ws.toArray=(vs++ws).toArray:=by simp
 by_cases j:ws=[]
 . exact Ae ⟨_,i,rfl⟩ ⟨_,a,rfl⟩ Hw GS Ia Ib (Ig _ _)
     (tuple_addW1 t b vs.toArray ws.toArray n r v c q f (by simpa using p) (by simp[j])) ⟨i,a,z j⟩
 . refine Ae ⟨_,i,rfl⟩ ⟨_,a,rfl⟩ Hw GS Ia Ib (Ig _ _)
     (tuple_addW2 t b vs.toArray ws.toArray n r v c q f (by simpa using p) (by simpa using j) (by rw[V2,V2];exact hsz)) ⟨i,a,?_⟩
   rw[e];exact y j
def R4(n d:Nat):Option Int->Nat
 |none=>d
 |some v=>if v<0 then(v+(n:Int)).toNat else min v.toNat n
def SS(n d:Nat):R4 n d J=d:=rfl
def Bq(n d k:Nat):R4 n d (U (k:Int))=min k n:=by
 show(if k<0 then((k:Int)+n).toNat else min (k:Int).toNat n)=min k n;rw[s9 C4,cA]
def Ku(v:Int)(n d:Nat):(if v<0 then max (v+(n:Int)) 0 else min v (n:Int))=((R4 n d (U v):Nat):Int):=by
 show(if v<0 then max (v+n) 0 else min v n)=(((if v<0 then(v+n).toNat else min v.toNat n)));by_cases a:v<0;simp only[r9 a];simp[*];simp only[s9 a];lia
def MC(lo a:Option Int)(n:Nat):RK lo a 1 (n:Int)=(((R4 n 0 lo:Nat):Int),((R4 n n a:Nat):Int)):=by
 refine Prod.ext ?_ ?_
 . cases lo with
   |none=>rfl
   |some v=>exact Ku v n 0
 . cases a with
   |none=>rfl
   |some v=>exact Ku v n n
def Lk(i j:Nat):AX (i:Int) (j:Int) 1=j-i:=by delta AX;split<;>lia
def yI{Q:Option Int->A0->Prop}(p:iB v o)(h:Q o s):wpAny (model prog w) A (Builtin.Slice.slicePartIndex v) Q E s:=by
 cases p with
 |none=>exact slicePart_none h
 |int i t=>exact slicePart_int h
def oJ{e:t7}{c:Option Int}{n:Nat}{Q:Int×Int×Nat->A0->Prop}(hs:s.heap.IsSliceOf b v e .none)(pl:iB v o)(i:iB e c)(h:Q (((R4 n 0 o:Nat):Int),1,R4 n n c-R4 n 0 o) s):wpAny (model prog w) A (Builtin.Slice.sliceApplied (.ref b) (pure (n:Int))) Q E s:=by
 obtain⟨j,a,g,f⟩:=id hs;refine u9 (u9 (ax a f rfl (u9 (ax a f rfl (u9 (ax a f rfl (B9 ?_)))))));refine u9 (slicePart_none ?_);refine u9 (yI pl (u9 (yI i (u9 (B9 ?_)))));show wpAny _ _ (match RK o c 1 n with|(o,c)=>pure (o,(1:Int),AX o c 1)) _ _ s;rw[MC o c n];show wpAny _ _ (pure (((R4 n 0 o):Int),1,AX ((R4 n 0 o)) ((R4 n n c)) 1)) _ _ s;rw[Lk];exact B9 h
def Ug(xs:Array t7)(i k:Nat):((D3 k).filterMap λ(m:Nat)=>xs[((i:Int)+(m:Int)*1).toNat]?).toArray=((xs.toList.drop i).take k).toArray:=by
 have e:(λ(m:Nat)=>xs[((i:Int)+m*1).toNat]?)=λm=>xs[i+m]?:=by
  funext m
  have:((i:Int)+m*1).toNat=i+m:=by lia
  rw[this]
 rw[e];have:=pick_run xs i k;rw[List.filterMap_map]at this;have a:((λx=>xs[x]?)∘λx=>i+x)=λm=>xs[i+m]?:=rfl;rw[a]at this;rw[this]
def xm{i:Addr}{j:t7}{t:Option Int}{Q:t7->A0->Prop}(c:iA s.heap b a)(hs:s.heap.IsSliceOf i v j .none)(pl:iB v o)(p:iB j t)(l:¬(R4 a.size 0 o=0/\R4 a.size a.size t=a.size))(h:Q (.ref s.heap.objs.size) {s with heap:=s.heap.push {cls:=.type "tuple",data:=.seq ((a.toList.drop (R4 a.size 0 o)).take (R4 a.size a.size t-R4 a.size 0 o)).toArray}})(hsz:a.size<=J4):wpAny (model prog w) A (iC (.ref b) (.ref i)) Q E s:=by
 have k:sizeOk (.seq ((a.toList.drop (R4 a.size 0 o)).take (R4 a.size a.size t-R4 a.size 0 o)).toArray):=by
  show((a.toList.drop (R4 a.size 0 o)).take (R4 a.size a.size t-R4 a.size 0 o)).toArray.size<=J4;rw[V2,sj,vN,HM];exact B7 (QH _ _) (B7 (Gz _ _) u4)
 obtain⟨m,g,d,n⟩:=id hs;have e:s.TypeIs (.ref i) "slice":=⟨m,g,d⟩;delta iC;try with_reducible refine gz ?_
 first|refine u9 (B9 ?_)|skip
 refine u9 (wpAny_sequenceKey c.typeIs f5 ?_);refine u9 (oe c.typeIs Bb
  (kD Bb c.typeIs entry_tuple_getitem ?_ (args_tuple_getitem _ _)))
 show wpAny _ _ (RL (.ref b) >>= _) _ _ s
 refine u9 (tupleItemsOf_ c ?_);refine u9 (vH e ?_);refine u9 (oJ hs pl p ?_);have f:¬((((R4 a.size 0 o):Int)==0&&(1:Int)==1&&(R4 a.size a.size t-R4 a.size 0 o)==a.size)=Uf):=by exact λq=>l ⟨by simp_all,by lia⟩
 show wpAny _ _ (if (((R4 a.size 0 o):Int)==0&&1==1&&(R4 a.size a.size t-R4 a.size 0 o)==a.size)=Uf then _ else _) _ _ s
 rw[s9 f,Ug];first
  |exact u9 (pU (B9 ⟨_,rfl,B9 h⟩) k)
  |exact u9 (pU (u9 (B9 (B9 ⟨_,rfl,B9 h⟩))) k)
  |exact u9 (u9 (pU (B9 (B9 ⟨_,rfl,B9 h⟩)) k))
  |exact u9 (u9 (pU (B9 ⟨_,rfl,B9 h⟩) k))
end
end HT
namespace L2
open PySem PySem.Spec PyProof.Rows
variable{X:Cx}{a:List (Addr×Obj)}{b:St}{H:Hp}{s:A0}{Z:List V}{n:Nat}{e:Expr}{Y:TE}{S:List t7}{R:Pos}{p:Addr}{Q:Type}{P:String}{r:V->Option Int->Option Int->Hp->VK->Prop}{f:t7}{O:V->List V->Hp->VK->Prop}
abbrev TO:=St->Hp->(Option Int->Hp->Prop)->Prop
def PO(X:Cx)(e:Option Expr)(t:TO):Prop:=
 ∀(pins:List (Addr×Obj)) (s:A0) (σ:St) (H:Hp) (Q:Option Int->Hp->Prop),Inv X pins σ H s->t σ H Q ->
  wpAny (model X.prog X.w) X.A (evalPart e X.env) (λu s'=>∃o H',Inv X pins σ H' s'/\iB u o/\Q o H') X.xe s
def Je:TO:=λ_ H Q=>Q J H
def Wu(t:TE):TO:=λσ H Q=>t σ H λx H1=>∃i,x=.int i/\Q (U i) H1
def intsAre_of{ns:List Int}:∀{us:List t7},Vals (ns.map V.int) us->eR us ns:=by
 induction ns with
 |nil=>intro us r;rw[rS]at r;cases r;exact .nil
 |cons n ns b=>
  intro us r;cases r with
  |cons c a=>
   obtain⟨t,e⟩:=c;subst e;exact .cons n t (b a)
def YJ:PO X J Je:=by exact λa s b H Q I h=>B9 ⟨J,H,I,.none,h⟩
def YI(h:PE X e Y):PO X (U e) (Wu Y):=by
 intro a s d H Q I b;refine K0 (h a s d H _ I b) λu k ⟨x,f,g,c,j⟩=>?_;obtain⟨i,rfl,q⟩:=j;obtain⟨t,rfl⟩:=c;exact⟨U i,f,g,.int i t,q⟩
def xC(X:Cx)(r:V->Option Int->Option Int->Hp->VK->Prop):Prop:=
 ∀(pins:List (Addr×Obj)) (s:A0) (σ:St) (H:Hp) (x:V) (v vl vu:t7) (lo hi:Option Int) (sl:Addr) (Q:VK),Inv X pins σ H s->RelV x v->s.heap.IsSliceOf sl vl vu .none->iB vl lo->iB vu hi->r x lo hi H Q ->
  ∃T id,vz (.type T) "__getitem__" = pure (U (.builtin id))/\s.TypeIs v T/\wpAny (model X.prog X.w) X.A (iC v (.ref sl)) (EP X pins σ Q) X.xe s
def xC.or{c:V->Option Int->Option Int->Hp->VK->Prop}(h:xC X r)(h':xC X c):xC X (λx lo b H Q=>r x lo b H Q\/c x lo b H Q):=by
 intro a s f H x v i e lo b k Q I g j d l q;rcases q with q|q
 exact h a s f H x v i e lo b k Q I g j d l q;exact h' a s f H x v i e lo b k Q I g j d l q
def tSl(r:V->Option Int->Option Int->Hp->VK->Prop)(te:TE)(tl th:TO):TE:=λσ H Q=>te σ H λx H1=>tl σ H1 λl H2=>th σ H2 λu H3=>r x l u H3 Q
def Uj{lo hi:Option Expr}{tl th:TO}{p2:Pos}(F:xC X r)(D:PE X e Y)(n:PO X lo tl)(y:PO X hi th):PE X (.Subscript e (.Slice lo hi J p2) R) (tSl r Y tl th):=by
 intro a s d H Q I h;refine Subscript_ (K0 (D a s d H _ I h) λv o ⟨x,L,t,G,M⟩=>?_);refine wpAny_Slice (K0 (n a o d L _ t M) λg E ⟨l,z,m,B,q2⟩=>K0 (y a E d z _ m q2) λf c ⟨u,i,O,N,k⟩=>?_);refine B9 ?_;have C:Inv X a d i {c with heap:=c.heap.push {cls:=.type "slice",data:=.fields #[g,f,.none]}}:=O.kept λb P q=>N3 _ q;obtain⟨T,w,p,j,K⟩:=F a {c with heap:=c.heap.push {cls:=.type "slice",data:=.fields #[g,f,.none]}} d i x v g f l u (hz c) Q C G (Heap.IsSliceOf.new ..) B N k;exact tail_any j p K (by with_unfolding_all rfl)
def tA(xs:List V)(lo hi:Option Int):List V:=(xs.drop (HT.R4 xs.length 0 lo)).take (HT.R4 xs.length xs.length hi-HT.R4 xs.length 0 lo)
def xy(xs:List V)(lo a:Option Int):(tA xs lo a).length<=xs.length:=by delta tA;rw[sj,vN];exact B7 (QH _ _) (Gz _ _)
def a5G(K:A6):V->Option Int->Option Int->Hp->VK->Prop:=λx lo hi H Q=>∃a xs,x=.ref a/\ae K H a xs /\
 ¬(HT.R4 xs.length 0 lo=0/\HT.R4 xs.length xs.length hi=xs.length)/\∀p,H p=J->Q (.ref p) (upd H p (.tup (tA xs lo hi)))
def a0T:xC X (a5G X.K):=by
 intro k s y H x v A w e f B Q I p t l u h;obtain⟨a,d,rfl,n,m,q⟩:=h;cases p;obtain⟨g,r,i,j⟩:=I.tuple n;have c:g.toArray.size=d.length:=by rw[V2];exact r.length.symm
 refine⟨"tuple",_,PyProof.Rows.slot_tuple_getitem.lookup,i.typeIs,?_⟩;refine HT.xm i t l u (by rw[c];exact m) ?_ (by rw[c];exact j);rw[c];refine⟨.ref s.heap.objs.size,_,I.laid (λb z q=>N3 _ q) G8 ?_,rfl,q _ (I.L3.fresh G8)⟩;exact⟨B7 (xy d e f) j,_,(r.drop (HT.R4 d.length 0 e)).take (HT.R4 d.length d.length f-HT.R4 d.length 0 e),Gx _ _⟩
def a1g(K:A6):R2:=λx y H Q=>∃a b ns ms,x=.ref a/\y=.ref b/\ae K H a (ns.map V.int)/\ae K H b (ms.map V.int)/\Q (.bl (HT.lexLt ns ms)) H
def a2b(f:X.A.units<U0):Y9 X (bp .Lt) (a1g X.K):=by intro d s t H x y v u Q I l k h;obtain⟨a,b,i,r,rfl,rfl,p,n,q⟩:=h;cases l;cases k;obtain⟨o,j,g,_⟩:=I.tuple p;obtain⟨c,e,m,_⟩:=I.tuple n;exact HT.LW g m (intsAre_of j) (intsAre_of e) f ⟨.bl (HT.lexLt i r),H,I,rfl,q⟩
def a3P(K:A6):R2:=λx y H Q=>∃a b xs ys,x=.ref a/\y=.ref b/\ae K H a xs/\ae K H b ys/\xs≠[]/\xs.length+ys.length<=J4 /\
 (ys=[]->Q (.ref a) H)/\(ys≠[]->∀p,H p=J->Q (.ref p) (upd H p (.tup (xs++ys))))
def Vals.wI(r:Vals Z S):S=[]↔Z=[]:=by
 cases r with
 |nil=>simp
 |cons _ _=>simp
def Zg:Y9 X (aD .Add) (a3P X.K):=by
 intro g s t H x y v u Q I k m h;obtain⟨a,b,B,C,rfl,rfl,r,o,j,f,n,q2⟩:=h;cases k;cases m;obtain⟨p,d,i,_⟩:=I.tuple r;obtain⟨e,c,l,_⟩:=I.tuple o;refine HT.ZR i l (λz=>j (d.wI.mp z)) (λz=>⟨.ref a,H,I,rfl,n (c.wI.mp z)⟩) (λz=>?_) (by rw[<-d.length,<-c.length];exact f);refine⟨.ref s.heap.objs.size,_,I.laid (λb A q=>N3 _ q) G8 ?_,rfl,q2 (λw=>z (c.wI.mpr w)) _ (I.L3.fresh G8)⟩;exact⟨by rw[T7];exact f,_,d.append c,Gx _ _⟩
noncomputable def gh(n:Nat)(i:Int):Option Nat:=if 0<=i then(if i<n then U i.toNat else J)else if -(n:Int)<=i then U (i+n).toNat else J
def aA(xs:List Q)(i:Int):Option Q:=(gh xs.length i).bind λj=>xs[j]?
def JV{i:Int}{j:Nat}(h:gh n i=U j):seqIndex? i n=U j/\j<n/\-(n:Int)<=i/\i<n:=by
 unfold gh at h;by_cases b:0<=i;rw[r9 b]at h;by_cases a:i<n;rw[r9 a]at h;exact⟨by rw[seqIndex_of b a,(W5 h)],by lia,by lia,a⟩;rw[s9 a]at h;exact nE h;rw[s9 b]at h;by_cases a : -n<=i;rw[r9 a]at h;exact⟨by rw[GL (Int.not_le.1 u4) a,(W5 h)],by lia,a,by lia⟩;rw[s9 a]at h;exact nE h
def Cr{xs:List Q}{i:Int}{v:Q}(h:aA xs i=U v):∃j,seqIndex? i xs.length=U j/\xs[j]?=U v/\j<xs.length/\-(xs.length:Int)<=i/\i<xs.length:=by obtain⟨j,e,h⟩:=t5 h;obtain⟨d,b,c,f⟩:=JV e;exact⟨j,d,h,b,c,f⟩
def ZY{xs:List Q}{v:Q}(h:xs[n]?=U v):aA xs (n:Int)=U v:=by
 have:=(List.getElem?_eq_some_iff.mp h).1;have e:gh xs.length n=U n:=by delta gh;rw[r9 C4,r9 C4];simp
 delta aA;rw[e];exact h
def rL(b:Expr):Prop:=∀o i,subscripted b U' o i=operate [o,i] (iC o i)
def xE(X:Cx)(r:R2):Prop:=
 ∀(value slice:Expr) (pins:List (Addr×Obj)) (s:A0) (σ:St) (H:Hp) (x y:V) (v u:t7) (Q:VK),Inv X pins σ H s->RelV x v->RelV y u->r x y H Q ->
  subscripted slice U' v u=operate [v,u] (iC v u)->wpAny (model X.prog X.w) X.A (subscriptTail value slice v u) (EP X pins σ Q) X.xe s
def Xu(X:Cx)(id:String)(r:V->List V->Hp->VK->Prop):Prop:=
 ∀(pins:List (Addr×Obj)) (s:A0) (σ:St) (H:Hp) (x:V) (xs:List V) (v:t7) (us:List t7) (Q:VK),Inv X pins σ H s->RelV x v->Vals xs us->r x xs H Q ->
  wpAny (model X.prog X.w) X.A (call (.builtin id) (v::us)) (EP X pins σ Q) X.xe s
structure Ip(X:Cx)(o:Expr)(m:Str)(a:Pos)(e:Expr)(es:List Expr)(c:Pos):Prop where
 b:Bj X o m
 f:((gq c (Q9 (e::es) X.env)).all (λx=>!x.1)&&(vx c (vC [] X.env)).all (λx=>x.1.isSome)
   && decide ((e::es).length+([]:List Keyword).length+(if ([]:List Keyword).isEmpty then 0 else 1)<30))=Uf
 l:(a.endLine==c.line)=Uf
 s:hI X e es
 p:lj X c es
section
def xE.or{r d:R2}(h:xE X r)(h':xE X d):xE X (λx y H Q=>r x y H Q\/d x y H Q):=by
 intro b a c s f H x y v u Q I g e q i;rcases q with q|q
 exact h b a c s f H x y v u Q I g e q i;exact h' b a c s f H x y v u Q I g e q i
def DT{b:Expr}{tb:TE}{r:R2}(f:xE X r)(m:PE X e Y)(l:PE X b tb)(hs:rL b):PE X (.Subscript e b R) (tU r Y tb):=by exact λc s j H Q I h=>Subscript_ (VO m l I h λv u a x y d g k i q=>f e b c a j d x y v u Q g k i q (hs _ _))
def a1k(K:A6):R2:=λx y H Q=>∃p xs i v,x=.ref p/\y=.int i/\O2 K H p xs/\aA xs i=U v/\Q v H
def a1i(K:A6):R2:=λx y H Q=>∃p xs i v,x=.ref p/\y=.int i/\ae K H p xs/\aA xs i=U v/\Q v H
def a1j:R2:=λx y H Q=>∃z i c,x=.str z/\y=.int i/\z.length<=J4/\aA z.cps.toList i=U c/\Q (.str ⟨#[c]⟩) H
def ZG:xE X (a1k X.K):=by
 intro e k a s n H x y v u Q I D L h o;obtain⟨p,R,i,z,rfl,rfl,hq,F,q⟩:=h;cases D;obtain⟨t,rfl⟩:=L;obtain⟨l,r,f,O⟩:=I.list hq;obtain⟨j,c,C,P,G,E⟩:=Cr F;obtain⟨w,A,g⟩:=r.get C;have B:=r.length;have:=rj;have b:EP X a n Q w s:=⟨z,H,I,g,q⟩;by_cases m:0<=i
 . have d:i.toNat=j:=by rw[seqIndex_of m E]at c;exact W5 c
   exact item_listR f.isList m t9 (by rw[d];simpa using A) b o
 . have d:(i+l.toArray.size).toNat=j:=by rw[GL (Int.not_le.1 u4) G]at c;rw[V2,<-B];exact W5 c
   exact Rx f.isList.typeIs slot_list_getitem.lookup
    (wpAny_getItem_list_neg f.isList (Int.not_le.1 u4) (by rw[V2]<;>simp_all) t9 (by rw[d];simpa using A) ⟨rfl,b⟩) o
def a2F:xE X (a1i X.K):=by
 intro a c d s C H x y v u Q I g l h n;obtain⟨p,G,i,z,rfl,rfl,hq,k,q⟩:=h;cases g;obtain⟨t,rfl⟩:=l;obtain⟨o,r,e,B⟩:=I.tuple hq;obtain⟨j,m,f,D,F,E⟩:=Cr k;obtain⟨w,A,b⟩:=r.get f;have:=rj;exact Rx e.typeIs slot_tuple_getitem.lookup
  (getItem_tuple e t9 t9 (by rw[V2,<-r.length];exact m) (by simpa using A) ⟨rfl,(⟨z,H,I,b,q⟩)⟩) n
def a2H:xE X a1j:=by
 intro a b d s C H x y v u Q I k p h w;obtain⟨z,i,c,rfl,rfl,B,n,q⟩:=h;obtain⟨t,rfl⟩:=k;obtain⟨D,rfl⟩:=p;obtain⟨j,e,g,E,o,l⟩:=Cr n;have f:z.cps.toList.length=z.length:=by simp[Str.length]
 rw[f]at e o l;have:=rj;exact tail_any (typeIs_str s z t) slot_str_getitem.lookup (getItem_str (by have r:decide (i < -(2^63))=U':=ay t9;have m:decide (i>=2^63)=U':=ay t9;rw[r,m,Bool.or_false]) (by rw[e];simpa using g) ⟨.str ⟨#[c]⟩,H,I.tok _,⟨_,rfl⟩,q⟩) w
def Jr(K:A6):R2:=λx y H Q=>a1k K x y H Q\/a1i K x y H Q\/a1j x y H Q
def zg:xE X (Jr X.K):=ZG.or (a2F.or a2H)
def LS(a:List t7)(n j:Nat)(u:t7):vy (·.setIfInBounds j u) {cls:=.type "list",data:=.seq a.toArray n}={cls:=.type "list",data:=.seq (a.set j u).toArray n}:=by simp[vy]
theorem Inv.lst(I:Inv X a b H s)(h:H p=U (.lst Z)):
  ∃(c:List t7) (n:Nat),Vals Z c/\s.heap.get? p=U {cls:=.type "list",data:=.seq c.toArray n}/\Z.length<=J4:=by obtain⟨z,c,n,r,e⟩:=I.L3 p _ h;exact⟨c,n,r,e,z⟩
def Inv.a2r{ys:List V}{its':List t7}{c:Nat}{f:Obj->Obj}(I:Inv X a b H s)(h:H p=U (.lst Z))(i:s.heap.get? p=U {cls:=.type "list",data:=.seq S.toArray n})(g:f {cls:=.type "list",data:=.seq S.toArray n}={cls:=.type "list",data:=.seq its'.toArray c})(r:Vals ys its')(hz:ys.length<=J4)(t:Nat):
  Inv X a b (upd H p (.lst ys)) {s with heap:=s.heap.update p f,toks:=t}:=by
 have e:(s.heap.update p f).get? p=U {cls:=.type "list",data:=.seq its'.toArray c}:=by rw[Rr f i (by rw[g]<;>rfl),g]
 refine I.write (by rw[h];trivial) (.inl rfl) (λd u j q=>(Rv _ _ (mH j)).trans q) ⟨_,e⟩ ?_;exact⟨hz,its',c,r,e⟩
def DQ:V->V->V->Hp->(Hp->Prop)->Prop:=λo i v H Q=>∃p xs k j,o=.ref p/\i=.int k/\H p=U (.lst xs)/\gh xs.length k=U j/\Q (upd H p (.lst (xs.set j v)))
def set_list:a3s X DQ:=by
 intro a s B H o i v L G u Q I A D C h;obtain⟨p,E,k,j,rfl,rfl,w,y,q⟩:=h;cases A;obtain⟨t,rfl⟩:=D;obtain⟨b,n,r,d,z⟩:=I.lst w;obtain⟨c,K,m,x⟩:=JV y;have e:=r.length;have:=rj;have l:Inv X a B (upd H p (.lst (E.set j v))) {s with heap:=s.heap.update p (vy (·.setIfInBounds j u))}:=
  I.a2r w d (LS b n j u) (r.set C j) (by rw[vL];exact z) s.toks
 by_cases g:0<=k
 . have f:k.toNat=j:=by rw[seqIndex_of g x]at c;exact W5 c
   exact PySem.W.ki_setAt d g t9 (by rw[V2,<-e];exact x) (by rw[f];exact⟨_,l,q⟩)
 . have f:(k+b.toArray.size).toNat=j:=by rw[GL (Int.not_le.1 u4) m]at c;rw[V2,<-e];exact W5 c
   exact PySem.W.ki_setBack d (Int.not_le.1 u4) (by rw[V2,<-e];exact m) t9 (by rw[f];exact⟨_,l,q⟩)
def Xi(i:Int)(n d:Nat):max 0 (min (if i<0 then i+n else i) n)=((HT.R4 n d (U i):Nat):Int):=by
 show _=((if i<0 then(i+n).toNat else min i.toNat n:Nat):Int)
 split<;>lia
def Er(lo a:Option Int)(n:Nat):(sliceBounds lo a J n).1=((HT.R4 n 0 lo:Nat):Int)/\(sliceBounds lo a J n).2.1=((HT.R4 n n a:Nat):Int)/\(sliceBounds lo a J n).2.2=1:=by
 refine⟨?_,?_,rfl⟩
 . cases lo with
   |none=>rfl
   |some i=>exact Xi i n 0
 . cases a with
   |none=>rfl
   |some i=>exact Xi i n n
def Dr(a:List t7)(lo b:Option Int):slicePick a.toArray lo b J=((a.drop (HT.R4 a.length 0 lo)).take (HT.R4 a.length a.length b-HT.R4 a.length 0 lo)).toArray:=by obtain⟨e,c,d⟩:=Er lo b a.toArray.size;delta slicePick;rw[e,c,d];simp only[sliceRange_one,pick_run]<;>rfl
def a1e(K:A6):V->Option Int->Option Int->Hp->VK->Prop:=λx lo hi H Q=>∃a xs,x=.ref a/\O2 K H a xs/\∀p,H p=J->Q (.ref p) (upd H p (.lst (tA xs lo hi)))
def XY:xC X (a1e X.K):=by
 intro i s w H x v z u e f A Q I n p j t h;obtain⟨a,c,rfl,k,q⟩:=h;cases n;obtain⟨l,r,g,m⟩:=I.list k;have d:=r.length;refine⟨"list",_,slot_list_getitem.lookup,g.isList.typeIs,?_⟩;refine wpAny_getItem_list_slice g.isList p j t .none f5 ?_ (by rw[V2]<;>simp_all);rw[Dr,<-d];refine⟨.ref s.heap.objs.size,_,I.laid (λb y q=>N3 _ q) G8 ?_,rfl,q _ (I.L3.fresh G8)⟩;exact⟨B7 (xy c e f) m,_,0,(r.drop (HT.R4 c.length 0 e)).take (HT.R4 c.length c.length f-HT.R4 c.length 0 e),Y8 _ rfl⟩
def Gp:cD X (.builtin "len") (λxs H Q=>∃p ys,xs=[.ref p]/\(O2 X.K H p ys\/ae X.K H p ys)/\Q (.int ys.length) H):=by
 intro e s j H xs k Q I r h;obtain⟨p,ys,rfl,hq,q⟩:=h;obtain⟨u,rfl,g⟩:=vals1 r;cases g;have:=rj;rcases hq with hq|hq
 obtain⟨d,b,c,f⟩:=I.list hq;have a:=b.length;exact Calls.call_len_list c.isList (by simp only[V2]<;>lia) ⟨.int ys.length,H,I.tok _,⟨s.toks+1,by rw[V2,a]⟩,q⟩;obtain⟨d,b,c,f⟩:=I.tuple hq;have a:=b.length;exact len_tuple c (by simp only[V2]<;>lia) ⟨.int ys.length,H,I.tok _,⟨s.toks+1,by rw[V2,a]⟩,q⟩
def Gn:cD X (.builtin "len") (λxs H Q=>∃z,xs=[.str z]/\z.length<=J4/\Q (.int z.length) H):=by intro a s d H xs e Q I r h;obtain⟨z,rfl,c,q⟩:=h;obtain⟨u,rfl,t,rfl⟩:=vals1 r;have:=rj;exact len_str t9 ⟨.int z.length,H,I.tok _,⟨_,rfl⟩,q⟩
def cD.or{r c:List V->Hp->VK->Prop}(h:cD X f r)(h':cD X f c):cD X f (λxs H Q=>r xs H Q\/c xs H Q):=by
 intro a s b H xs e Q I d q;rcases q with q|q
 exact h a s b H xs e Q I d q;exact h' a s b H xs e Q I d q
def Gm:cD X (.type "list") (λxs H Q=>∃p ys,xs=[.ref p]/\(O2 X.K H p ys\/ae X.K H p ys)/\∀l,H l=J->Q (.ref l) (upd H l (.lst ys))):=by
 intro k s A H xs C Q I r h;obtain⟨p,ys,rfl,hq,q⟩:=h;obtain⟨u,rfl,B⟩:=vals1 r;cases B;have m:∀a,Vals ys a->ys.length<=J4->∀c d,(∀b z,s.heap.get? b=U z->c.get? b=U z) ->
   c.get? s.heap.objs.size=U {cls:=.type "list",dict:=J,data:=.seq a.toArray d,slots:=#[]}->EP X k A Q (.ref s.heap.objs.size) {s with heap:=c}:=λa f i c d j e=>
  ⟨.ref s.heap.objs.size,_,I.laid j G8 (show aP X.prog X.w _ c _ (.lst ys)from⟨i,a,d,f,e⟩),rfl,q _ (I.L3.fresh G8)⟩
 rcases hq with hq|hq
 obtain⟨a,f,x,i⟩:=I.list hq;have:=f.length;obtain⟨o,v,y,n,t⟩:=x.isList;exact call_list_seq p (.inl rfl) v y t (λc d j e=>m a f i c d j e) (by simp only[V2]<;>simp_all);obtain⟨a,f,x,i⟩:=I.tuple hq;have:=f.length;obtain⟨o,v,y,n,t⟩:=x;exact call_list_seq p (.inr rfl) v y t (λc d j e=>m a f i c d j e) (by simp only[V2]<;>simp_all)
def DH:cD X (.type "tuple") (λxs H Q=>∃p ys,xs=[.ref p]/\((O2 X.K H p ys/\∀l,H l=J->Q (.ref l) (upd H l (.tup ys)))\/(ae X.K H p ys/\Q (.ref p) H))):=by
 intro a s k H xs x Q I r h;obtain⟨p,ys,rfl,h⟩:=h;obtain⟨u,rfl,t⟩:=vals1 r;cases t;rcases h with ⟨hq,q⟩|⟨hq,q⟩
 . obtain⟨c,f,g,j⟩:=I.list hq;have:=f.length;refine call_tuple_list g.isList (λd v=>?_) (by simp only[V2]<;>simp_all);have m:Inv X a k H {s with heap:=d}:=I.kept v
   have n:Inv X a k (upd H d.objs.size (.tup ys)) {s with heap:=d.push {cls:=.type "tuple",data:=.seq c.toArray}}:=
    m.laid (λb o e=>N3 _ e) G8 (show aP X.prog X.w _ _ _ (.tup ys)from⟨j,c,f,Gx _ _⟩)
   exact⟨.ref d.objs.size,_,n,rfl,q _ (m.L3.fresh G8)⟩
 obtain⟨c,f,g,j⟩:=I.tuple hq;exact call_tuple_same g ⟨.ref p,H,I,rfl,q⟩
def tyV(K:A6)(T:String)(x:V)(H:Hp):Prop:=match x with
 | .str _=>T = "str"
 | .int _=>T = "int"
 | .ref p=>(T = "list"/\∃xs,O2 K H p xs)\/(T = "tuple"/\∃o,K.lookup p=U o/\o.cls=.type "tuple"/\o.dict=J) \/
   (T = "dict"/\((∃kvs,H p=U (.dK kvs))\/∃kvs,H p=U (.dT kvs)))\/(T = "set"/\∃S n,H p=U (.set S n))
 |_=>False
def MY{x:V}(I:Inv X a b H s)(r:RelV x f)(ty:tyV X.K P x H):
  s.TypeIs f P/\∀k,f=.ref k->∃ob,s.heap.get? k=U ob/\ob.dict=J:=by
 cases x with
 |str z=>
  obtain⟨t,rfl⟩:=r;cases(show P = "str" from ty);exact⟨typeIs_str s z t,λ_ e=>nomatch e⟩
 |int i=>
  obtain⟨t,rfl⟩:=r;cases(show P = "int" from ty);exact⟨typeIs_int s i t,λ_ e=>nomatch e⟩
 |ref p=>
  cases r;rcases ty with ⟨rfl,q,hq⟩|⟨rfl,o,T,l,v⟩|⟨rfl,T⟩|⟨rfl,S,n,T⟩
  obtain⟨m,_,j,_⟩:=I.list hq;refine⟨j.isList.typeIs,λk e=>?_⟩;cases e;obtain⟨o,n,e,c,v,_⟩:=j;exact⟨o,e,v⟩;refine⟨⟨o,I.iu p o T,l⟩,λk e=>?_⟩;cases e;exact⟨o,I.iu _ o T,v⟩
  . have z:∃o,s.heap.get? p=U o/\o.ExactDict:=by
      rcases T with ⟨g,T⟩|⟨g,T⟩
      obtain⟨_,_,_,_,o,_,_,e,d,_⟩:=I.L3 p _ T;exact⟨o,e,d⟩;obtain⟨_,_,_,_,o,_,_,e,d,_⟩:=I.L3 p _ T;exact⟨o,e,d⟩
    obtain⟨o,e,d⟩:=z;refine⟨⟨o,e,d.1⟩,λk h=>?_⟩;cases h;exact⟨o,e,d.2.1⟩
  obtain⟨o,_,_,_,e,d,_⟩:=I.L3 p _ T;refine⟨⟨o,e,d.1⟩,λk h=>?_⟩;cases h;exact⟨o,e,d.2.1⟩
 |_=>exact eS ty
def a0O(K:A6)(T:String)(r:V->List V->Hp->VK->Prop)(to:TE):TE:=λσ H Q=>to σ H λx H1=>tyV K T x H1/\r x [] H1 Q
def Eo(K:A6)(T:String)(r:V->List V->Hp->VK->Prop)(to:TE)(t:TA):TE:=λσ H Q=>to σ H λx H1=>tyV K T x H1/\t σ H1 λxs H2=>r x xs H2 Q
variable{T:String}
def a1R{name:Str}{cpos:Pos}(k:PlainAttrs T)(slot:Slot T name P)(d:typeOf (.builtin P)=pure (.type "method_descriptor"))(i:Xu X P O)(j:PE X e Y)(b:autoParam (Bj X e name) w4)(c:autoParam ((R.endLine==cpos.line)=Uf) w4):PE X (.Call (.Attribute e name R) [] [] cpos) (a0O X.K T O Y):=by
 intro a s f H Q I h;refine wpAny_Call_method0_late b c (K0 (j a s f H _ I h) λv m ⟨x,p,g,o,t,q⟩=>?_);obtain⟨n,l⟩:=MY g o t;exact⟨T,P,k,slot,d,n,l,HZ rfl (PySem.evalArgs_none (i a m f p x [] v [] Q g o .nil q))⟩
def wC{o:Expr}{es:List Expr}{t:TA}{name:Str}{cpos:Pos}(u:PlainAttrs T)(slot:Slot T name P)(i:typeOf (.builtin P)=pure (.type "method_descriptor"))(C:Xu X P O)(n:PE X o Y)(M:PA X (e::es) t)(bm:Ip X o name R e es cpos):
  PE X (.Call (.Attribute o name R) (e::es) [] cpos) (Eo X.K T O Y t):=by
 obtain⟨f,g,d,hs,c⟩:=bm;intro b s j H Q I h;refine wpAny_Call_method_late f g d rfl (K0 (n b s j H _ I h) λv y ⟨x,G,k,m,A,L⟩=>?_);obtain⟨F,w⟩:=MY k m A;refine⟨T,P,u,slot,i,F,w,?_⟩;have l:=M cpos b y j G _ k L;rw[hs]at l⊢;refine HZ (by show(U'||(gq cpos (Q9 es X.env)).any (·.1))=U';rw[c]<;>rfl) (Rk ?_);exact K0 l λz E ⟨q,D,p,B,q2⟩=>C b E j D x q v z Q p m B q2
end
def Xv(X:Cx)(id:String)(r:V->List V->Hp->VK->Prop):Prop:=
 ∀(pins:List (Addr×Obj)) (s:A0) (σ:St) (H:Hp) (x:V) (xs:List V) (v:t7) (us:List t7) (Q:VK),Inv X pins σ H s->RelV x v->Vals xs us->r x xs H Q ->
  wpAny (model X.prog X.w) X.A (call (.builtin id) (v::us)) (EP X pins σ Q) X.xe s
def Vals.one{x:V}(h:Vals [x] S):∃u,S=[u]/\RelV x u:=by
 cases h with
 |cons r t=>cases t;exact⟨_,rfl,r⟩
def Vals.zero:∀{us:List t7},Vals [] us->us=[]
 |_,.nil=>rfl
theorem Vals.reverse{xs:List V}{us:List t7}(h:Vals xs us):Vals xs.reverse us.reverse:=by
 induction h with
 |nil=>exact .nil
 |cons r t a=>rw[AF,AF];exact Vals.append a (.cons r .nil)
def Inv.LX{ys:List V}{its':List t7}{f:Array t7->Array t7}{t':Nat}(I:Inv X a b H s)(d:H p=U (.lst Z))(e:s.heap.get? p=U {cls:=.type "list",data:=.seq S.toArray n})(g:f S.toArray=its'.toArray)(c:Vals ys its')(hz:ys.length<=J4):
  Inv X a b (upd H p (.lst ys)) {s with heap:=s.heap.update p (vy f),toks:=t'}:=by
 have q:=PySem.IsL.update e f;rw[g]at q;refine I.write (by rw[d];exact trivial) (.inl rfl) (λi u h σ=>(Rv s.heap (vy f) (mH h)).trans σ) ⟨_,q⟩ ?_;exact⟨hz,its',_,c,q⟩
def Inv.a2u(I:Inv X a b H s)(σ:Vals Z S)(hz:Z.length<=J4):
  Inv X a b (upd H s.heap.objs.size (.lst Z)) {s with heap:=s.heap.push {cls:=.type "list",data:=.seq S.toArray},toks:=n}:=
 I.laid (λ_ _ q=>N3 _ q) G8 ⟨hz,S,0,σ,Y8 _ rfl⟩
theorem Inv.fresh(I:Inv X a b H s):H (hz s)=J:=I.L3.fresh G8
def Inv.Fm(I:Inv X a b H s)(l:H p=U (.lst Z)):Z.length<=J4/\∃(σ:List t7) (n:Nat),Vals Z σ/\Z.length=σ.length/\s.heap.get? p=U {cls:=.type "list",data:=.seq σ.toArray n}:=by obtain⟨z,σ,n,r,e⟩:=I.L3 p _ l;exact⟨z,σ,n,r,r.length,e⟩
def UG(h:n<=J4):Ie n=U':=by exact ay C4
def Bv:V->List V->Hp->VK->Prop:=λx vs H Q=>∃l xs y,x=.ref l/\vs=[y]/\H l=U (.lst xs)/\xs.length<J4/\Q .non (upd H l (.lst (xs++[y])))
def CO:Xv X "list.append" Bv:=by
 intro c s k H x j v p Q I f d h;obtain⟨l,o,y,rfl,rfl,b,i,q⟩:=h;cases f;obtain⟨u,rfl,g⟩:=d.one;obtain⟨z,a,n,r,m,e⟩:=I.Fm b;refine ko F.slot_list_append ⟨_,e,rfl⟩ F.entry_list_append (F.args_list_append_2 _ _) (PySem.list_append l a.toArray n u (by rw[V2];simp_all)) ⟨e,?_⟩;refine⟨.non,_,I.LX b e F5 (r.append (.cons g .nil)) ?_,rfl,q⟩;rw[T7,HS];exact u4
def Ju:V->List V->Hp->VK->Prop:=λx vs H Q=>∃l b xs zs,x=.ref l/\vs=[.ref b]/\H l=U (.lst xs)/\H b=U (.lst zs)/\xs.length+zs.length<=J4/\Q .non (upd H l (.lst (xs++zs)))
def OS:Xv X "list.extend" Ju:=by
 intro g s E H x C v G Q I k w h;obtain⟨l,b,L,A,rfl,rfl,i,j,B,q⟩:=h;cases k;obtain⟨u,rfl,o⟩:=w.one;cases o;obtain⟨z,c,n,r,D,e⟩:=I.Fm i;obtain⟨K,a,m,t,y,p⟩:=I.Fm j;have f:c.toArray.size+a.toArray.size<=J4:=by rw[V2,V2];simp_all
 have d:¬(!c.toArray.isEmpty&&Ie (c.toArray.size+a.toArray.size))=Uf:=by rw[UG f,Bool.and_false];exact dY
 refine ko F.slot_list_extend ⟨_,e,rfl⟩ F.entry_list_extend (F.args_list_extend_2 _ _)
  (AutoSeq1.list_extend_list_list_0 l c.toArray n b a.toArray m d (by rw[V2];exact rh) (vQ u4)) ⟨e,p,?_⟩
 refine⟨.non,_,I.LX i e F5 (r.append t) ?_,rfl,q⟩;rw[T7];omega
def ED:V->List V->Hp->VK->Prop:=λx vs H Q=>∃l xs,x=.ref l/\vs=[]/\H l=U (.lst xs)/\Q .non (upd H l (.lst xs.reverse))
def LO:Xv X "list.reverse" ED:=by
 intro d s k H x j v o Q I g f h;obtain⟨l,m,rfl,rfl,c,q⟩:=h;cases g;have b:=f.zero;subst b;obtain⟨z,a,n,r,i,e⟩:=I.Fm c;refine ko F.slot_list_reverse ⟨_,e,rfl⟩ F.entry_list_reverse (F.args_list_reverse_1 _) (AutoSeq1.list_reverse_list_0 l a.toArray n (by rw[V2];simp_all)) ⟨e,?_⟩;refine⟨.non,_,I.LX c e F5 r.reverse ?_,rfl,q⟩;rw[AK];omega
section
variable{prog:N9}{w:G6}
end
end L2
namespace Att
open PySem PySem.W PySem.Calls PyProof.Rows
variable{P:Params}{h:Heap}{l:OpenLaw}
def zh:∀(ns:List Int) (vs:List t7),WellAll P h vs (ns.map WData.int)->eR vs ns:=by
 intro ns;induction ns with
 |nil=>
  intro vs w;cases w;exact .nil
 |cons n ns c=>
  intro vs w;cases w with
  |cons a b=>
   cases a;exact .cons _ _ (c _ b)
def Nx{n:Nat}(o:l.most=U n){args:List WData}{b:List t7}(c:l.row.toRowW.claim.pre args=Uf)(j:WellAll P h b args):
  ∃a vs ns,b=[bH a]/\args=[WData.list (ns.map WData.int)]/\h.get? a=U {cls:=.type "list",data:=.seq vs.toArray}/\eR vs ns/\ns.length<=n:=by
 obtain⟨d,r,rfl,x,s⟩:=hasAllW_cons ((pre_splitW c).1);obtain rfl:=hasAllW_nil s;obtain⟨y,rfl,u⟩:=hasW_list x;obtain⟨ns,rfl⟩:=items_int u;have e:ns.length<=n:=by
  have i:(WTm.not (.lt (.lit (.int n)) (.len (.arg 0)))).holds [] {args:=[.list (ns.map .int)]}=Uf:=by have i:=(holds_andW ((pre_splitW c).2)).1;rw[o]at i;exact i
  have g:=condW_of i (w_not (w_lt w_lit (w_len_list (w_arg rfl))));refine kC λq=>?_
  first
   |(rw[cy t]at g;exact absurd g f5)
   |(simp at g;lia)
 cases j with
 |cons v w=>
  cases w;cases v with
  |list p f=>exact⟨_,_,ns,rfl,rfl,p,zh ns _ f,e⟩
def NZ(l:OpenLaw)(args:List WData):l.row.toRowW.claim.post args (.bool Uf) args=Uf:=
 postW_of
  (show WShape.has [] (.bool Uf) .bool=Uf by first|rfl|decide|simp[WShape.has])
  (show(WTm.eq .res (.lit (.bool Uf))).value [] {args:=args,res:=U (.bool Uf),after:=args}=U (.bool (Uf==Uf))from w_eq_bool (w_res rfl) w_lit) rfl
def IV{n:Nat}{q:N9}{b:List Str}{z:(Str->Option t7)->Heap->Prop}{A:G6->Heap->Prop}{d:DefRec} (K:l.most=U n) (p:d.params.defaults=[]) (call:∀(w:G6) (X5 s₁:A0) (mg k:Str->Option t7) (fa:Addr) (o:Obj) (u j e:t7) (a:Addr) (vs:List t7) (ns:List Int),
   Ground q b [] z w X5 mg k s₁.heap->A w s₁.heap ->
   s₁.heap.get? fa=U o->o.data=.func (docDef d.name d.params d.body d.scope u j e)->s₁.heap.CodeRec j d.name->mg d.name=U (.ref fa) ->
   s₁.heap.get? a=U {cls:=.type "list",data:=.seq vs.toArray}->eR vs ns->ns.length<=n->s₁.gens = #[] ->
   codeAny (model l.prog w) mG (.call (.ref fa) ⟨[.ref a],[]⟩) (λr s'=>r=.ok (.ret (.bool Uf))/\OldK s₁.heap s'.heap/\s'.os=s₁.os/\kn s'.gens) s₁) :
  WalkO q b z A l.row.toRowW d [] (λf vs=>Gy f vs):=by
 intro w X5 s₁ mg k G Y fa o u j e O kV B I s hD m F y x N g v M t H;obtain rfl:=Dflts.none hD p;obtain rfl:=Dflts.noKw hD;obtain⟨a,vs,ns,rfl,rfl,h,c,i⟩:=Nx K g t;refine enter_call (Af (call w X5 s₁ mg k fa o u j e a vs ns G Y B (fd_plain I) s m h c i F) λr s' hq=>?_);obtain⟨rfl,C,D,L⟩:=hq;exact⟨.inl ⟨.bool Uf,.bool Uf,[],rfl,λ_=>rfl,.bool Uf,NZ l _,λ_=>⟨List.Pairwise.nil,λ_ E=>(nomatch E)⟩⟩,C,D,L⟩
section
variable{prog:N9}{w:G6}{K:Frag}
end
end Att
namespace L2
open PySem PySem.Spec PyProof.Rows
variable{c:Cx}{m o d8:Hp}{z T c7 g8 i8 i9 j0:Addr}{N d2:Nat}{e r c8:Expr}{I:Bool}{p E d3:Pos}{g:A6}{O j4:List Addr}{G c6:TE}{t:A0}{u b7:Str}{B:St}{A:aY}{L:List V}{Z:List Expr}{M:List f9}{Q b8:t7->A0->Prop}{P:TA}{S h8:Int}{Y:V}{a7:TT}{a9:N9}{b3 d6:List Str}{b4:Heap}{b5 i7:t7}{b6:Array t7}{b9:List (Addr×Obj)}{c9:Type}{d9:eQ}{i3:f9}{i6:G6}{j2:List t7}{j3:Stmt}{j5:List (Str×V)}{j6:TI}{j7:TG}{j9:Y6}{k7:Option Addr}{k8:Option t7->A0->Prop}{k9:TS}{l7:String}{l8:R2}{m3:XK}{m5:HO}{m6:Env}{m7:Result->A0->Prop}{m8:xB}{m9:List V->Hp->VK->Prop}{n6:List Stmt}{o0:List (Str×Addr)}{o1:f9->Option (List f9)}{o2:List Int}{o3:Str->Option t7}{o5:Array (Option t7)}{o6:List (List Key×V)}{o7:List (Key×V)}{o8:Option V}{o9:Option Obj}{p0:Option (Option V)}{p9:Int->Int->V}{q5:Int->Int->f9}{q9:Addr->List Key->Prop}{r4:List (List Key)}
def MS(h:eR j2 o2):Vals (o2.map V.int) j2:=by
 induction h with
 |nil=>exact .nil
 |cons n t _ i=>exact .cons ⟨t,rfl⟩ i
def VX(H:Hp):Prop:=∀b,H b=J\/∃o xs,H b=U (.hC o (.lst xs))
def UX{mb:Str->Option t7}{CX:Bi}{sp:Sp}(KX:g.In t.heap)(hns:t.heap.Ns aQ o3)(hb:t.heap.Ns builtinsNs mb)(hbb:∀u:Str,u ≠ "__name__"->mb u=fW u)(hlim:t.heap.NoLimit)(hg:t.gens = #[])(ha:t.heap.get? T=U {cls:=.type "list",data:=.seq j2.toArray})(hi:eR j2 o2)(hl:o2.length<=J4)(hr:S5 N mG)(F:∀base:Heap,g.In base->base.Ns aQ o3->ie a9 i6 g o3 base CX N z j9 [u] sp)(hbind:∀(s:A0) (w:t7),pC s j9 ⟨[w],[]⟩ [(u,w)])(hsp:∀H:Hp,VX H->O2 g H T (o2.map V.int)->sp [.ref T] H (λv _=>v=.bl Uf) λ_ _ _=>False)(hCX:∀H e s',CX [] H t (λ_ _ _=>False) e s'->False):
  codeAny (model a9 i6) mG (.call (.ref z) ⟨[.ref T],[]⟩) (λr s'=>r=.ok (.ret (.bool Uf))/\OldK t.heap s'.heap/\s'.os=t.os/\kn s'.gens) t:=by
 have rv:=MS hi;have core:∀H:Hp,VX H->O2 g H T (o2.map V.int)->G4 a9 i6 H t.heap->(∀b,H b≠J->b=T)->(H T≠J->g.lookup T=J) ->
   codeAny (model a9 i6) mG (.call (.ref z) ⟨[.ref T],[]⟩) (λr s'=>r=.ok (.ret (.bool Uf))/\OldK t.heap s'.heap/\s'.os=t.os/\kn s'.gens) t:=by
  intro H hO hS L3 hA hK;have base_of:∀{b:Addr}{o:Obj},t.heap.get? b=U o->H b=J->(uZ t.heap H).get? b=U o:=λe n=>Vb e n
  have noA:∀{b:Addr}{o:Obj}{es:Array DictEntry}{ep:Nat},t.heap.get? b=U o->o.data=.dict es ep->H b=J:=λ{b o es ep} e d=>by
   cases q:H b with
   |none=>rfl
   |some w=>
    have e':=hA b (by rw[q];simp);subst e';rw[ha]at e;cases e;cases d
  have nsK:∀{b:Addr}{m:Str->Option t7},t.heap.Ns b m->(uZ t.heap H).Ns b m:=λ{b m} ⟨o,es,ep,e,d,r⟩=>⟨o,es,ep,base_of e (noA e d),d,r⟩
  have hKb:=λb o e=>base_of (KX b o e) (by
   cases q:H b with
   |none=>rfl
   |some w=>
    have e':=hA b (by rw[q];simp)
    subst e';rw[hK (by rw[q];simp)]at e;exact nE e)
  have hM:Mod g o3 (uZ t.heap H):=⟨hKb,nsK hns,⟨mb,nsK hb,hbb⟩,let ⟨mc,h1,h2⟩:=hlim;⟨mc,nsK h1,h2⟩⟩;have e0:yu a9 i6 g o3 (uZ t.heap H) mG [] t H:=⟨rfl,hM,λb o e=>Zn e,rT (Pw _ _),trivial,λb hb=>absurd (show b∈([])from hb) F5,L3,.of_eq hg⟩;refine Af ((F _ hKb (nsK hns)).run mG [] t H ⟨[.ref T],[]⟩ [.ref T] [.ref T] _ _ hr e0 (hbind t (.ref T)) (.cons rfl .nil) (hsp H hO hS)) λr s' h=>?_
  cases r with
  |error e=>exact(hCX H e s' h).elim
  |ok fl=>
   cases fl with
   |next=>exact eS h
   |brk=>exact eS h
   |cont=>exact eS h
   |ret w=>
    obtain⟨v,H',os,bare,un,hok',r',q⟩:=h;subst q;obtain rfl:=r';refine⟨rfl,OldK.of_keep λb o e=>?_,os,bare⟩
    cases q:H b with
    |none=>exact un.keep b o e q (by intro P;exact absurd (show b∈([])from P) F5) F5
    |some w=>
     rcases hO b with P|⟨ob,xs,P⟩
     rw[q]at P;exact nS P;have z2:=un.sV b ob _ P;obtain⟨e1,_⟩:=L3 b _ P;obtain⟨e2,_⟩:=hok' b _ z2;rw[e]at e1;cases e1;exact e2
 cases hk:g.lookup T with
 |some o=>
  have e:=KX T o hk;rw[ha]at e;cases e;refine core (λ_=>J) (λ_=>.inl rfl) (.inr ⟨_,j2.toArray,_,hk,rfl,rfl,rfl,by rw[V2,hi.length];exact hl,by simpa using rv⟩) (λb w P=>by have z':=P;exact nE z') (λb P=>absurd rfl P) λP=>absurd rfl P
 |none=>
  refine core (λb=>if b=T then U (.hC {cls:=.type "list",data:=.seq j2.toArray} (.lst (o2.map V.int)))else J) (λb=>?_) (.inl (.inr ⟨{cls:=.type "list",data:=.seq j2.toArray},r9 rfl⟩)) (λb w P=>?_) (λb P=>?_) λ_=>hk;by_cases hb:b=T;exact .inr ⟨_,_,r9 hb⟩;exact .inl (s9 hb);by_cases hb:b=T;have z':=(r9 hb).symm.trans P;cases z';subst hb;exact⟨ha,by rw[F9];exact hl,j2,_,rv,ha⟩;have z':=(s9 hb).symm.trans P;exact nE z';by_cases hb:b=T;exact hb;exact absurd (s9 hb) P
def XH{l:Hh}{n k:Nat}{R:(Str->Option t7)->Heap->Prop}{D:G6->Heap->Prop}{d:DefRec}{K:Params->A6}{CX:G6->Bi}{sp:G6->Sp}{x:Str} (E:l.most=U n) (z:n<=J4) (y:d.params.defaults=[]) (N:S5 k mG) (O:∀(w:G6) (h:Heap),D w h->(K w.params).In h) (F:∀(w:G6) (mg:Str->Option t7) (fa:Addr) (h:Heap),(K w.params).In h->h.Ns aQ mg->mg d.name=U (.ref fa) ->
   ∃fd:Y6,(∀(s:A0) (u:t7),pC s fd ⟨[u],[]⟩ [(x,u)]) /\
    ∀base:Heap,(K w.params).In base->base.Ns aQ mg->ie l.prog w (K w.params) mg base (CX w) k fa fd [x] (sp w))
  (r:∀(w:G6) (H:Hp) (a:Addr) (ns:List Int),ns.length<=n->VX H->O2 (K w.params) H a (ns.map V.int)->sp w [.ref a] H (λv _=>v=.bl Uf) λ_ _ _=>False)
  (A:∀(w:G6) (H:Hp) (s:A0) (e:t7) (s':A0),CX w [] H s (λ_ _ _=>False) e s'->False) :
  PySem.W.WalkO a9 b3 R D l.row.toRowW d [] (λf vs=>Gy f vs):=by
 refine Att.IV E y λw B p mg mb fa o pm cd Q a vs ns G Y ho Z S t m i c P=>?_;have C:=O w _ Y;obtain⟨fd,X,I⟩:=F w mg fa _ C G.T.g t;exact UX C G.T.g G.T.b G.T.builtins G.T.nolimit P m i (B7 c z) N I X (λH L M=>r w H a ns c L M) λH e s'=>A w H p e s'
def inClass(s:Stmt)(j:Nat):Stmt:=match s with
 | .ClassDef _ _ _ body _ _ _ _ _ _ _=>body.getD j (.Pass ⟨0,0,0,0⟩)
 |_=>.Pass ⟨0,0,0,0⟩
def jF(s:Stmt):Arguments:=match s with
 | .FunctionDef _ a _ _ _ _ _ _ _ _=>a
 |_=>{posonlyargs:=[],args:=[],vararg:=J,kwonlyargs:=[],kw_defaults:=[],kwarg:=J,defaults:=[]}
def cI(s:Stmt):List Stmt:=match s with
 | .FunctionDef _ _ b _ _ _ _ _ _ _=>b
 |_=>[]
def O3(s:Stmt):eQ:=match s with
 | .FunctionDef _ _ _ _ _ _ sc _ _ _=>sc
 |_=>{kind:=.function,names:=[],isGenerator:=U',isCoroutine:=U'}
abbrev um:Bi:=λ_ _ _ _ _ _=>False
abbrev E0:XK:=λ_ _ _=>False
def wD:Passes um c E0:=λ_ _ _ _ _ _ _ h=>h.elim
structure vY(K:A6)(x qual:Str)(st:Stmt)(f:Addr)(fd:Y6):Prop where
 ex:∃(oc:t7) (od:Option Addr) (kV doc pm:t7) (an:Option Addr) (cdv ct:t7) (osl:Array (Option t7)),
  fd=iI x qual (jF st) (cI st) (O3 st) .none kV doc pm an cdv ct/\K.lookup f=U ⟨oc,od,.func fd,osl⟩/\Ap K cdv qual=Uf
 kp:pK K (.ref f)=Uf
section
variable{w:G6}{K:A6}{mg:Str->Option t7}
def vY.ok{sp:Sp} (F:vY K u b7 j3 z j9) (S:lL b3 d6 (O3 j3)) (len:∀vs H Q E,sp vs H Q E->vs.length=d6.length) (c:∀(b:t7) (A:aY) (outer:List Env) (s:A0) (H:Hp) (vs:List V) (Q:VK) (E:XK),S5 d2 (A.deeper (gp b7 (O3 j3) (hz s) z b))->sp vs H Q E ->
   ∃t,qr (qH um a9 w K mg b4 b3 b7 (O3 j3) z b A outer s H E).CN (cI j3) t/\t {nx:=λ_ H'=>Q .non H',rt:=Q} (start b3 vs) H):ie a9 w K mg b4 um (d2+1) z j9 d6 sp:=by
 obtain⟨P,p,kV,n,v,o,b,r,j,rfl,l,i⟩:=F.ex;refine a4o l i S len λA outer s H vs Q E m g=>?_;obtain⟨t,h,q⟩:=c b A outer s H vs Q E m g;exact⟨t,h.CN,q⟩
def vY.binds(F:vY K u b7 j3 z j9)(h:∀(kV b i:t7) (e:Option Addr) (c ct:t7) (us:List t7),us.length=b3.length->bindArgs (iI u b7 (jF j3) (cI j3) (O3 j3) .none kV b i e c ct) ⟨us,[]⟩=pure (b3.zip us)):Binds K j9 b3 []:=by obtain⟨l,m,kV,b,i,e,c,ct,j,rfl,n,k⟩:=F.ex;exact .all (h kV b i e c ct)
def a2S{h:Option Addr}{d i b ct:t7}(l:K.lookup z=U ⟨b5,k7,.func (iI u b7 (jF j3) (cI j3) (O3 j3) .none i7 d i h b ct),o5⟩)(c:Ap K b b7=Uf)(k:pK K (.ref z)=Uf):vY K u b7 j3 z (iI u b7 (jF j3) (cI j3) (O3 j3) .none i7 d i h b ct):=⟨⟨b5,k7,i7,d,i,h,b,ct,o5,rfl,l,c⟩,k⟩
end
def pv(i:Nat){x:Str}(b:autoParam (c.N[i]?=U x) w4)(X:Xp c.env.scope x:=by first|exact Or.inl rfl|exact Or.inr (Or.inl rfl)|exact Or.inr (Or.inr rfl))(hd:autoParam (mE x) L0)(a:autoParam ((x==("__classdict__" : Str))=U') L0):PE c (.Name x p) (S3 i):=a1K b X hd a
def w9(H H':Hp):Prop:=∀b o,H b=U o->H' b=U o
def w9.refl(H:Hp):w9 H H:=λ_ _ h=>h
def w9.trans(a:w9 m o)(b:w9 o d8):w9 m d8:=λc H h=>b c H (a c H h)
def w9.free(e:w9 m o)(h:o z=Option.none):m z=Option.none:=by
 cases q:m z with
 |none=>rfl
 |some H=>
  rw[e z H q]at h;exact nS h
def w9.seq(e:w9 m o)(h:O2 g m z L):O2 g o z L:=by
 rcases h with (h|⟨K,h⟩)|h
 exact .inl (.inl (e _ _ h));exact .inl (.inr ⟨K,e _ _ h⟩);exact .inr h
section
variable{κ:Type}[DecidableEq κ]
noncomputable def ll(kvs:List (κ×V))(k:κ):Option V:=(kvs.find? λkv=>decide (kv.1=k)).map (·.2)
def xI{p:κ×V}{r:List (κ×V)}{k:κ}(e:p.1=k):ll (p::r) k=U p.2:=by simp[ll,e]
def xJ{p:κ×V}{r:List (κ×V)}{k:κ}(e:¬p.1=k):ll (p::r) k=ll r k:=by simp[ll,e]
theorem ic.getD{o:Option V}{u:Option t7}{d:V}{d':t7}(r:ic o u)(a:RelV d d'):RelV (o.getD d) (u.getD d'):=by
 cases o with
 |none=>cases u with
  |none=>exact a
  |some _=>exact(show False from r).elim
 |some _=>cases u with
  |none=>exact(show False from r).elim
  |some _=>exact r
def KV.val{a:List (κ×V)}{vs:List (κ×t7)}(r:KV a vs)(k:κ):ic (ll a k) (rM vs k):=by
 induction r with
 |nil=>exact mL
 | @cons p q j d h t i=>
  obtain⟨f,g⟩:=h;by_cases e:p.1=k
  . have c:=f.symm.trans e;have b:rM (q::d) k=U q.2:=by simp[rM,c]
    rw[xI e,b];exact g
  . have c:¬q.1=k:=λz=>e (f.trans z)
    have b:rM (q::d) k=rM d k:=by simp[rM,c]
    rw[xJ e,b];exact i
end
def Md{k:Key}(r:RelV (kV k) b5):(bh a9 i6).is k b5=Uf:=by
 cases k with
 |inl i=>obtain⟨t,e⟩:=(show ∃t,b5=zW i t from r);subst e;exact IL a9 i6 i t
 |inr x=>obtain⟨t,e⟩:=(show ∃t,b5=zV x t from r);subst e;exact IK a9 i6 x t
def CW:∀{ks:List Key}{us:List t7},Vals (ks.map kV) us->ItemsAre (bh a9 i6) ks us:=by
 intro l_;induction l_ with
 |nil=>
  intro _ r;rw[rS]at r;cases r;exact .nil
 |cons k ks ih_=>
  intro _ r;cases r with
  |cons h t=>exact .cons (Md h) (ih_ t)
abbrev KT(H:Hp):List (List Key×V)->List (List Key×Addr×t7)->Prop:=Paired λp q=>p.1=q.1/\H q.2.1=U (.tup (p.1.map kV))/\RelV p.2 q.2.2
def KT.val{xs:List (List Key×Addr×t7)}(r:KT m o6 xs)(k:List Key):ic (ll o6 k) ((atKey xs k).map (·.2)):=by
 induction r with
 |nil=>exact mL
 | @cons p q j d h t i=>
  obtain⟨f,_,g⟩:=h;by_cases e:p.1=k
  . have c:=f.symm.trans e;have b:atKey (q::d) k=U q.2:=by simp[atKey,c]
    rw[xI e,b];exact g
  . have c:¬q.1=k:=λz=>e (f.trans z)
    have b:atKey (q::d) k=atKey d k:=by simp[atKey,c]
    rw[xJ e,b];exact i
section
variable{w:G6}
def WH(ok:G4 a9 w m b4)(e:Rd m z m5):aP a9 w m b4 z m5:=e.ok ok
def Ed(ok:G4 a9 w m b4)(e:Rd m z (.dK o7)):o7.length<=J4/\(z==rO)=U'/\∃vs,KV o7 vs/\b4.DictOf (bh a9 w) z vs:=
 show aP a9 w m b4 z (.dK o7)from WH ok e
def FG{ks:List Key}(ok:G4 a9 w m b4)(e:m z=U (.tup (ks.map kV))):(pF (bh a9 w)).is b4 ks z:=by
 obtain⟨_,b,r,o,c,f,n,d⟩:=(show aP a9 w m b4 z (.tup (ks.map kV))from ok z _ e);exact⟨o,b.toArray,n,c,f,d,by simpa using CW r⟩
def Ec(ok:G4 a9 w m b4)(e:Rd m z (.dT o6)):o6.length<=J4/\(z==rO)=U' /\
  ∃xs,KT m o6 xs/\b4.DictOfH (pF (bh a9 w)) z xs:=by
 obtain⟨H,y,xs,r,o,g,f,d,j,k,i,n⟩:=(show aP a9 w m b4 z (.dT o6)from WH ok e);refine⟨H,y,xs,r,o,g,f,d,j,k,i,λx c=>?_,n⟩
 have all:∀{l:List (List Key×V)}{P:List (List Key×Addr×t7)},KT m l P->∀x∈P,(pF (bh a9 w)).is b4 x.1 x.2.1:=by
  intro l P q;induction q with
  |nil=>intro x c;exact nomatch c
  | @cons p q v u hq t s=>
   intro x c;rcases List.mem_cons.mp c with e|c
   subst e;exact FG ok (by rw[<-hq.1];exact hq.2.1);exact s x c
 exact all r x c
end
def Il(H:Hp)(a:Addr)(y:V)(r:Option V):Prop:=
 (∃kvs k,Rd H a (.dK kvs)/\y=kV k/\r=ll kvs k)\/∃kvs k b,Rd H a (.dT kvs)/\y=.ref b/\H b=U (.tup (k.map kV))/\r=ll kvs k
def Inv.big(I:Inv c b9 B m t):rO<(hz t):=by exact ky f5 ((I.mod.glob.keeps I.bk).lt)
def Qa{v:V}(s:A.units+1<U0)(I:Inv c b9 B m t)(g:Il m z Y (U v))(o:RelV Y b5)(h:∀w' s',Inv c b9 B m s'->RelV v w'->Q w' s'):
  wpAny (model c.prog c.w) A (iC (.ref z) b5) Q b8 t:=by
 rcases g with ⟨j,k,e,n,l⟩|⟨j,k,b,e,n,r,l⟩
 subst n;obtain⟨a,x,σ,X,H⟩:=Ed I.L3 e;obtain⟨w',f,d⟩:=ic.some_of (by rw[l];exact X.val k);exact wpAny_getItem_of (Md o) H.mapOf f (h w' _ (I.tok _) d);subst n;cases(show b5=bH b from o);obtain⟨a,x,C,X,H⟩:=Ec I.L3 e;obtain⟨w',f,d⟩:=ic.some_of (by rw[l];exact X.val k);obtain⟨p,q,i⟩:=Option.map_eq_some_iff.mp f;refine wpAny_getItem_heap (tupleKind_room_in1 s) (FG I.L3 r) H q ?_;rw[i];exact h w' _ (I.tok _) d
def VY(i:Expr):Prop:=∀ov iv,subscripted i U' ov iv=operate [ov,iv] (iC ov iv)
def XR{id:String}(k:vz (.type l7) "__getitem__" = pure (U (.builtin id)))(hs:VY r)(h:wpAny (model a9 i6) A (eval e m6) (λo s₁=>wpAny (model a9 i6) A (eval r m6) (λi s₂=>s₂.TypeIs o l7/\wpAny (model a9 i6) A (iC o i) Q b8 s₂) b8 s₁) b8 t):
  wpAny (model a9 i6) A (eval (.Subscript e r p) m6) Q b8 t:=by
 refine Subscript_ (cu h (λo s₁ g=>cu g (λi s₂ c=>?_) λ_ _ x=>x) λ_ _ x=>x)
 obtain⟨j,c⟩:=c;refine u9 ?_;refine u9 (wpAny_specialOf j k ?_);have w:wpAny (model a9 i6) A (subscripted r U' o i) (λE d=>wpAny (model a9 i6) A (letTemporaryGo e o E >>= λ_=>pure E) Q b8 d) b8 s₂:=by rw[hs o i];exact wpAny_operating (cu c (λE d f=>u9 (wpAny_letTemporaryGo (B9 f))) λ_ _ x=>x)
 first
  |exact B9 (u9 w)
  |exact u9 (B9 (u9 w))
  |exact u9 w
def IT(I:Inv c b9 B m t)(g:Il m z Y o8):t.TypeIs (.ref z) "dict":=by
 rcases g with ⟨X,k,e,_,_⟩|⟨X,k,b,e,_,_,_⟩
 obtain⟨_,_,i,_,d⟩:=Ed I.L3 e;exact d.typeIs;obtain⟨_,_,h,_,d⟩:=Ec I.L3 e;exact d.typeIs
def Wy(td ty:TE):TE:=λσ H Q=>td σ H λx H1=>ty σ H1 λy H2=>∃a v,x=.ref a/\Il H2 a y (U v)/\Q v H2
def YV(l:c.A.units+1<U0)(A:PE c e G)(f:PE c r c6)(hs:VY r):PE c (.Subscript e r p) (Wy G c6):=by
 intro b s o H Q I h;refine XR PySem.F.slot_dict_getitem.lookup hs (K0 (A b s o H _ I h) λu n ⟨x,t,w,q,i⟩=>K0 (f b n o t _ w i) λB D ⟨y,j,d,k,a,v,z,g,q2⟩=>?_);subst z;obtain rfl:=q;exact⟨IT d g,Qa l d g k λE C m X=>⟨v,j,m,X,q2⟩⟩
structure M2(X:Cx)(o:Expr)(m:Str)(apos:Pos)(e f:Expr)(cpos:Pos):Prop where
 base:GV o m X.env (eval o X.env)=eval o X.env
 few:((gq cpos (Q9 [e,f] X.env)).all (λx=>!x.1)&&(vx cpos (vC [] X.env)).all (λx=>x.1.isSome)
  && decide (([e,f]:List Expr).length+([]:List Keyword).length+(if ([]:List Keyword).isEmpty then 0 else 1)<30))=Uf
 line:(apos.endLine==cpos.line)=Uf
 trees:gq cpos (Q9 [e,f] X.env)=[(U',eval e X.env),(U',eval f X.env)]
def IsD(H:Hp)(a:Addr):Prop:=(∃kvs,Rd H a (.dK kvs))\/∃kvs,Rd H a (.dT kvs)
def a2J(I:Inv c b9 B m t)(d:IsD m z):
  t.TypeIs (.ref z) "dict"/\(∀b,bH z=.ref b->∃ob,t.heap.get? b=U ob/\ob.dict=J)/\(z==rO)=U':=by
 rcases d with ⟨i,e⟩|⟨i,e⟩
 obtain⟨_,g,k,_,X⟩:=Ed I.L3 e;refine⟨X.typeIs,λb q=>?_,g⟩;cases q;obtain⟨ob,_,_,f,h,_⟩:=X;exact⟨ob,f,h.2.1⟩;obtain⟨_,g,l,_,X⟩:=Ec I.L3 e;refine⟨X.typeIs,λb q=>?_,g⟩;cases q;obtain⟨ob,_,_,f,h,_⟩:=X;exact⟨ob,f,h.2.1⟩
def a3b{d:V}(H:A.units+1<U0)(I:Inv c b9 B m t)(g:Il m z Y o8)(p:RelV Y b5)(n:RelV d i7)(h:∀w' s',Inv c b9 B m s'->RelV (o8.getD d) w'->Q w' s'):
  wpAny (model c.prog c.w) A (call (.builtin "dict.get") [.ref z,b5,i7]) Q b8 t:=by
 rcases g with ⟨j,k,e,σ,l⟩|⟨j,k,b,e,σ,q,l⟩
 subst σ;obtain⟨s,i,x,X,f⟩:=Ed I.L3 e;refine call_meetsIn HR f.typeIs Ru (RC _ _ _) (meets_dict_get_default (bh c.prog c.w) z (Md p) i i7) ⟨_,f.mapOf,h _ _ (I.tok _) ?_⟩;rw[l];exact(X.val k).getD n;subst σ;cases(show b5=bH b from p);obtain⟨s,i,v,X,f⟩:=Ec I.L3 e;refine call_meetsIn HR f.typeIs Ru (RC _ _ _) (meetsH_dict_get_default (pF (bh c.prog c.w)) z b i i7) ⟨tupleKind_room_in1 H,k,v,FG I.L3 q,f,h _ _ (I.tok _) ?_⟩;rw[l];exact(X.val k).getD n
def Nj(td ty tx:TE):TE:=λσ H Q=>td σ H λx H1=>∃a,x=.ref a/\IsD H1 a/\ty σ H1 λy H2=>tx σ H2 λz H3=>∃o,Il H3 a y o/\Q (o.getD z) H3
def Uo{tx:TE}(o:c.A.units+1<U0)(F:PE c r G)(A:PE c e c6)(C:PE c c8 tx)(m:M2 c r "get" p e c8 E):PE c (.Call (.Attribute r "get" p) [e,c8] [] E) (Nj G c6 tx):=by
 intro b s X H Q I h;refine wpAny_Call_method m.base m.few m.line PySem.F.plainAttrs_dict HR PySem.F.type_dict_get (K0 (F b s X H _ I h) λu v ⟨x,O,j,K,a,P,d,N⟩=>?_)
 subst P;obtain rfl:=K;obtain⟨k,D,_⟩:=a2J j d;refine⟨k,D,?_⟩;rw[m.trees];refine HZ rfl (Rk (AH (K0 (A b v X O _ j N) λS L ⟨y,n,l,f,q2⟩=>
  AH (K0 (C b L X n _ l q2) λV T ⟨z,w,t,B,W,g,q⟩=>HA ?_))))
 exact a3b o t g f B λY R M i=>⟨_,w,M,i,q⟩
def Mw(env:Env):∀(names:List (Str×mJ)) (a:List (Str×Addr)),(∀y∈names,y.2=.free->∃c,env.cells.lookup y.1=U c)->(∀x c,a.lookup x=U c->env.cells.lookup x=U c) ->
  ∃cl,(forIn names a λy (cs:List (Str×Addr))=>if (y.2==.free)=Uf then(do let c <- cellOf env y.1;pure (mQ ((y.1,c)::cs)))else pure (mQ cs):Sem (List (Str×Addr)))=pure cl /\
   (∀x c,cl.lookup x=U c->env.cells.lookup x=U c)/\(∀y∈names,y.2=.free->(cl.lookup y.1).isSome=Uf)/\(∀x,(a.lookup x).isSome=Uf->(cl.lookup x).isSome=Uf):=by
 intro l_;induction l_ with
 |nil=>
  intro a _ ha;exact⟨a,by simp only[List.forIn_nil],ha,(λ_ h=>nomatch h),(λ_ h=>h)⟩
 |cons a_ r ih_=>
  obtain⟨n,k⟩:=a_;intro a h ha;have s:=λy b=>h y (E7 _ b);by_cases o:k=.free
  . subst o;obtain⟨c,q⟩:=h (n,.free) F2 rfl;have i:∀x c',((n,c)::a).lookup x=U c'->env.cells.lookup x=U c':=λx c' e=>by
     rw[pQ]at e;cases d:x==n with
     |true=>
      rw[d]at e;cases e;rw[eq_of_beq d];exact q
     |false=>
      rw[d]at e;exact ha x c' e
    obtain⟨cl,l,p,j,m⟩:=ih_ ((n,c)::a) s i;have t:=m;refine⟨cl,?_,p,λy b f=>?_,λx d=>t x ?_⟩
    . rw[Qz];have v:cellOf env n=pure c:=by delta cellOf;rw[q]
      simp only[v];exact l
    . rcases List.mem_cons.mp b with rfl|b
      exact t n F5;exact j y b f
    . rw[pQ];cases x==n<;>simp[d]
  . obtain⟨cl,l,p,j,m⟩:=ih_ a s ha;refine⟨cl,?_,p,λy b f=>?_,m⟩
    . rw[Qz];have u:(k==iU)=U':=by simpa using o
      simp only[u];exact l
    . rcases List.mem_cons.mp b with rfl|b
      exact absurd f o;exact j y b f
def Mv(h:∀y∈d9.names,y.2=.free->∃c,m6.cells.lookup y.1=U c):
  ∃cl,closureFor d9 m6=pure cl/\(∀x c,cl.lookup x=U c->m6.cells.lookup x=U c)/\(∀y∈d9.names,y.2=.free->(cl.lookup y.1).isSome=Uf):=by
 obtain⟨cl,d,f,b,_⟩:=Mw m6 d9.names [] h (λx c e=>by simp at e);refine⟨cl,?_,f,b⟩;show((forIn d9.names [] λy a=>if (y.2==.free)=Uf then(do let c <- cellOf m6 y.1;pure (mQ ((y.1,c)::a)))else pure (mQ a):Sem (List (Str×Addr))) >>= pure)=_;rw[d];rfl
theorem oN{env:Env}:∀{names:List (Str×mJ)}{x:Str},
  ((names.map λ(n,k)=>if (k==iU&&env.scope.kind==.function&&env.kindOf n==U .cell)then(n,cx)else(n,k)).lookup x=U .cell \/
   (names.map λ(n,k)=>if (k==iU&&env.scope.kind==.function&&env.kindOf n==U .cell)then(n,cx)else(n,k)).lookup x=U .free) ->
  (x,iU)∈names\/(x,cx)∈names
 | [],_,h=>by simp at h
 |(n,k)::r,x,h=>by
  by_cases f:(x==n)=Uf
  . have e:=eq_of_beq f;subst e;by_cases b:k=.free;subst b;exact .inl F2
    . right;have i:(k==iU)=U':=by simpa using b
      simp only[E8,i,GY,mW,if_false,pQ,beq_self_eq_true]at h
      simp_all
  . have c:(x==n)=U':=by simpa using f
    refine((@oN env r x) ?_).imp (E7 _) (E7 _);rw[E8]at h;have d:∀(g:mJ) l,gr x ((n,g)::l)=gr x l:=λg l=>by rw[pQ,c]
    by_cases a:(k==iU&&env.scope.kind==.function&&env.kindOf n==U .cell)=Uf;have e:(if (k==iU&&env.scope.kind==.function&&env.kindOf n==U .cell)=Uf then(n,cx)else(n,k))=(n,cx):=r9 a;simp only[e,d]at h;exact h;have e:(if (k==iU&&env.scope.kind==.function&&env.kindOf n==U .cell)=Uf then(n,cx)else(n,k))=(n,k):=s9 a;simp only[e,d]at h;exact h
noncomputable def ph(X:Cx)(bs nb:List Str)(scope:eQ)(cl:List (Str×Addr))(C:Addr)(fp:List Addr)(s:A0)(H:Hp)(pins:List (Addr×Obj)):Cx where
 prog:=X.prog
 w:=X.w
 K:=X.K
 mg:=X.mg
 base:=X.base
 A:=X.A
 N:=bs++nb
 X5:=s
 F6:=H
 env:=vw scope cl C X.env
 outer:=X.stack
 stack:=X.stack
 ex:=fp
 fn:=λy=>decide (scope.names.lookup y=U .cell)
 calm:=X.calm
 pn:=X.pn++pins
 xe:=λ_ _=>False
structure Eh(X:Cx)(bs nb:List Str)(scope:eQ):Prop where
 kind:scope.kind=.function
 names:∀y∈scope.names,y.2=.local->scope.names.lookup y.1=U .local
 aS:∀y∈scope.names,y.2=.free->X.env.scope.names.lookup y.1=U .cell\/X.env.scope.names.lookup y.1=U .free
 apart:∀x∈nb,∀y∈scope.names,y.1=x->y.2≠.local/\y.2≠.cell
 len:nb.length=X.N.length
 nms:∀(j:Nat) (x:Str),nb[j]?=U x->X.N[j]?=U x\/∀y∈scope.names,y.1≠x
noncomputable def mC(N nb:List Str)(fsc sc:eQ):Bool:=
 (decide (nb.length=N.length)&&(nb.zip N).all λp=>decide (p.1=p.2)||sc.names.all λy=>!decide (y.1=p.1))&&(decide (sc.kind=.function)&&(sc.names.all λy=>!decide (y.2=.local)||decide (sc.names.lookup y.1=U .local)) &&
  (sc.names.all λy=>!decide (y.2=.free)||(decide (fsc.names.lookup y.1=U .cell)||decide (fsc.names.lookup y.1=U .free)))&&nb.all λx=>sc.names.all λy=>!decide (y.1=x)||!decide (y.2=.local\/y.2=.cell))
def Qm(h:mC c.N d6 c.env.scope d9=Uf):Eh c b3 d6 d9:=by
 unfold mC at h;simp only[pP,List.all_eq_true,Qy,QN,pT,decide_eq_false_iff_not]at h;obtain⟨⟨g,m⟩,⟨⟨o,n⟩,l⟩,i⟩:=h;refine⟨o,λy a e=>?_,λy a e=>?_,λx d y a f=>?_,g,λj x b=>?_⟩
 . rcases n y a with q|q
   exact absurd e q;exact q
 . rcases l y a with q|q
   exact absurd e q;exact q
 . rcases i x d y a with q|q
   exact absurd f q;exact⟨λz=>q (.inl z),λz=>q (.inr z)⟩
 . have:=(List.getElem?_eq_some_iff.mp b).1;have X:c.N[j]?=U (c.N[j]'t9):=L6 _;have k:(d6.zip c.N)[j]?=U (x,c.N[j]'t9):=List.getElem?_zip_eq_some.mpr ⟨b,X⟩;rcases m _ (qt k)with q|q
   left;rw[X];exact C2 U q.symm;right;exact q
set_option tactic.hygienic true in
def a4s(lo:Nat)(P:Str->Addr->Prop):∀(names:List (Str×mJ)) (h:Heap) (d:List (Str×Addr)) (D:Str->Prop),lo<=h.objs.size ->
  (∀x c,d.lookup x=U c->c<h.objs.size/\((P x c/\¬D x)\/(D x/\lo<=c/\h.IsCell c J)))->(∀x y c,d.lookup x=U c->d.lookup y=U c->x=y)->(∀x,D x->(d.lookup x).isSome=Uf) ->
  (∀x c,(iG h.objs.size names d).lookup x=U c->(P x c/\¬(D x\/(x,cx)∈names))\/((D x\/(x,cx)∈names)/\lo<=c/\(rN h names).IsCell c J)) /\
  (∀x y c,(iG h.objs.size names d).lookup x=U c->(iG h.objs.size names d).lookup y=U c->x=y)/\(∀x,(D x\/(x,cx)∈names)\/(d.lookup x).isSome=Uf->((iG h.objs.size names d).lookup x).isSome=Uf):=by
 intro l_;induction l_ with
 |nil=>
  intro h d D hlo h1 h2 h3;refine⟨λx c e=>?_,h2,λx f=>?_⟩
  . rcases(h1 x c e).2 with ⟨u,v⟩|⟨u,v,B⟩
    exact .inl ⟨u,λz=>z.elim v F5⟩;exact .inr ⟨.inl u,v,B⟩
  . rcases f with (f|f)|f
    exact h3 x f;simp at f;exact f
 |cons a_ r ih_=>
  obtain⟨n,k⟩:=a_;intro h d D hlo h1 h2 h3;unfold rN iG;by_cases w:k=.cell
  . subst w;have l:∀x,((n,h.objs.size)::d).lookup x=if x=n then U h.objs.size else d.lookup x:=λx=>by
     rw[pQ];by_cases c:x=n;subst c;simp
     . have:(x==n)=U':=by simpa using c
       rw[this,s9 c]
    have sz:(h.push {cls:=.type "cell",data:=.cell J}).objs.size=h.objs.size+1:=iV ..;obtain⟨s,m,p⟩:=ih_ (h.push {cls:=.type "cell",data:=.cell J}) ((n,h.objs.size)::d) (λx=>D x\/x=n) (by lia) (λx c e=>by
      rw[l]at e;split at e;rename_i f;cases e;exact⟨by simp,.inr ⟨.inr f,hlo,_,Y8 _ rfl,rfl⟩⟩
      . rename_i f;obtain⟨z,q⟩:=h1 x c e;refine⟨by rw[sz];exact vS z,?_⟩
        rcases q with ⟨t,q2⟩|⟨t,q2,E⟩
        exact .inl ⟨t,λy=>y.elim q2 f⟩
        . exact .inr ⟨.inl t,q2,E.keeps λb o e=>N3 _ e⟩) (λx y c i g=>by
      rw[l]at i g;split at i;split at g;rename_i a b;rw[a,b];cases i;exact absurd (h1 y _ g).1 (bw _)
      . split at g;cases g;exact absurd (h1 x _ i).1 (bw _)
        . exact h2 x y c i g) (λx f=>by
      rw[l];split;rfl
      . rename_i C;exact h3 x (f.resolve_right C))
    rw[sz]at s m p;have j:∀x,((D x\/x=n)\/(x,cx)∈r)↔(D x\/(x,cx)∈(n,cx)::r):=λx=>by
     rw[bu];constructor;rintro((z|z)|z);exact .inl z;exact .inr (.inl (by rw[z]));exact .inr (.inr z);rintro(z|z|z);exact .inl (.inl z);exact .inl (.inr (C2 Prod.fst z));exact .inr z
    refine⟨λx c e=>?_,m,λx f=>p x ?_⟩;rw[<-j];exact s x c e;rw[<-j]at f;refine f.imp id λz=>?_;rw[l];split;rfl;exact z
  . have A:(k==cx)=U':=by simpa using w
    simp only[A];obtain⟨s,m,p⟩:=ih_ h d D hlo h1 h2 h3;have j:∀x,(x,cx)∈r↔(x,cx)∈(n,k)::r:=λx=>by rw[bu];exact⟨.inr,λz=>z.resolve_left λy=>w (C2 Prod.snd y).symm⟩
    refine⟨λx c e=>?_,m,λx f=>p x ?_⟩;rw[<-j];exact s x c e;rw[<-j]at f;exact f
structure Wa(X:Cx)(scope:eQ)(cl:List (Str×Addr))(n:Nat):Prop where
 c1:∀x c,cl.lookup x=U c->(X.env.cells.lookup x=U c/\¬(x,cx)∈scope.names)\/((x,cx)∈scope.names/\n<=c)
 c2:∀x,(x,iU)∈scope.names\/(x,cx)∈scope.names->(cl.lookup x).isSome=Uf
 c3:∀x y c,cl.lookup x=U c->cl.lookup y=U c->x=y
def a3e(I:Inv c b9 B m t)(σ:Eh c b3 d6 d9)(L:Wa c d9 o0 (hz t))(g:(hz t)<=z)(f:∀b∈O,nA c b9 m b)(d:∀b∈O,b<(hz t)):(ph c b3 d6 d9 o0 z O t m b9).Ok where
 mod:=I.ok.mod
 kind:=σ.kind
 glob:=I.ok.glob
 blt:=I.ok.blt
 above:=g
 inj:=L.c3
 has:=λx j=>by exact Option.isSome_iff_exists.mp (L.c2 x (oN j))
 Kv:=λx X h e=>by
  rcases L.c1 x X e with C|C
  exact absurd (mY (mT h)) C.2;exact C.2
 hd:=I.ok.hd
 frames:=I.ok.frames
 Np:=.inl rfl
 Xe:=λb a=>⟨S8 (O1 (d b a) g),λx X e=>(L.c1 x X e).elim (λC=>(f b a).2.2.2.2.1 x X C.1) λC=>gx (O1 (d b a) C.2)⟩
 bs:=I.bs
 uc:=B7 I.ok.uc I.sz
 ya:=λb o e a=>by
  rcases(f b a).2.2.2.1 with C|C
  exact I.ok.ya b o e C;exact absurd (O1 (J8 e) (B7 I.ok.uc C)) (bw _)
 Cj:=λb a i=>by
  rcases List.mem_cons.mp (I.uG b i)with C|C
  exact(f b a).2.1 C;exact(f b a).2.2.1 C
 lC:=I.stack
 Df:=I.Jf
def gN(bs:List Str)(σ:St):St:=F7 bs.length J++σ
def ZU{t':Nat}(I:Inv c b9 B m t)(H:Eh c b3 d6 d9)(L:Wa c d9 o0 (hz t))(E:∀x X,o0.lookup x=U X->(hz t)<=X->b4.IsCell X J)(Q:(hz t)<=z)(hf:∀b∈O,nA c b9 m b)(P:∀b∈O,b<(hz t))(k:∀b u,t.heap.get? b=U u->b4.get? b=U u)(hn:b4.Ns z o3):Inv (ph c b3 d6 d9 o0 z O t m b9) [] (gN b3 B) m {t with heap:=b4,toks:=t'}:=by
 refine⟨a3e I H L Q hf P,rfl,I.bare,Un.kept k,⟨o3,hn,λi x v S y f=>?_⟩,λx X e=>?_,I.L3.fresh Q,λx X e=>(L.c1 x X e).elim (λC=>I.jT x X C.1) λC=>I.L3.fresh C.2,λp Z=>?_,I.L3.kept k,?_⟩
 . have q:(b3++d6)[i]?=U x:=S;unfold gN at y;by_cases A:i<b3.length;rw[kl (by simpa using A),Ic,r9 A]at y;cases y
   . rw[qu (by simpa using A),sr]at y;rw[qu (by simpa using A)]at q
     have h:=qt q;have D:(x,iU)∈d9.names:=by
      rcases f with f|f
      exfalso;obtain⟨⟨n,F⟩,G,j⟩:=mem_map.mp (mY f);by_cases a:(F==iU&&c.env.scope.kind==.function&&c.env.kindOf n==U .cell)=Uf;simp only[a]at j;cases j;simp only[a]at j;cases j;exact(H.apart x h (x,.local) G rfl).1 rfl;exact(oN f).resolve_right λC=>(H.apart x h _ C rfl).2 rfl
     have W:Xp c.env.scope x:=.inr (H.aS _ D rfl);obtain⟨m0,_,Y⟩:=I.loc;obtain⟨u,r,l⟩:=Y _ x v ((H.nms _ x q).resolve_right λC=>C _ D rfl) y W
     refine⟨u,r,?_⟩;have N:(ph c b3 d6 d9 o0 z O t m b9).env.kindOf x=U .cell\/(ph c b3 d6 d9 o0 z O t m b9).env.kindOf x=U .free:=by
      rcases f with f|f
      exfalso;obtain⟨⟨n,F⟩,G,j⟩:=mem_map.mp (mY f);by_cases a:(F==iU&&c.env.scope.kind==.function&&c.env.kindOf n==U .cell)=Uf;simp only[a]at j;cases j;simp only[a]at j;cases j;exact(H.apart x h (x,.local) G rfl).1 rfl;exact f
     rcases l with ⟨hk,_⟩|⟨_,X,T,s⟩
     . exfalso;have g:c.env.scope.names.lookup x=U .local:=hk;rcases H.aS _ D rfl with C|C
       rw[show c.env.scope.names.lookup x=U .cell from C]at g;cases g;rw[show c.env.scope.names.lookup x=U .free from C]at g;cases g
     . obtain⟨R,w⟩:=Option.isSome_iff_exists.mp (L.c2 _ (.inl D));have:R=X:=by
        rcases L.c1 _ _ w with C|C
        exact W5 (C.1.symm.trans T);exact absurd rfl (H.apart x h _ C.1 rfl).2
       subst this;obtain⟨o,M,σ⟩:=s;exact .inr ⟨N,R,w,o,k _ _ M,σ⟩
 . rcases L.c1 x X e with C|C
   obtain⟨v,o,M,σ⟩:=I.cell x X C.1;exact⟨v,o,k _ _ M,σ⟩;exact⟨_,E x X e C.2⟩
 . have K:p∈c.pn++b9:=by simpa [ph]using Z
   obtain⟨e,n,ne,V,d⟩:=I.pin p K;refine⟨k _ _ e,n,S8 (O1 (J8 e) Q),λC=>?_,d⟩
   rcases List.mem_cons.mp (I.uG _ C)with C|C
   exact ne C;exact V C
 delta gN;show _=(b3++d6).length;rw[T7,T7,sr,I.len,H.len]
def Inv.KO{o:HO}(I:Inv c b9 B m t)(i:m z=J)(g:z≠c.env.locals)(H:z∈c.ex\/c.X5.heap.objs.size<=z)(j:∀x X,c.env.cells.lookup x=U X->X≠z)(r:∀p∈c.pn++b9,p.1≠z)(new:aP c.prog c.w (upd m z o) t.heap z o):Inv c b9 B (upd m z o) t:=by
 have a:∀b u,m b=U u->upd m z o b=U u:=λb u e=>by rw[L8 (aN e i)];exact e
 have:=I.step (d':=t.drawn) (t':=t.toks) (ch:=[z]) (λb f=>?_) (λb d _ _ _ e _=>e) (λb d _ _ _ e _=>⟨d.slots,e⟩) (λb d l e n=>?_) (λb d _ e=>⟨d,e⟩)
  (λb h e=>a b _ e) (λb d u e=>a b _ e) (λb v e=>⟨#[],by rw[a b _ e];rfl⟩) (λσ k=>k) (λb u e=>?_) I.bare
 exact this
 . have e:b=z:=by simpa using f
   subst e;exact⟨H,g,j,r⟩
 rw[L8 (by simpa using l)];exact n;by_cases f:b=z;subst f;rw[Q5]at e;cases e;exact new;rw[L8 f]at e;exact(I.L3 b u e).xN (λ_ _ _ q=>q) (λX q=>a X _ q) λX h q=>a X _ q
def MH(X:Cx)(ifs:List Expr)(t:TT):Prop:=
 ∀(pins:List (Addr×Obj)) (s:A0) (σ:St) (H:Hp) (Q:Bool->Hp->Prop) (E:t7->A0->Prop),(∀e s',X.xe e s'->E e s')->Inv X pins σ H s->t σ H Q ->
  wpAny (model X.prog X.w) X.A (forIn ifs Uf λc r=>if r=Uf then do let ok <- isTrue c X.env (eval c X.env);pure (mQ ok)else pure (mQ r)) (TP X pins σ Q) E s
def KS:TT:=λ_ H Q=>Q Uf H
def EK:MH c [] KS:=λ_ _ _ H _ _ _ I h=>wpAny_tests_nil ⟨H,I,h⟩
def Ue(h:PT c e a7):MH c [e] a7:=λa s b H Q E d I q=>wpAny_tests_one (cu (h a s b H Q I q) (λ_ _ z=>z) d)
section
variable{prog:N9}{w:G6}
def IU(I:Nat->A0->Prop) (turn:∀n t,I n t->wpAny (model prog w) A (pB b5) (λs s₁=>match s with
   |none=>m7 (.ok .next) s₁
   |some v=>wpAny (model prog w) A (Hl r b5 v) (λ_ X5=>wpAny (model prog w) A (assign r m6 v) (λ_ s₂=>
     wpAny (model prog w) A (forIn Z Uf λc s=>if s=Uf then do let ok <- isTrue c m6 (eval c m6);pure (mQ ok)else pure (mQ s)) (λok s₃=>
      if ok=Uf then wpAny (model prog w) A (eval e m6) (λx i=>
       wpAny (model prog w) A (call (.builtin "list.append") [i7,x]) (λ_ f=>∃m,m<n/\I m f) (km (model prog w) A m6 λR s'=>m7 (.error R) s') i) (km (model prog w) A m6 λR s'=>m7 (.error R) s') s₃
      else ∃m,m<n/\I m s₃) (km (model prog w) A m6 λR s'=>m7 (.error R) s') s₂) (km (model prog w) A m6 λR s'=>m7 (.error R) s') X5) (km (model prog w) A m6 λR s'=>m7 (.error R) s') s₁) (km (model prog w) A m6 λR s'=>m7 (.error R) s') t)
  (n:Nat) (h:I n t) :
  codeAny (model prog w) A (.compLoop (.ListComp e [⟨r,c8,Z,0⟩] d9 E) 0 b5 i7 m6) m7 t:=by
 refine codeAny_loop rfl I (λn t y=>?_) n h;refine wpAny_noted ?_;refine u9 (GU (u9 (cu (turn n t y) (λs s₁ d=>?_) λ_ _ b=>b)))
 cases s with
 |none=>exact B9 d
 |some v=>
  refine u9 (cu d (λ_ X5 j=>?_) λ_ _ b=>b);refine u9 (cu j (λ_ s₂ q=>u9 (cu q (λok s₃ g=>?_) λ_ _ b=>b)) λ_ _ b=>b)
  cases ok with
  |false=>exact B9 ⟨rfl,g⟩
  |true=>
   exact u9 (u9 (cu g (λx i l=>u9 (cu l (λ_ f u=>B9 (B9 ⟨rfl,u⟩)) λ_ _ b=>b)) λ_ _ b=>b))
end
def Ik(n:Nat)(g:TG):Prop:=∀x σ H Q,g x σ H Q->g x σ H λσ2 H2=>Q σ2 H2/\σ2.length=σ.length/\∀j,n<=j->σ2[j]?=σ[j]?
def Eg(n:Nat)(g:xB):Prop:=∀x σ H Q,g x σ H Q->g x σ H λσ2 H2=>Q σ2 H2/\σ2.length=σ.length/\∀j,n<=j->σ2[j]?=σ[j]?
def Pz(h:autoParam (d2<N) L0):Ik N (cO d2):=λx b H Q q=>⟨q,by simp,λj a=>by rw[iW (S8 (O1 u4 u4))]⟩
def Py:Eg N Mm:=λx a H Q q=>⟨q.1,q.2,rfl,λ_ _=>rfl⟩
def zp(o:Eg N m8)(h:autoParam (d2<N) L0):Eg N (sU (cO d2) m8):=λx f H Q q=>by
 obtain⟨v,r,e,q⟩:=q;refine⟨v,r,e,?_⟩;have m:∀d:St,(d.length=(f.set d2 (U v)).length/\∀j,N<=j->d[j]?=(f.set d2 (U v))[j]?)->d.length=f.length/\∀j,N<=j->d[j]?=f[j]?:=λd ⟨a,b⟩=>by
  refine⟨by simpa using a,λj k=>?_⟩;have:=b j k
  rwa [iW (S8 (O1 u4 u4))]at this
 have l:(λd g=>Q d g/\d.length=(f.set d2 (U v)).length/\∀j,N<=j->d[j]?=(f.set d2 (U v))[j]?)=λd g=>Q d g/\d.length=f.length/\∀j,N<=j->d[j]?=f[j]?:=by
  funext d g
  apply propext;constructor;rintro⟨a,b⟩;exact⟨a,m d b⟩;rintro⟨a,b,c⟩;refine⟨a,by simpa using b,λj k=>?_⟩;rw[iW (S8 (O1 u4 u4))];exact c j k
 rw[<-l];exact(o r (f.set d2 (U v)) H Q q)
def Vc(h:Eg N m8):Ik N (Cd g d2 m8):=λx d H Q q=>by obtain⟨a,b,e,c,f,q⟩:=q;exact⟨a,b,e,c,f,h b d H Q q⟩
def a4v(Jff:It)(bs:List Str)(g:TG)(tt:TT)(te:TE)(σ:St)(Q:VK)(H1:Hp):Prop:=∃(n:Nat) (W:Nat->List V->Hp->Prop),n<=J4/\W 0 [] H1/\∀i ys H,W i ys H ->
 ((Jff.stop i H/\∀p,H p=J->Q (.ref p) (upd H p (.lst ys)))\/(Jff.go i H/\i<n/\∀x H',Jff.Wh i H x H'->g x (gN bs σ) H' λσ2 H2=>tt σ2 H2 λb H3=>if b=Uf then te σ2 H3 (λy H4=>W (i+1) (ys++[y]) H4)else W (i+1) ys H3))
def sG(bs:List Str)(wi:TI)(g:TG)(tt:TT)(te:TE):TE:=λσ H Q=>wi σ H λJff H1=>a4v Jff bs g tt te σ Q H1
def Vals.snoc(r:Vals L j2)(h:RelV Y b5):Vals (L++[Y]) (j2++[b5]):=r.append (.cons h .nil)
def XA{M:Model}{E:Env->A0->Prop}(g:E (newEnv d9 (hz t) z (iG ((hz t)+1) d9.names o0) u J .none (U m6) T) {t with heap:=rN (t.heap.push {cls:=.type "dict",data:=.dict #[]}) d9.names}):
  wpAny M A (newFunctionEnv d9 z o0 [] u J .none (U m6) T) E Q t:=by
 simp only[newFunctionEnv,Option.isSome_some,X3];refine u9 (wpAny_alloc ?_);refine u9 (wpAny_layCells _ (λe c d=>by rfl) _ _ _ _ ?_);rw[show({t with heap:=t.heap.push {cls:=.type "dict",data:=.dict #[]}}:A0).heap.objs.size=(hz t)+1 from iV ..];refine u9 ?_;exact B9 (B9 g)
structure Im(X:Cx)(bs nb:List Str)(scope:eQ)(tg F:Expr)(Z:List Expr)(elt:Expr)(wi:TI)(g:TG)(tt:TT)(te:TE):Prop where
 c:X.calm=Uf
 b:Eh X bs nb scope
 i:PI X tg F wi
 o:Ik bs.length g
 g:∀cl C fp s H pins,PG (ph X bs nb scope cl C fp s H pins) tg g
 t:∀cl C fp s H pins,MH (ph X bs nb scope cl C fp s H pins) Z tt
 e:∀cl C fp s H pins,PE (ph X bs nb scope cl C fp s H pins) elt te
 s:∀x,foldedSetIterable F X.env x=pure x
def IZ{use:Option (t7->Sem Unit)}(M:Im c b3 d6 d9 r c8 Z e j6 j7 a7 G)(pins:List (Addr×Obj))(s:A0)(σ:St)(H:Hp)(A:VK)(I:Inv c pins σ H s)(h:sG b3 j6 j7 a7 G σ H A)(hfin:∀(D C:Addr) (s':A0) (H':Hp) (f:Flow),Inv c pins σ H' s'->A (.ref D) H'->nA c pins H' C->(∃m,s'.heap.Ns C m)->vt (model c.prog c.w) c.A c.xe use Q (.ref D) C (.ok f) s'):
  wpAny (model c.prog c.w) c.A (comprehension (.ListComp e [⟨r,c8,Z,0⟩] d9 p) d9 c.env (firstIterPos [⟨r,c8,Z,0⟩] p) (newList []) (firstAsync [⟨r,c8,Z,0⟩]) (firstIter [⟨r,c8,Z,0⟩] c.env) use) Q c.xe s:=by
 obtain⟨hc,B,hi,go,hg,ht,he,hs⟩:=M;obtain⟨cl0,hcl,c1,c2⟩:=Mv (λy hy hf=>I.ok.has y.1 (B.aS y hy hf));refine wpAny_comprehension_free rfl hs hcl B.kind B.names (K0 (hi pins s σ H _ I h) λv s1 h1=>K0 h1 λitv a h2=>?_)
 obtain⟨it,fp,tn,Jff,H2,F,M,T,st2,f2,n,W,hn,w0,turn⟩:=h2;subst F;have hlt:∀b∈fp,b<a.heap.objs.size:=λb l=>by obtain⟨o,F,_⟩:=T.obj _ _ st2 b l;exact J8 F
 refine pU (XA ?_);generalize hH2:a.heap.push {cls:=.type "list",dict:=J,data:=.seq ([]).toArray}=E;have hCs:E.objs.size=a.heap.objs.size+1:=by rw[<-hH2,iV]
 have hDC:a.heap.objs.size≠E.objs.size:=by rw[hCs];exact S8 (pR _)
 have t:a.heap.objs.size<=E.objs.size:=by rw[hCs];exact Nat.le_succ _
 have sz3:(E.push {cls:=.type "dict",data:=.dict #[]}).objs.size=E.objs.size+1:=iV ..;obtain⟨f1,f3,f4⟩:=a4s a.heap.objs.size (λx X=>c.env.cells.lookup x=U X) d9.names (E.push {cls:=.type "dict",data:=.dict #[]}) cl0 (λ_=>False) t9
  (λx X F=>⟨by obtain⟨v,q⟩:=M.cell x X (c1 x X F);rw[sz3];exact vS (O1 q.lt t),.inl ⟨c1 x X F,λz=>z⟩⟩) (λx y X e1 e2=>M.ok.inj x y X (c1 x X e1) (c1 y X e2)) λx z=>z.elim
 rw[sz3]at f1 f3 f4;generalize hcl':iG (E.objs.size+1) d9.names cl0=cl at f1 f3 f4⊢;have P:(rN (E.push {cls:=.type "dict",data:=.dict #[]}) d9.names).Ns E.objs.size (λ_=>J):=(Heap.Ns.new E (.type "dict")).keeps (pushCells_keeps _ _);have old0:∀b o,E.get? b=U o->(rN (E.push {cls:=.type "dict",data:=.dict #[]}) d9.names).get? b=U o:=λb o F=>pushCells_keeps _ _ b o (N3 _ F);generalize rN (E.push {cls:=.type "dict",data:=.dict #[]}) d9.names=h₁ at f1 P old0⊢;have old:=λb o F=>old0 b o (hH2▸N3 _ F);have hacc:=old0 _ _ (hH2▸Y8 _ rfl);have hDn:=λb l=>S8 (hlt b l);have L:Wa c d9 cl a.heap.objs.size:=⟨λx X F=>(f1 x X F).imp (λz=>⟨z.1,λy=>z.2 (.inr y)⟩) λz=>⟨z.1.resolve_left λy=>y,z.2.1⟩,λx z=>f4 x (z.elim (λz=>.inr (c2 _ z rfl)) λz=>.inl (.inr z)),f3⟩
 have nD:∀x X,cl.lookup x=U X->X≠a.heap.objs.size:=λx X F z=>by
  rcases f1 x X F with ⟨y,_⟩|⟨_,_,o,y,yd⟩
  obtain⟨v,q⟩:=M.cell x X y;exact absurd q.lt (by rw[z];exact bw _);rw[z,hacc]at y;cases y;cases yd
 have J0:=ZU (t':=a.toks) M B L (λx X F z=>(f1 x X F).elim (λy=>by obtain⟨v,q⟩:=M.cell x X y.1;exact absurd q.lt (Nat.not_lt.mpr z)) λy=>y.2.2) t f2 hlt old P
 generalize w:ph c b3 d6 d9 cl E.objs.size fp a H2 pins=O at J0;have fpB:∀{H':Hp}{pl:List (Addr×Obj)},(∀b∈fp,H' b=J)->(∀R∈pl,R.1∉fp)->∀b∈fp,nA O pl H' b:=λ{H' pl} hz N b l=>by
  subst w;refine⟨hz b l,S8 (O1 (hlt b l) t),J0.ok.Cj b l,.inl l,J0.ok.Xe b l |>.2,λR hq=>?_⟩
  rcases List.mem_append.mp hq with z|z
  exact(f2 b l).2.2.2.2.2 R z;intro F;exact N R z (F▸l)
 have Dfs:a.heap.objs.size∉O.fs:=λl=>by
  subst w;rcases List.mem_cons.mp (M.uG _ l)with z|z
  exact absurd M.lt (by rw[<-z];exact bw _);exact M.UI G8 z
 have Dcell:∀x X,c.env.cells.lookup x=U X->X≠a.heap.objs.size:=λx X F z=>by obtain⟨v,q⟩:=M.cell x X F;exact absurd q.lt (by rw[z];exact bw _)
 have Dpin:=λR N=>S8 (J8 (M.pin R N).1);have Dloc:a.heap.objs.size≠O.env.locals:=λz=>hDC (z.trans (C2 (·.env.locals) w).symm)
 have pinD:∀{σ':St}{H':Hp}{s':A0}{o:Obj},Inv O [] σ' H' s'->s'.heap.get? a.heap.objs.size=U o->H' a.heap.objs.size=J->(∀v,o.data≠.cell v)->Inv O [(a.heap.objs.size,o)] σ' H' s':=λ{σ' H' s' o} I' F hz hd=>
  I'.ly λR N=>by
   have ep:R=(a.heap.objs.size,o):=by simpa using N
   subst ep;exact⟨F,hz,Dloc,Dfs,hd⟩
 have loop:∀s₃:A0,s₃={a with heap:=h₁,toks:=a.toks} ->
   codeAny (model c.prog c.w) c.A (.compLoop (.ListComp e [⟨r,c8,Z,0⟩] d9 p) 0 (.ref it) (.ref a.heap.objs.size) (vw d9 cl E.objs.size c.env))
    (vt (model c.prog c.w) c.A c.xe use Q (.ref a.heap.objs.size) E.objs.size) s₃:=by
  rintro s₃ rfl;refine IU (λk s'=>∃(i:Nat) (ys:List V) (S:List t7) (z:Nat) (H':Hp),k=n-i+1/\i<=n/\S.length<=i/\Vals ys S/\Inv O [(a.heap.objs.size,{cls:=.type "list",data:=.seq S.toArray z})] (gN b3 σ) H' s'/\tn i s'.heap/\(∀b∈fp,H' b=J)/\W i ys H') ?_ (n-0+1)
   ⟨0,[],[],0,H2,rfl,iH _,V1 _,.nil,pinD J0 hacc (M.L3.fresh G8) (λv z=>by cases z),T.keep _ _ _ st2 λb _ o F=>old b o F,λb l=>(f2 b l).1,w0⟩
  rintro k s3 ⟨i,ys,S,z,H3,rfl,hin,hul,rv,I3,st3,fr3,w3⟩;have npl:∀R∈([(a.heap.objs.size,{cls:=.type "list",data:=.seq S.toArray z})]:List (Addr×Obj)),R.1∉fp:=λR N hm=>by
   have ep:R=(a.heap.objs.size,{cls:=.type "list",data:=.seq S.toArray z}):=by simpa using N
   subst ep;exact hDn _ hm rfl
  have eP:=(C2 (·.prog) w).symm;have eW:=(C2 (·.w) w).symm;have eK:=(C2 (·.K) w).symm;have eA:=(C2 (·.A) w).symm;have eC:=(C2 (·.calm) w).symm.trans hc;rcases turn i ys H3 w3 with ⟨stop,fin⟩|⟨gon,hlt',step⟩
  . have hd:=T.done O eP eW eK eC i _ s3 (gN b3 σ) H3 (km (model c.prog c.w) c.A (vw d9 cl E.objs.size c.env) λF s'=>vt (model c.prog c.w) c.A c.xe use Q (.ref a.heap.objs.size) E.objs.size (.error F) s') I3 (fpB fr3 npl) st3 stop;rw[eA]at hd;refine K0 hd λg s4 ⟨hr,I4⟩=>?_
    subst hr;obtain⟨m,hm,_⟩:=I4.loc;have pD:=I4.pin (a.heap.objs.size,{cls:=.type "list",data:=.seq S.toArray z}) (N1 _ (mem_singleton.mpr rfl));have hCl:O.env.locals=E.objs.size:=(C2 (·.env.locals) w).symm;have I5:Inv c pins σ H3 s4:=by
     have hun:Un (rE c.stack) fp H2 H3 a.heap s4.heap:=by have z:=I4.base;rw[<-w]at z;exact z
     exact M.a4u (I4.os.trans (C2 (·.X5.os) w).symm) hun ((C2 (λY:Cx=>G4 Y.prog Y.w H3 s4.heap) w).mpr I4.L3) I4.bare λb l=>⟨(f2 b l).2.2.2.1,(f2 b l).2.1,(f2 b l).2.2.2.2.1,(f2 b l).2.2.2.2.2⟩
    have hys:ys.length<=J4:=by rw[rv.length];lia
    refine hfin a.heap.objs.size E.objs.size s4 _ _ (I5.KO (o:=.lst ys) pD.2.1 (gx M.lt) (.inr M.sz) Dcell Dpin ⟨hys,S,z,rv,pD.1⟩) (fin _ pD.2.1) ⟨?_,gx (O1 M.lt t),M.UI t,.inr (B7 M.sz t),λx X F q=>?_,λR N q=>?_⟩ ⟨m,(hCl▸hm)⟩;rw[L8 (mH hDC)];exact(hCl▸I4.free);obtain⟨v,q2⟩:=M.cell x X F;exact absurd (O1 q2.lt (by rw[q];exact t)) (bw _);exact absurd (O1 (J8 (M.pin R N).1) (by rw[q];exact t)) (bw _)
  . have hd:=T.item O eP eW eK eC i _ s3 (gN b3 σ) H3 (km (model c.prog c.w) c.A (vw d9 cl E.objs.size c.env) λF s'=>vt (model c.prog c.w) c.A c.xe use Q (.ref a.heap.objs.size) E.objs.size (.error F) s') I3 (fpB fr3 npl) st3 gon;rw[eA]at hd;refine K0 hd λg s4 ⟨u,hr,h4⟩=>?_;subst hr;refine K0 h4 λ_ s5 ⟨x,H5,I5,r5,y5,st5,fr5⟩=>?_;have hxe:=λF s' q=>(congrFun (congrFun (C2 (·.xe) w) F) s').mpr q;have eE:=(C2 (·.env) w).symm;have w6:=(w▸hg _ _ _ _ _ _) _ s5 (gN b3 σ) H5 x u _ (I5.pinned (fpB fr5 npl) (T.obj _ _ st5)) r5 (go x (gN b3 σ) H5 _ (step x H5 y5));rw[eP,eW,eA,eE]at w6;refine cu w6 (λ_ s6 ⟨σ6,H6,I6,q6,l6,e6⟩=>?_) λ_ _ q=>(hxe _ _ q).elim;have w7:=(w▸ht _ _ _ _ _ _) _ s6 σ6 H6 _ (km (model c.prog c.w) c.A (vw d9 cl E.objs.size c.env) λF s'=>vt (model c.prog c.w) c.A c.xe use Q (.ref a.heap.objs.size) E.objs.size (.error F) s') (λ_ _ q=>(hxe _ _ q).elim) I6 q6;rw[eP,eW,eA,eE]at w7;refine K0 w7 λok s7 ⟨H7,I7,q7⟩=>?_
    have weak:∀{pl:List (Addr×Obj)}{H':Hp}{s':A0},Inv O pl σ6 H' s'->Inv O pl (gN b3 σ) H' s':=λ{pl H' s'} I'=>I'.weak l6.symm λj v hj=>by
     by_cases hjn:j<b3.length;unfold gN at hj;rw[kl (by simpa using hjn),Ic,r9 hjn]at hj;cases hj;rw[e6 j (kC hjn)];exact hj
    have unp:∀{σ':St}{H':Hp}{s':A0},Inv O ([(a.heap.objs.size,({cls:=.type "list",data:=.seq S.toArray z}))]++uN fp s5.heap) σ' H' s' ->
      (∀b∈fp,∀o,s5.heap.get? b=U o->s'.heap.get? b=U o)/\(∀b∈fp,H' b=J)/\s'.heap.get? a.heap.objs.size=U {cls:=.type "list",data:=.seq S.toArray z}/\H' a.heap.objs.size=J:=λ{σ' H' s'} I'=>by
     refine⟨λb l o F=>(I'.pin (b,o) (N1 _ (N1 _ (nW l F)))).1,λb l=>?_,?_,?_⟩;obtain⟨o,F,d⟩:=T.obj _ _ st5 b l;exact(I'.pin (b,o) (N1 _ (N1 _ (nW l F)))).2.1;exact(I'.pin (a.heap.objs.size,{cls:=.type "list",data:=.seq S.toArray z}) (N1 _ (T1 _ (mem_singleton.mpr rfl)))).1;exact(I'.pin (a.heap.objs.size,{cls:=.type "list",data:=.seq S.toArray z}) (N1 _ (T1 _ (mem_singleton.mpr rfl)))).2.1
    cases ok with
    |false=>
     obtain⟨k1,k2,k3,k4⟩:=unp I7;refine⟨n-(i+1)+1,QG (Rj _ _ hlt'),i+1,ys,S,z,H7,rfl,hlt',vQ u4,rv,pinD (weak (I7.ly λR N=>nomatch N)) k3 k4 (λv q=>by cases q),T.keep _ _ _ st5 k1,k2,?_⟩;simpa using q7
    |true=>
     have q7':G σ6 H7 λy H4=>W (i+1) (ys++[y]) H4:=by simpa using q7
     have w8:=(w▸he _ _ _ _ _ _) _ s7 σ6 H7 _ I7 q7';rw[eP,eW,eA,eE]at w8;refine cu w8 (λuy s8 ⟨y,H8,I8,r8,q8⟩=>?_) λ_ _ q=>(hxe _ _ q).elim;obtain⟨k1,k2,k3,k4⟩:=unp I8;refine append_at k3 λh9 sb9 g9=>?_;have I8':Inv O [] (gN b3 σ) H8 s8:=weak (I8.ly λR N=>nomatch N)
     have ePn:O.pn=c.pn++pins:=(C2 (·.pn) w).symm;have eCl:O.env.cells=cl:=(C2 (·.env.cells) w).symm;have I9:Inv O [] (gN b3 σ) H8 {s8 with heap:=h9}:=I8'.turned (λb o l F=>sb9.extBut b o l F) k4 Dloc (.inr (by rw[((C2 (·.X5) w).symm)];exact V1 _))
      (λx X F=>nD x X (by rw[<-eCl];exact F)) (λR N=>Dpin R (by rw[ePn]at N;simpa using N))
     refine⟨n-(i+1)+1,QG (Rj _ _ hlt'),i+1,ys++[y],S++[uy],z+1,H8,rfl,hlt',by rw[T7,HS];simp[*],rv.snoc r8,pinD I9 ?_ k4 (λv q=>by cases q),T.keep _ _ _ st5 λb l o F=>?_,k2,q8⟩;rw[g9,List.push_toArray];exact sb9.extBut b o (hDn b l) (k1 b l o F)
 exact codeAny_compStart_list (loop _ rfl) (T.self _ 0 _ _ _ (T.keep _ _ _ st2 λb _ o F=>old b o F) (loop _ rfl))
def YW(M:Im c b3 d6 d9 r c8 Z e j6 j7 a7 G):PE c (.ListComp e [⟨r,c8,Z,0⟩] d9 p) (sG b3 j6 j7 a7 G):=by
 intro pins s l H Q I h;refine IZ M pins s l H Q I h λD C a E f u q X ⟨m,z⟩=>⟨m,z,λw t=>?_⟩;exact⟨.ref D,E,u.turned (λb o j d=>t.extBut b o j d) X.1 X.2.1 X.2.2.2.1 X.2.2.2.2.1 X.2.2.2.2.2,rfl,q⟩
def YG(hN:c.N.Nodup)(A:c.N[N]?=U u)(hx:Loc c.env.scope u)(M:Im c b3 d6 d9 r c8 Z e j6 j7 a7 G)(L:autoParam (bG (.ListComp e [⟨r,c8,Z,0⟩] d9 p) (U (.Name u d3)) E.line c.env=pure Uf) w4)(hf:autoParam (Bc c u) jZ):PS c (.Assign [.Name u d3] (.ListComp e [⟨r,c8,Z,0⟩] d9 p) E) (oG (sG b3 j6 j7 a7 G) (cO N)):=by
 intro pins s g H D I h;rw[exec_Assign_Name_used _ _ _ _ L];refine u9 (GU ?_);refine u9 (u9 (K0 (IZ M pins s g H _ I h λK C s' Q f O q d ⟨m,j⟩=>?_) λ_ s' t=>B9 (B9 t)))
 obtain⟨n,es,ep,Y,P,hr⟩:=id j;have R:Inv c ((C,n)::pins) g Q s':=O.ly λa l=>by
  rcases List.mem_cons.mp l with rfl|l
  exact⟨Y,d.1,d.2.1,d.2.2.1,λv z=>by rw[P]at z;cases z⟩;exact O.pin a (N1 _ l)
 refine K0 (Jy hN A hx hf ((C,n)::pins) s' g Q (.ref K) (.ref K) D.nx R rfl q) λ_ V ⟨y,k,F,q3⟩=>?_;have M:=F.pin (C,n) (N1 _ F2);refine⟨m,⟨n,es,ep,M.1,P,hr⟩,λh'' sb=>⟨y,k,?_,q3⟩⟩;exact(F.ly λa l=>F.pin a (N1 _ (E7 _ l))).turned (λb o T X=>sb.extBut b o T X) M.2.1 d.2.1 d.2.2.2.1 d.2.2.2.2.1 d.2.2.2.2.2
section
variable{prog:N9}{w:G6}
def nP(kd:Bool)(h:Heap)(i l:Addr)(k:Nat):Prop:=match kd with
 |true=>h.IsTupleIter i l k
 |false=>h.IsListIter i l k
def uf(kd:Bool)(h:Heap)(i l:Addr)(k:Nat)(xs:Array t7):Prop:=match kd with
 |true=>h.IsTupleIter i l k/\h.IsTuple l xs
 |false=>h.IsListIter i l k/\h.IsList l xs
theorem nP.at{h':Heap}{i:Addr}(x:nP I b4 i z N)(e:∀o,b4.get? i=U o->h'.get? i=U o):nP I h' i z N:=by
 cases I;exact Heap.IsListIter.at (show b4.IsListIter i z N from x) e;exact Heap.IsTupleIter.at (show b4.IsTupleIter i z N from x) e
def nP.obj(x:nP I b4 z T N):∃o,b4.get? z=U o/\∀v,o.data≠.cell v:=by
 cases I;obtain⟨o,e,_,d⟩:=(show b4.IsListIter z T N from x);exact⟨o,e,λv a=>by rw[d]at a;cases a⟩;obtain⟨o,e,_,d⟩:=(show b4.IsTupleIter z T N from x);exact⟨o,e,λv a=>by rw[d]at a;cases a⟩
def uf.kept{h':Heap}(x:uf I b4 z T N b6)(e:∀b o,b=z\/b=T->b4.get? b=U o->h'.get? b=U o):uf I h' z T N b6:=by
 cases I;obtain⟨x,⟨o,c,r⟩⟩:=(show b4.IsListIter z T N/\b4.IsList T b6 from x);exact⟨x.at λo q=>e z o (.inl rfl) q,⟨o,e T o (.inr rfl) c,r⟩⟩;obtain⟨x,⟨o,c,r⟩⟩:=(show b4.IsTupleIter z T N/\b4.IsTuple T b6 from x);exact⟨x.at λo q=>e z o (.inl rfl) q,⟨o,e T o (.inr rfl) c,r⟩⟩
def LM(a:t.heap.IsTupleIter z T N)(e:t.heap.IsTuple T b6)(h:b6[N]?=U b5)(f:∀h',h'.IsTupleIter z T (N+1)->pI z t.heap h'->Q b5 {t with heap:=h'}):wpAny (model prog w) A (AW (.ref z)) Q b8 t:=by
 obtain⟨j,c,g,b⟩:=id a;obtain⟨k,d,_,n,dt⟩:=e;refine u9 (oe a.typeIs AZ
  (kD AZ a.typeIs RP ?_ (RQ _)))
 show wpAny _ _ (field (.ref z) 0 >>= _) _ _ t;refine u9 (ax c b rfl ?_);refine u9 (ax c b rfl ?_);refine u9 (kg d dt ?_);simp only[cA,h];refine u9 (wpAny_setField c b H9 (B9 ⟨b5,rfl,B9 (f _ ?_ (QY ..))⟩));refine⟨_,Rr _ c (Obj.isFreed_of_fields (QV b _)),(Obj.cls_mapFields ..).trans g,?_⟩;rw[QV b];rfl
def OO(j:A.handled=J)(a:t.heap.IsTupleIter z T N)(h:t.heap.IsTuple T b6)(l:b6[N]?=J)(k:∀h' e,Heap.ExtBut z t.heap h'->(∃o,h'.get? e=U o/\o.cls=.type "StopIteration")->b8 (.ref e) {t with heap:=h'}):wpAny (model prog w) A (AW (.ref z)) Q b8 t:=by
 obtain⟨m,d,p,c⟩:=id a;obtain⟨q,g,_,n,dt⟩:=h;refine u9 (oe a.typeIs AZ
  (kD AZ a.typeIs RP ?_ (RQ _)))
 show wpAny _ _ (field (.ref z) 0 >>= _) _ _ t;refine u9 (ax d c rfl ?_);refine u9 (ax d c rfl ?_);refine u9 (kg g dt ?_);simp only[cA,l];refine u9 (pG (u9 (wpAny_setField d c H9 ?_)));refine u9 ?_;refine u9 (pU ?_ (by size_fits));refine u9 (wpAny_of_eq (by rfl) ?_);refine pU ?_ (by size_fits);refine u9 (wpAny_handled ?_);rw[j];refine wpAny_throw (k _ _ (λb o f e=>?_) ⟨_,Y8 _ rfl,rfl⟩);exact N3 _ (N3 _ ((QY ..).extBut b o f e))
def nV{x:t7}(h:uf I t.heap z T N b6)(f:T≠z)(e:b6[N]?=U x)(d:∀h',nP I h' z T (N+1)->pI z t.heap h'->Q x {t with heap:=h'}):wpAny (model prog w) A (AW (.ref z)) Q b8 t:=by
 cases I;exact HY h.1 h.2 e λh' b a=>d h' b a;exact LM h.1 h.2 e λh' b a=>d h' b a
def qk(b:A.handled=J)(h:uf I t.heap z T N b6)(d:b6[N]?=J)(c:∀h' e,Heap.ExtBut z t.heap h'->(∃o,h'.get? e=U o/\o.cls=.type "StopIteration")->b8 (.ref e) {t with heap:=h'}):wpAny (model prog w) A (AW (.ref z)) Q b8 t:=by
 cases I;exact Rq b h.1 h.2 d c;exact OO b h.1 h.2 d c
def ML{k2:Bool}{ys:Array t7}{a b:t7} (D:iF z T c7 g8 i8 i9 j0) (hz:IsZip t.heap z T c7 .none) (r:X2 t.heap T (.ref g8) (.ref i8)) (v:X2 t.heap c7 a b) (h1:uf I t.heap g8 i9 N b6) (V:uf k2 t.heap i8 j0 N ys) (hx:b6[N]?=U b5) (X:ys[N]?=U i7) (hQ:∀h',IsZip h' z T c7 (aB t.heap.objs.size)->X2 h' c7 b5 i7->nP I h' g8 i9 (N + 1)->nP k2 h' i8 j0 (N + 1)->X2 h' t.heap.objs.size b5 i7 ->
   (∀c o,c≠z->c≠c7->c≠g8->c≠i8->t.heap.get? c=U o->h'.get? c=U o)->k8 (U (.ref t.heap.objs.size)) {t with heap:=h'}) :
  wpAny (model prog w) A (pB (.ref z)) k8 Q t:=by
 have O:t.TypeIs (.ref z) "zip":=⟨_,hz,rfl⟩;refine u9 (rV (oe O mP (kD mP O Az ?_ (AE _))));show wpAny _ _ (field (.ref z) 2 >>= _) _ _ _;refine u9 (ax hz rfl rfl ?_);refine u9 (ax hz rfl rfl (u9 (kg r rfl ?_)));refine u9 ?_;refine u9 (ax hz rfl rfl (B9 ?_));refine u9 (pG (u9 (ax hz rfl rfl (u9 (pW hz H9 λg1 z1 i=>?_)))));refine u9 ?_;refine u9 (u9 (Ah ?_));refine u9 (nV (h1.kept λc o l e=>i.extBut c o (by rcases l with rfl|rfl;exact D.i1z;exact D.l1z) e) D.l1i1 hx λg2 p1 m=>B9 ?_);have G:=m.extBut _ _ D.TOi1 (i.extBut _ _ D.TOz v);refine u9 (kg G rfl (u9 (HP G λg3 t3 g=>?_)))
 refine u9 (wpAny_letGo (B9 ?_));refine u9 (u9 (Ah ?_));have q2:=V.kept λc o l e=>by
  have Z:c≠z:=by rcases l with rfl|rfl;exact D.i2z;exact D.l2z
  have n2:c≠g8:=by rcases l with rfl|rfl;exact D.i12.symm;exact D.l2i1
  have W:c≠c7:=by rcases l with rfl|rfl;exact D.TOi2.symm;exact D.l2TO
  exact g.extBut c o W (m.extBut c o n2 (i.extBut c o Z e))
 refine u9 (nV q2 D.l2i2 X λg4 Y h=>B9 ?_);have B:=h.extBut _ _ D.TOi2 t3;refine u9 (kg B rfl (u9 (HP B λf q j=>?_)))
 replace q:X2 f c7 b5 i7:=q;refine u9 (wpAny_letGo (B9 (B9 (u9 (kg q rfl (u9 (wpAny_newTuple ?_)))))));have sz:f.objs.size=t.heap.objs.size:=by rw[j.1,h.1,g.1,m.1,i.1]
 have M:=j.extBut _ _ D.TOz.symm (h.extBut _ _ D.i2z.symm (g.extBut _ _ D.TOz.symm (m.extBut _ _ D.i1z.symm z1)));have k5:∀c o,c≠z->c≠c7->c≠g8->c≠i8->t.heap.get? c=U o->f.get? c=U o:=λc o d n u E e=>
  j.extBut _ _ n (h.extBut _ _ E (g.extBut _ _ n (m.extBut _ _ u (i.extBut _ _ d e))))
 refine u9 ?_;have s:IsZip (f.push {cls:=.type "tuple",data:=.seq #[b5,i7]}) z T c7 .ellipsis:=N3 _ M;refine u9 (pW s H9 λg7 z7 P=>?_);refine pW z7 H9 λK R S=>?_;have p:∀c o,c≠z->f.get? c=U o->K.get? c=U o:=λc o d e=>S.extBut _ _ d (P.extBut _ _ d (N3 _ e));have L:=gx (J8 M);have H:=S.extBut _ _ L (P.extBut _ _ L (Y8 _ rfl));rw[sz]at R H;refine B9 ⟨_,rfl,B9 ?_⟩;rw[sz];exact hQ K R (p _ _ D.TOz q) ((p1.at λo e=>j.extBut _ _ D.TOi1.symm (h.extBut _ _ D.i12 (g.extBut _ _ D.TOi1.symm e))).at λo e=>p _ o D.i1z e) ((Y.at λo e=>j.extBut _ _ D.TOi2.symm e).at λo e=>p _ o D.i2z e) H λc o d n u E e=>p c o d (k5 c o d n u E e)
def RZ{k2:Bool}{S:Addr}{ys:Array t7}(L:A.handled=J)(D:iF z c7 g8 i8 i9 j0 S)(hz:IsZip t.heap z c7 g8 .none)(u:X2 t.heap c7 (.ref i8) (.ref i9))(B:X2 t.heap g8 b5 i7)(h1:uf I t.heap i8 j0 N b6)(V:uf k2 t.heap i9 S N ys)(n:b6[N]?=J\/ys[N]?=J)(hQ:∀h',(∀c o,c≠z->c≠g8->c≠i8->c≠i9->t.heap.get? c=U o->h'.get? c=U o)->k8 J {t with heap:=h'}):
  wpAny (model prog w) A (pB (.ref z)) k8 Q t:=by
 have T:t.TypeIs (.ref z) "zip":=⟨_,hz,rfl⟩;refine u9 (rV (oe T mP (kD mP T Az ?_ (AE _))));have p:∀g e,(∀c o,c≠z->c≠g8->c≠i8->c≠i9->t.heap.get? c=U o->g.get? c=U o)->(∃o,g.get? e=U o/\o.cls=.type "StopIteration") ->
   wpAny (model prog w) A (do if <- isInstance (.ref e) (.type "StopIteration")then pure J else throw (.ref e)) k8 Q {t with heap:=g}:=λg e hk ⟨o,ho,f⟩=>
  u9 (Hu ⟨o,ho,f⟩ GX (B9 (hQ _ hk)))
 show wpAny _ _ (field (.ref z) 2 >>= _) _ _ _;refine u9 (ax hz rfl rfl ?_);refine u9 (ax hz rfl rfl (u9 (kg u rfl ?_)));refine u9 ?_;refine u9 (ax hz rfl rfl (B9 ?_));refine u9 (pG (u9 (ax hz rfl rfl (u9 (pW hz H9 λg1 H r=>?_)))));refine u9 ?_;refine u9 (u9 (Ah ?_));have M:=h1.kept λc o f e=>r.extBut c o (by rcases f with rfl|rfl;exact D.i1z;exact D.l1z) e
 cases hx:b6[N]? with
 |none=>
  refine u9 (qk L M hx λZ e i v=>?_)
  obtain⟨E,d,l⟩:=v;have O:=i _ _ D.i1z.symm H;have ne:e≠z:=λq=>by subst q;rw[O]at d;lia
  refine pW O H9 λs _ j=>p s e (λc o m _ y _ q=>j.extBut _ _ m (i _ _ y (r.extBut _ _ m q))) ⟨E,j.extBut _ _ ne d,l⟩
 |some x=>
  have hy:ys[N]?=J:=by
   rcases n with h|h
   rw[hx]at h;exact nS h;exact h
  refine u9 (nV M D.l1i1 hx λZ p1 i=>B9 ?_);have C:=i.extBut _ _ D.TOi1 (r.extBut _ _ D.TOz B);refine u9 (kg C rfl (u9 (HP C λs t3 j=>?_)))
  refine u9 (wpAny_letGo (B9 ?_));refine u9 (u9 (Ah ?_));have q2:=V.kept λc o f e=>by
   have n1:c≠z:=by rcases f with rfl|rfl;exact D.i2z;exact D.l2z
   have n2:c≠i8:=by rcases f with rfl|rfl;exact D.i12.symm;exact D.l2i1
   have Y:c≠g8:=by rcases f with rfl|rfl;exact D.TOi2.symm;exact D.l2TO
   exact j.extBut c o Y (i.extBut c o n2 (r.extBut c o n1 e))
  refine u9 (qk L q2 hy λg4 e K v=>?_)
  obtain⟨E,d,l⟩:=v;have G:=K _ _ D.i2z.symm (j.extBut _ _ D.TOz.symm (i.extBut _ _ D.i1z.symm H));have ne:e≠z:=λq=>by subst q;rw[G]at d;cases d;simp at l
  refine pW G H9 λW _ R=>p W e (λc o m X y c4 q=>R.extBut _ _ m (K _ _ c4 (j.extBut _ _ X (i.extBut _ _ y (r.extBut _ _ m q))))) ⟨E,R.extBut _ _ ne d,l⟩
end
def Qp(K:A6)(H:Hp)(a:Addr)(xs:List V):Prop:=O2 K H a xs\/ae K H a xs
def Qp.ne(I:Inv c b9 B m t)(h:Qp c.K m z L)(f:nA c b9 m T):z≠T:=by
 have d:∀{u:HO},Rd m z u->z≠T:=λ{u} r=>by
  rcases r with r|⟨o,r⟩
  exact aN r f.1;exact aN r f.1
 have X:∀{o:Obj},c.K.lookup z=U o->z≠T:=λ{o} e i=>by
  have g:=I.ok.mod.JT z o e;rcases f.2.2.2.1 with q|q
  exact I.ok.ya z o g (i▸q);exact absurd (O1 (J8 g) (B7 I.ok.uc (by simp_all))) (bw _)
 rcases h with (r|⟨o,_,_,e,_⟩)|(r|⟨o,_,_,e,_⟩)
 exact d r;exact X e;exact d r;exact X e
def JG{ys:Array t7}(f:b4.IsList z b6)(g:b4.IsTuple z ys):False:=by
 obtain⟨o,e,c,_⟩:=f;obtain⟨i,b,d,_⟩:=g;lia
def Inv.SN{ys:List V}(I:Inv c b9 B m t)(h:Qp c.K m z L)(h':Qp c.K m z ys):L=ys:=by
 rcases h with h|h<;>rcases h' with h'|h'
 exact I.yb h h';obtain⟨_,_,p,_⟩:=I.list h;obtain⟨_,_,q,_⟩:=I.tuple h';exact(JG p.isList q).elim;obtain⟨_,_,p,_⟩:=I.list h';obtain⟨_,_,q,_⟩:=I.tuple h;exact(JG p.isList q).elim;exact I.CC h h'
def Inv.wm{ch:List Addr}(I:Inv c b9 B m t)(k:∀b o,b∉ch->t.heap.get? b=U o->b4.get? b=U o)(f:∀b∈ch,nA c b9 m b):Inv c b9 B m {t with heap:=b4,toks:=N}:=by
 have d:∀b u,m b=U u->b∉ch:=λb u e z=>by rw[(f b z).1]at e;exact nE e
 refine I.step (λb j=>?_) (λb o _ _ a e _=>k b o a e) (λb o _ _ a e _=>⟨o.slots,k b o a e⟩) (λ_ _ _ _ n=>n)
  (λb o a e=>⟨o,k b o a e⟩) (λ_ _ e=>e) (λ_ _ _ e=>e) (λb A e=>⟨#[],by rw[e];rfl⟩) (λg i=>?_) (λb u e=>?_) I.bare
 obtain⟨_,x,_,p,l,h⟩:=f b j;exact⟨p,x,l,h⟩;obtain⟨o,y,w,H,r⟩:=i;exact⟨o,y,w,k _ o (λz=>(f _ z).2.1 rfl) H,r⟩
 . refine(I.L3 b u e).xN (λX v a q=>k X v ?_ q) (λ_ q=>q) λ_ _ q=>q
   rcases a with z|z
   rw[z];exact d b u e;exact d X _ z
def hJ(kd:Bool)(K:A6)(H:Hp)(a:Addr)(xs:List V):Prop:=match kd with
 |true=>ae K H a xs
 |false=>O2 K H a xs
def hJ.x{b:Bool}(h:hJ b g m z L):Qp g m z L:=by
 cases b;exact .inl h;exact .inr h
def Inv.Jg(X:Inv c b9 B m t)(h:hJ I c.K m T L)(it:nP I t.heap z T N):∃b:List t7,Vals L b/\uf I t.heap z T N b.toArray:=by
 cases I;obtain⟨b,d,p,e⟩:=X.list h;exact⟨b,d,it,p.isList⟩;obtain⟨b,d,p,e⟩:=X.tuple h;exact⟨b,d,it,p⟩
def Itz(k1 k2:Bool)(K:A6)(a b:Addr):It:=
 ⟨λi H=>∃xs ys x y,hJ k1 K H a xs/\hJ k2 K H b ys/\xs[i]?=U x/\ys[i]?=U y,
  λi H v H'=>∃p,v=.ref p/\H p=J/\∃x y,H'=upd H p (.tup [x,y])/\∀xs ys,hJ k1 K H a xs->hJ k2 K H b ys->xs[i]?=U x/\ys[i]?=U y,
  λi H=>∃xs ys,hJ k1 K H a xs/\hJ k2 K H b ys/\(xs.length<=i\/ys.length<=i)⟩
structure Xo(k1 k2:Bool)(z TI TO i1 i2 a b:Addr)(i:Nat)(h:Heap):Prop where
 hz:IsZip h z TI TO .none
 CZ:X2 h TI (.ref i1) (.ref i2)
 Ka:∃x y,X2 h TO x y
 h1:nP k1 h i1 a i
 h2:nP k2 h i2 b i
structure a3n(z TI TO i1 i2:Addr):Prop where
 TIz:TI≠z
 TOz:TO≠z
 i1z:i1≠z
 i2z:i2≠z
 TITO:TI≠TO
 TIi1:TI≠i1
 TIi2:TI≠i2
 TOi1:TO≠i1
 TOi2:TO≠i2
 i12:i1≠i2
def hJ.inj{ys:List V}(X:Inv c b9 B m t)(h:hJ I c.K m z L)(h':hJ I c.K m z ys):L=ys:=X.SN h.x h'.x
def Sn{k2:Bool}(D:a3n z T c7 g8 i8):
  Turn a9 i6 g (.Tuple Z N p) (Itz I k2 g i9 j0) [z,T,c7,g8,i8] z (λi h=>Xo I k2 z T c7 g8 i8 i9 j0 i h) where
 mem:=H9
 obj:=λi h d c f=>by
  have P:c=z\/c=T\/c=c7\/c=g8\/c=i8:=by simpa using f
  rcases P with rfl|rfl|rfl|rfl|rfl
  exact⟨_,d.hz,λv q=>by cases q⟩;exact⟨_,d.CZ,λv q=>by cases q⟩;obtain⟨x,y,e⟩:=d.Ka;exact⟨_,e,λv q=>by cases q⟩;exact d.h1.obj;exact d.h2.obj
 keep:=λi h L d C=>by obtain⟨x,y,e⟩:=d.Ka;exact⟨C z H9 _ d.hz,C T H9 _ d.CZ,⟨x,y,C c7 H9 _ e⟩,d.h1.at λo q=>C g8 H9 o q,d.h2.at λo q=>C i8 H9 o q⟩
 item:=by
  intro X S V hK f i j s Q H E a l d R;subst S V hK;obtain⟨xs,ys,x,y,r,m,ex,ey⟩:=R;obtain⟨us,rx,ox⟩:=a.Jg r d.h1;obtain⟨vs,w,Y⟩:=a.Jg m d.h2;obtain⟨u,hu,ru⟩:=rx.get ex;obtain⟨v,hv,rvv⟩:=w.get ey;obtain⟨x0,y0,B⟩:=d.Ka;have A:=l z H9;have t:=l c7 H9;have G:=l g8 H9;have M:=l i8 H9;have ZA:iF z T c7 g8 i8 i9 j0:=⟨D.TIz,D.TOz,D.i1z,D.i2z,D.TITO,D.TIi1,D.TIi2,D.TOi1,D.TOi2,D.i12,r.x.ne a A,r.x.ne a t,r.x.ne a G,r.x.ne a M,m.x.ne a A,m.x.ne a t,m.x.ne a G,m.x.ne a M⟩;refine ML ZA d.hz d.CZ B ox Y (by simpa using hu) (by simpa using hv) λL g1 g2 g3 g4 g5 O=>?_
  have hT:=a.L3.fresh G8;have I1:Inv X j Q H {s with heap:=L}:=a.wm (ch:=[z,c7,g8,i8]) (λc o f e=>O c o (λq=>f (by simp[q])) (λq=>f (by simp[q])) (λq=>f (by simp[q])) (λq=>f (by simp[q])) e)
   (λc f=>l c (by
    have P:c=z\/c=c7\/c=g8\/c=i8:=by simpa using f
    rcases P with rfl|rfl|rfl|rfl<;>simp))
  have I2:Inv X j Q (upd H s.heap.objs.size (.tup [x,y])) {s with heap:=L}:=I1.KO hT (gx a.lt) (.inr a.sz)
   (λn c e q=>by obtain⟨vv,q2⟩:=a.cell n c e;exact absurd q2.lt (by rw[q];exact bw _))
   (λk hp q=>absurd (J8 (a.pin k hp).1) (by rw[q];exact bw _))
   ⟨by show 2<=J4;rw[rP];decide,[u,v],.cons ru (.cons rvv .nil),⟨_,g5,rfl,_,rfl⟩⟩
  refine⟨_,rfl,wpAny_letOwnedTupleGo_zip g1 λh2 z2 K=>?_⟩
  have uz:∀c,c∈[z,T,c7,g8,i8]->(upd H s.heap.objs.size (.tup [x,y])) c=J:=λc f=>by
   have hlt:c<s.heap.objs.size:=by
    have P:c=z\/c=T\/c=c7\/c=g8\/c=i8:=by simpa using f
    rcases P with rfl|rfl|rfl|rfl|rfl
    exact(J8 d.hz);exact J8 d.CZ;exact J8 B;obtain⟨o,e,_⟩:=d.h1.obj;exact J8 e;obtain⟨o,e,_⟩:=d.h2.obj;exact J8 e
   rw[L8 (S8 hlt)];exact(l c f).1
  have I3:Inv X j Q (upd H s.heap.objs.size (.tup [x,y])) {s with heap:=h2}:=Inv.turned (s:={s with heap:=L}) I2 (λc o f e=>K.extBut c o f e) (uz z H9) A.2.1 A.2.2.2.1 A.2.2.2.2.1 A.2.2.2.2.2;refine⟨.ref s.heap.objs.size,_,I3,rfl,⟨_,rfl,hT,x,y,rfl,λxs' ys' b hy'=>?_⟩,⟨z2,K.extBut _ _ D.TIz (O _ _ D.TIz D.TITO D.TIi1 D.TIi2 d.CZ),⟨_,_,K.extBut _ _ D.TOz g2⟩,?_,?_⟩,uz⟩;rw[b.inj a r,hy'.inj a m];exact⟨ex,ey⟩;exact g3.at λo q=>K.extBut _ _ D.i1z q;exact g4.at λo q=>K.extBut _ _ D.i2z q
 done:=by
  intro X S V hK f i j s Q H E a l d R;subst S V hK;obtain⟨xs,ys,r,m,F⟩:=R;obtain⟨us,rx,ox⟩:=a.Jg r d.h1;obtain⟨vs,w,Y⟩:=a.Jg m d.h2;obtain⟨x0,y0,B⟩:=d.Ka;have A:=l z H9;have t:=l c7 H9;have G:=l g8 H9;have M:=l i8 H9;have ZA:iF z T c7 g8 i8 i9 j0:=⟨D.TIz,D.TOz,D.i1z,D.i2z,D.TITO,D.TIi1,D.TIi2,D.TOi1,D.TOi2,D.i12,r.x.ne a A,r.x.ne a t,r.x.ne a G,r.x.ne a M,m.x.ne a A,m.x.ne a t,m.x.ne a G,m.x.ne a M⟩;have:=rx.length;have:=w.length;refine RZ (a.ok.hd f) ZA d.hz d.CZ B ox Y ?_ λL O=>⟨rfl,?_⟩
  . rcases F with q|q
    exact .inl (by simp;simp_all);exact .inr (by simp;simp_all)
  . exact a.wm (ch:=[z,c7,g8,i8]) (λc o f e=>O c o (λq=>f (by simp[q])) (λq=>f (by simp[q])) (λq=>f (by simp[q])) (λq=>f (by simp[q])) e)
      (λc f=>l c (by
       have P:c=z\/c=c7\/c=g8\/c=i8:=by simpa using f
       rcases P with rfl|rfl|rfl|rfl<;>simp))
 self:=λ_ _ _ _ _ d h=>Ht d.hz h
set_option tactic.hygienic true
set_option tactic.hygienic false
def ExcAt(e C dx:Addr)(h:Heap):Prop:=∃vs,h.get? e=U {cls:=.ref C,dict:=U dx,data:=.fields vs}
def a4H(e C:Addr)(dx:Option Addr)(h:Heap):Prop:=∃t,h.get? e=U {cls:=.ref C,dict:=dx,data:=.fields #[.ref t,.none,.none,.none,.bool U',.none]}
def Mp(C:Addr)(fld:Str)(d:f9):f9:=.dict [(.tuple [.int (C:Nat),.str fld],d)]
structure wd(K:A6)(C:Addr):Prop where
 ga:cY K (.ref C) "__getattribute__" = U (U (.builtin "BaseException.__getattribute__"))
 gt:cY K (.ref C) "__getattr__" = U J
 hd:vR K C=Uf
 be:PySem.W.mroIn K C (.type "BaseException")=U Uf
 cl:cY K (.ref C) "__class__" = U (U (.builtin "object.__class__"))
 cg:PySem.W.specialIn K (.builtin "object.__class__") "__get__" = U (U (.builtin "getset_descriptor.__get__"))
 ct:PySem.W.takesIn K (.builtin "object.__class__")=U Uf
 ob:PySem.W.mroIn K C (.type "object")=U Uf
 n1:pJ K (.ref C) (.type "tuple")=U U'
 n2:pJ K (.ref C) (.type "list")=U U'
 n3:pJ K (.ref C) (.type "bool")=U U'
 n4:pJ K (.ref C) (.type "int")=U U'
 n5:pJ K (.ref C) (.type "str")=U U'
abbrev yg(n:String):Prop:=n = "tuple"\/n = "list"\/n = "bool"\/n = "int"\/n = "str"
theorem wd.yg(T:wd g z)(h:L2.yg l7):pJ g (.ref z) (.type l7)=U U':=by
 rcases h with rfl|rfl|rfl|rfl|rfl
 exact T.n1;exact T.n2;exact T.n3;exact T.n4;exact T.n5
section
variable{prog:N9}{w:G6}{K:A6}
def PM{ox:Obj}{a:Tok}(x:wd K T)(X:K.In t.heap)(I:Aq t.heap z ox T o9)(b:Hg K T o9 "__class__" = U (.bind (.builtin "getset_descriptor.__get__") (.builtin "object.__class__")))(h:m7 (.ok (.ret (.ref T))) t):
  codeAny (model prog w) A (.call (.builtin "BaseException.__getattribute__") ⟨[.ref z,.str "__class__" a],[]⟩) m7 t:=by
 obtain⟨c,g,d,s,e⟩:=t;refine codeAny_call_builtin F.excAttr_ValueError.ga.plain F.entry_bexc_ga ?_;refine u9 ?_;refine u9 ((I.type (M:=model prog w)).at ((PySem.W.looks_mroIn (M:=model prog w) X x.be).at ?_));repeat (first|wp_step)
 refine wpAny_loadPart_at I.at_ ?_;rw[I.cls];refine B9 (u9 ((PySem.W.looks_find (M:=model prog w) X I b).at ?_));repeat (any_goals (first|assumption|wp_step))
 refine PySem.W.class_get X I x.ob ?_;repeat (any_goals (first|assumption|wp_step))
def ZO{ox:Obj}{c:Tok}{a:Bool}(s:wd K T)(X:K.In t.heap)(x:Aq t.heap z ox T o9)(e:Hg K T o9 "__class__" = U (.bind (.builtin "getset_descriptor.__get__") (.builtin "object.__class__")))(h:Q (.ref T) t):
  wpAny (model prog w) A (getAttrBy (.ref z) (.str "__class__" c) I a) Q b8 t:=by
 obtain⟨i,g,d,E,f⟩:=t;have:=F.excAttr_ValueError.ga.bind (.ref z);have:(a&&onTheHeap (Value.builtin "BaseException.__getattribute__"))=U':=by cases a<;>rfl
 refine gz (u9 ((x.type (M:=model prog w)).at (u9 ((HQ (M:=model prog w) X s.ga).at ?_))));repeat (any_goals (first|assumption|(with_reducible refine(HQ (M:=model prog w) X s.gt).at ?_)|wp_step))
 refine PM s X x e ?_;exact B9 h
def PL{ox:Obj}{o:Obj}(E:wd K T)(X:K.In t.heap)(I:Aq t.heap z ox T (U o))(h:k8 (U (.ref T)) {t with toks:=t.toks+1}):wpAny (model prog w) A (getAttr? (.ref z) "__class__") k8 Q t:=by
 have a:Hg K T (U o) "__class__" = U (.bind (.builtin "getset_descriptor.__get__") (.builtin "object.__class__")):=PySem.W.findObj_data (by obtain⟨c,b,_⟩:=AA E.hd;rw[b];rfl) E.cl E.cg E.ct;refine u9 (wpAny_mkText (u9 (rV (ZO E X I a ?_))));exact B9 h
set_option tactic.hygienic true in
def UY(C:wd K T):PySem.W.KitX K (.ref z) (.ref T) (λh=>ExcAt z T c7 h/\∃o,h.get? c7=U o) where
 ty:=λ_ _ _ I=>by obtain⟨⟨r,d⟩,_⟩:=I;exact(PySem.W.Looks.ld d).andThen .now
 it:=λ_ _ X _=>by
  obtain⟨i,a,_⟩:=AA C.hd;unfold PySem.W.clsIn at a;split at a;rename_i p l c b f;exact λy A x t k q=>u9 (wpAny_loadPart (k _ _ (X _ _ f)) (B9 q));exact nE a
 ne:=λh v u s n w X g=>by
  obtain⟨i,a,_⟩:=AA C.hd;refine Bool.eq_false_iff.mpr λq=>?_;have e:=Value.ref.inj (beq_iff_eq.mp q);subst e;unfold PySem.W.clsIn at a;split at a;rename_i p l c b f;cases((X _ _ f).symm.trans g);exact nE a
 ca:=λX I k=>by obtain⟨⟨r,d⟩,o,m⟩:=I;exact PL C X ⟨d,rfl,rfl,m⟩ k
end
noncomputable def rp(kd:Bool)(l:Addr):Obj:=match kd with
 |true=>{cls:=.type "tuple_iterator",data:=.fields #[.ref l,.int 0 0]}
 |false=>{cls:=.type "list_iterator",data:=.fields #[.ref l,.int 0 0]}
def lK(kd:Bool)(h:Heap)(l:Addr)(xs:Array t7):Prop:=match kd with
 |true=>h.IsTuple l xs
 |false=>h.IsList l xs
theorem lK.push(x:lK I b4 z b6)(o:Obj):lK I (b4.push o) z b6:=by
 cases I;exact Heap.IsList.push (show b4.IsList z b6 from x) o;exact Heap.IsTuple.push (show b4.IsTuple z b6 from x) o
def nP.new(e:b4.get? z=U (rp I T)):nP I b4 z T 0:=by
 cases I;exact⟨_,e,rfl,rfl⟩;exact⟨_,e,rfl,rfl⟩
def wO(x:lK I t.heap z b6)(b:Q (.ref (hz t)) {t with heap:=t.heap.push (rp I z)}):wpAny (model a9 i6) A (pyIter (.ref z)) Q b8 t:=by
 cases I;exact Hz (show t.heap.IsList z b6 from x) b;exact wpAny_pyIter_tuple (show t.heap.IsTuple z b6 from x) b
abbrev Wg(k1:Bool)(h:Heap)(a:Addr):Heap:=h.push (rp k1 a)
abbrev Wf(k1 k2:Bool)(h:Heap)(a b:Addr):Heap:=(Wg k1 h a).push (rp k2 b)
noncomputable abbrev We(k1 k2:Bool)(h:Heap)(a b:Addr):Heap:=(Wf k1 k2 h a b).push {cls:=.type "tuple",data:=.seq #[.ref h.objs.size,.ref (Wg k1 h a).objs.size]}
abbrev Wd(k1 k2:Bool)(h:Heap)(a b:Addr):Heap:=(We k1 k2 h a b).push {cls:=.type "tuple",data:=.seq #[.none,.none]}
abbrev IY(k1 k2:Bool)(h:Heap)(a b:Addr):Heap:=(Wd k1 k2 h a b).push {cls:=.type "zip",data:=.fields #[.none,.bool U',.bool U',.ref (Wf k1 k2 h a b).objs.size,.ref (We k1 k2 h a b).objs.size]}
def LR(c k2:Bool)(a b:Addr)(xs ys:Array t7):
  Meets (Builtin.«zip.__new__» ⟨[.type "zip",.ref a,.ref b],[]⟩) (λ_ R s=>lK c s.heap a xs/\lK k2 s.heap b ys /\
   R (.ok (.ret (.ref (Wd c k2 s.heap a b).objs.size))) {s with heap:=IY c k2 s.heap a b}):=
 .of_wp λe w A R s h=>by
  obtain⟨m,g,d,k,j⟩:=s;obtain⟨f,i,h⟩:=h;have:=sub_zip;have l:lK k2 (Shared.heap ⟨m.push (rp c a),g,d,k,j⟩) b ys:=lK.push i _
  wp_walk using wO f,wO l
  exact⟨_,rfl,h⟩
section
variable{prog:N9}{w:G6}
def Qg{k2:Bool}{ys:Array t7} (p:lK I t.heap z b6) (q:lK k2 t.heap T ys) (h:∀h',Xo I k2 ((hz t) + 4) ((hz t) + 2) ((hz t) + 3) (hz t) ((hz t) + 1) z T 0 h' ->
   (∀c o,t.heap.get? c=U o->h'.get? c=U o)->Q (.ref ((hz t)+4)) {t with heap:=h'}) :
  wpAny (model prog w) A (call (.type "zip") [.ref z,.ref T]) Q b8 t:=by
 refine callType_new F.called_zip f5 (F.typeCall_zip_2 _ _) (F.newCall_zip_2 _ _) (λobj=>F.args_object_init_3 obj _ _) F.entry_zip_new (LR I k2 z T b6 ys) ⟨p,q,?_⟩
 have g:(Wg I t.heap z).objs.size=(hz t)+1:=iV ..;have f:(Wf I k2 t.heap z T).objs.size=(hz t)+2:=by rw[iV,g]
 have i:(We I k2 t.heap z T).objs.size=(hz t)+3:=by rw[iV,f]
 have j:(Wd I k2 t.heap z T).objs.size=(hz t)+4:=by rw[iV,i]
 have e:(IY I k2 t.heap z T).get? (Wd I k2 t.heap z T).objs.size=U _:=Y8 _ rfl;have l:(IY I k2 t.heap z T).get? (We I k2 t.heap z T).objs.size=U _:=N3 _ (Y8 _ rfl);have k:(IY I k2 t.heap z T).get? (Wf I k2 t.heap z T).objs.size=U _:=N3 _ (N3 _ (Y8 _ rfl));have n:(rp k2 T).isFreed=U':=by cases k2<;>rfl
 have E:(rp I z).isFreed=U':=by cases I<;>rfl
 have m:(IY I k2 t.heap z T).get? (Wg I t.heap z).objs.size=U _:=N3 _ (N3 _ (N3 _ (Y8 _ n)));have r:(IY I k2 t.heap z T).get? (hz t)=U _:=N3 _ (N3 _ (N3 _ (N3 _ (Y8 _ E))));rw[f,i,j]at e;rw[g,f]at k;rw[i]at l;rw[g]at m;rw[j];exact⟨⟨_,e,rfl⟩,h _ ⟨e,k,⟨_,_,l⟩,.new r,.new m⟩ λc o x=>
  N3 _ (N3 _ (N3 _ (N3 _ (N3 _ x))))⟩
end
def Sa(n:Nat):a3n (n+4) (n+2) (n+3) n (n+1):=by constructor<;>(show @Ne Nat _ _)<;>simp[*]
def Inv.dq(X:Inv c b9 B m t)(h:hJ I c.K m z L):∃b:List t7,lK I t.heap z b.toArray:=by
 cases I;obtain⟨b,_,p,_⟩:=X.list h;exact⟨b,p.isList⟩;obtain⟨b,_,p,_⟩:=X.tuple h;exact⟨b,p⟩
section
variable{Q:VK}
end
theorem Ek:∀{bs:List Bool}{us:List t7},Vals (bs.map V.bl) us->us=bs.map vA
 | [],_,.nil=>rfl
 |b::r,_,.cons h t=>by rw[Ek t];cases h;rfl
theorem qV:∀(bs:List Bool) (d:Bool),(D3 bs.length).all (λi=>bs.getD i d)=bs.all id
 | [],_=>rfl
 |b::r,d=>by rw[Y7,Rt,List.all_cons,List.all_map,List.all_cons];have:=qV r d;simp only[List.getD_cons_zero,Function.comp_def,List.getD_cons_succ,id];rw[this]
def VL:cD c (.builtin "all") (λxs H Q=>∃(p:Addr) (bs:List Bool),xs=[.ref p]/\O2 c.K H p (bs.map V.bl)/\c.A.handled=J/\Q (.bl (bs.all id)) H):=by
 intro X s w H xs M Q I r h;obtain⟨p,bs,rfl,hq,C,q⟩:=h;obtain⟨u,rfl,t⟩:=vals1 r;cases t;obtain⟨a,D,j,L⟩:=I.list hq;have k:=Ek D;refine call_all_walk (Hz j.isList ?_);have lt:p<s.heap.objs.size:=by obtain⟨o,e,_⟩:=j.isList;exact J8 e
 refine⟨s.heap.objs.size,_,_,_,_,_,λi=>bs.getD i U',rfl,Walks.list (A:=c.A.in1) C s.heap.objs.size p (S8 lt) a.toArray,⟨⟨_,Y8 _ rfl,rfl,rfl⟩,j.isList.push _⟩,?_,λF G B=>?_⟩
 . intro i v s' l E x d;have e:(bs.map vA)[i]?=U v:=by rw[<-k];simpa using x
   rw[M9]at e;cases eb:bs[i]? with
   |none=>rw[eb]at e;exact nE e
   |some b=>
    rw[eb]at e;cases e;have:bs.getD i U'=b:=by rw[lX,eb];rfl
    have g:l b s':=by rw[<-this];exact d
    exact sk g
 . have m:a.toArray.size=bs.length:=by rw[k];simp
   rw[m,qV];refine⟨.bl (bs.all id),H,?_,rfl,q⟩;have y:Inv c X w H {s with heap:=s.heap.push {cls:=.type "list_iterator",data:=.fields #[.ref p,.int 0 0]}}:=I.kept λb o e=>N3 _ e;have f:=I.ye G8 (I.L3.fresh (V1 s.heap.objs.size));exact Inv.turned y (λb o z e=>B b o (by simpa using z) e) f.1 f.2.1 f.2.2.2.1 f.2.2.2.2.1 f.2.2.2.2.2
structure Bt(m:Nat)(i:Int):Prop where
 lt:i.natAbs<2^m
def Bt.mono{m n:Nat}(h:Bt m S)(a:m<=n):Bt n S:=⟨O1 h.lt (AM f5 a)⟩
def Bt.of_le(h:Bt N h8)(a:S.natAbs<=h8.natAbs):Bt N S:=⟨mV a h.lt⟩
def Bt.neg(h:Bt N S):Bt N (-S):=h.of_le C4
def Bt.mul{n:Nat}(h:Bt N S)(h':Bt n h8):Bt (N+n) (S*h8):=⟨by
 rw[fx,Nat.pow_add];exact Nat.mul_lt_mul'' h.lt h'.lt⟩
def Bt.add(h:Bt N S)(h':Bt N h8):Bt (N+1) (S+h8):=⟨by
 have:=h.lt;have:=h'.lt;omega⟩
def Bt.sub(h:Bt N S)(h':Bt N h8):Bt (N+1) (S-h8):=by exact h.add h'.neg
theorem Bt.fdiv{j:Int}(h:Bt N S):Bt N (S.fdiv j):=h.of_le (Ri S j)
def Bt.small(b : -(2^62)<S)(a:S<2^62):Bt 62 S:=⟨by omega⟩
def Bt.a4h(h:Bt N S)(h':Bt d2 h8)(a:N+d2<=134217728):IntMulOk S h8:=IntMulOk.of_le (intBits_le_iff.mpr h.lt) (intBits_le_iff.mpr h'.lt) a
section
variable{X:Cx}
def Zd:Y9 X (aD .Mult) (rI (λi j=>Bt 60000 i/\Bt 60000 j) λi j=>.int (i*j)):=Oq λi j _ _ _ _ _ a q=>mul_int q (a.1.a4h a.2 f5)
def Uw:Y9 X (aD .FloorDiv) (rI (λ_ j=>j≠0/\Bt 8000 j) λi j=>.int (i.fdiv j)):=Oq λi j _ _ _ _ _ a q=>floordiv_int a.1 q (.inl (PyProof.noPylong_of_log2 (by
 have b:j.natAbs≠0:=by have:=a.1;simp[*]
 have:=(Nat.log2_lt b).mpr a.2.lt;exact nI)))
def fnD(nm:Str):f9:=.dict [(.str nm,.none)]
def a5S:Str:=⟨#[0]⟩
def Me:f9->Bool
 | .dict [(.str _,.none)]=>Uf
 | .dict [(.tuple [.str _,.list _],.tuple _)]=>Uf
 | .dict [(.list _,_)]=>Uf
 |_=>U'
def BX(nm:Str)(ns:List Str)(l:List f9):f9:=.dict [(.tuple [.str nm,.list (ns.map .str)],.tuple l)]
def Mr(ks:List Str)(l:List f9):f9:=.dict [(.list (ks.map .str),.tuple l)]
noncomputable def jR:Key->f9
 | .inl i=>.int i
 | .inr x=>.str x
def W7(k:List Key):f9:=.dict [(.list (k.map jR),.none)]
def Cm(ks:List (List Key))(l:List f9):f9:=.dict [(.list (ks.map λk=>.tuple (k.map jR)),.list l)]
mutual
inductive Dt(K:A6)(H:Hp):V->f9->Prop
 |non:Dt K H .non .none
 |bl (b):Dt K H (.bl b) (.bool b)
 |int (i):Dt K H (.int i) (.int i)
 |str (x):Dt K H (.str x) (.str x)
 |tup {a xs ds}:ae K H a xs->E9 K H xs ds->Dt K H (.ref a) (.tuple ds)
 |lst {a xs ds}:O2 K H a xs->E9 K H xs ds->Dt K H (.ref a) (.list ds)
 |exc {ea C dx fld v d}:wd K C->cY K (.ref C) fld=U J->H ea=U (.ext (ExcAt ea C dx))->H dx=U (.xd [(fld,v)])->Dt K H v d->Dt K H (.ref ea) (Mp C fld d)
 |fn {f nm}:(gu K aQ nm=U (U (.ref f))\/nm=a5S)->Dt K H (.ref f) (fnD nm)
 |ins {a C dx fv nm ns vs l}:gu K aQ nm=U (U (.ref C))->H a=U (.ins C dx fv)->fv=ns.zip vs->E9 K H vs l->Dt K H (.ref a) (BX nm ns l)
 |key {a k}:H a=U (.tup (k.map kV))->Dt K H (.ref a) (W7 k)
 |dtt {a kvs ks vs l}:H a=U (.dT kvs)->ks.length=vs.length->kvs=ks.zip vs->E9 K H vs l->Dt K H (.ref a) (Cm ks l)
 |dct {a kvs ks vs l}:H a=U (.dK kvs)->kvs=(ks.map iE).zip vs->E9 K H vs l->Dt K H (.ref a) (Mr ks l)
inductive E9(K:A6)(H:Hp):List V->List f9->Prop
 |nil:E9 K H [] []
 |cons {x xs d ds}:Dt K H x d->E9 K H xs ds->E9 K H (x::xs) (d::ds)
end
def w9.hV(e:w9 m o)(h:ae g m z L):ae g o z L:=by
 rcases h with (h|⟨K,h⟩)|h
 exact .inl (.inl (e _ _ h));exact .inl (.inr ⟨K,e _ _ h⟩);exact .inr h
def w9.new(h:m z=J):w9 m (upd m z m5):=λb u e=>by rw[L8 (aN e h)];exact e
mutual
theorem Dt.same{K:A6}{H H':Hp}(e:w9 H H'){x:V}{d:f9}(h:Dt K H x d):Dt K H' x d:=by
 cases h with
 |non=>exact .non
 |bl b=>exact .bl b
 |int i=>exact .int i
 |str x=>exact .str x
 |tup h t=>exact .tup (e.hV h) (E9.same e t)
 |lst h t=>exact .lst (e.seq h) (E9.same e t)
 |exc c n a f t=>exact .exc c n (e _ _ a) (e _ _ f) (Dt.same e t)
 |fn h=>exact .fn h
 |ins a f g t=>exact .ins a (e _ _ f) g (E9.same e t)
 |dct a f t=>exact .dct (e _ _ a) f (E9.same e t)
 |key h=>exact .key (e _ _ h)
 |dtt a f g t=>exact .dtt (e _ _ a) f g (E9.same e t)
theorem E9.same{K:A6}{H H':Hp}(e:w9 H H'){xs:List V}{ds:List f9}(h:E9 K H xs ds):E9 K H' xs ds:=by
 cases h with
 |nil=>exact .nil
 |cons h t=>exact .cons (Dt.same e h) (E9.same e t)
end
theorem E9.length{K:A6}{H:Hp}{xs:List V}{ds:List f9}(h:E9 K H xs ds):xs.length=ds.length:=by
 induction ds generalizing xs with
 |nil=>cases h;rfl
 |cons _ _ i=>cases h with
  |cons _ t=>exact C2 (· + 1) (i t)
def E9.get{i:Nat}(h:E9 g m L M)(e:M[i]?=U i3):∃x,L[i]?=U x/\Dt g m x i3:=by
 induction M generalizing L i with
 |nil=>exact nE e
 |cons _ _ j=>cases h with
  |cons a t=>cases i with
   |zero=>cases e;exact⟨_,rfl,a⟩
   |succ i=>exact(j (i:=i) t e :)
mutual
theorem Inv.reads{pins:List (Addr×Obj)}{m:St}{H:Hp}{s:A0}(I:Inv X pins m H s){x:V}{u:t7}{d:f9}(h:Dt X.K H x d)(r:RelV x u)(a:d.canLay0=Uf):∃as,Reads s.heap u d as:=by
 cases h with
 |non=>cases r;exact⟨_,.none⟩
 |bl b=>cases r;exact⟨_,.bool b⟩
 |int i=>obtain⟨t,rfl⟩:=r;exact⟨_,.int i t⟩
 |str y=>obtain⟨t,rfl⟩:=r;exact⟨_,.str y t⟩
 |tup h t=>
  cases r;obtain⟨g,k,⟨o,e,c,n,f⟩,_⟩:=I.tuple h;obtain⟨as,j⟩:=Inv.readsAll I t k (by assumption);exact⟨_,.tuple e c f (by omega)⟩
 |lst h t=>
  cases r;obtain⟨g,k,l,_⟩:=I.list h;obtain⟨o,e,c,n,f⟩:=l.isList;obtain⟨as,j⟩:=Inv.readsAll I t k (by assumption);exact⟨_,.list e c f (by omega)⟩
 |exc _ _ _ _ _=>rw[Mp,ke]at a;exact nT a
 |fn _=>rw[fnD,ke]at a;exact nT a
 |ins _ _ _ _=>rw[BX,ke]at a;exact nT a
 |dct _ _ _=>rw[Mr,ke]at a;exact nT a
 |key _=>rw[W7,ke]at a;exact nT a
 |dtt _ _ _ _=>rw[Cm,ke]at a;exact nT a
theorem Inv.readsAll{pins:List (Addr×Obj)}{d:St}{H:Hp}{s:A0}(I:Inv X pins d H s){xs:List V}{us:List t7}{ds:List f9}(h:E9 X.K H xs ds)(r:Vals xs us)(a:gP ds=Uf):∃as,ReadsAll s.heap us ds as:=by
 cases h with
 |nil=>cases r;exact⟨_,.nil⟩
 |cons h t=>
  cases r with
  |cons r e=>
   rw[gP,pP]at a;obtain⟨as,b⟩:=Inv.reads I h r a.1;obtain⟨bs,c⟩:=Inv.readsAll I t e a.2;exact⟨_,.cons b c⟩
end
def a2d(g:X.A.units+64<U0):Y9 X (bp .Eq) (λx y H Q=>∃d e,Dt X.K H x d/\Dt X.K H y e/\aR d=Uf/\aR e=Uf/\Q (.bl (aw d e)) H):=by intro b s o H x y v u Q I j i h;obtain⟨d,e,l,m,c,a,q⟩:=h;obtain⟨n,f⟩:=I.reads l j (AN c);obtain⟨bs,k⟩:=I.reads m i (AN a);exact eq_dataH f k c a g ⟨.bl _,H,I,rfl,q⟩
def a1Z(g:X.A.units+64<U0):Y9 X (bp .NotEq) (λx y H Q=>∃d e,Dt X.K H x d/\Dt X.K H y e/\aR d=Uf/\aR e=Uf/\Q (.bl (!PyData.eqv d e)) H):=by intro b s o H x y v u Q I j i h;obtain⟨d,e,l,m,c,a,q⟩:=h;obtain⟨n,f⟩:=I.reads l j (AN c);obtain⟨bs,k⟩:=I.reads m i (AN a);exact ne_dataH f k c a g ⟨.bl _,H,I,rfl,q⟩
end
def a0C:f9->String
 | .none=>"NoneType"
 | .bool _=>"bool"
 | .int _=>"int"
 | .str _=>"str"
 | .tuple _=>"tuple"
 | .list _=>"list"
 |_=>"dict"
def Pn(d:f9)(n:String):Bool:=a0C d==n||(a0C d=="bool"&&n=="int")
def lA:∀{t n:String},(t = "NoneType"\/t = "bool"\/t = "int"\/t = "str"\/t = "tuple"\/t = "list")->yg n->pJ g (.type t) (.type n)=U (t==n||(t=="bool"&&n=="int")):=by intro t n b a;rcases b with rfl|rfl|rfl|rfl|rfl|rfl<;>rcases a with rfl|rfl|rfl|rfl|rfl<;>first|rfl|decide +kernel
section
set_option tactic.hygienic true in
def VJ:cD c (.builtin "isinstance") (λxs H Q=>∃x n d,xs=[x,.ty n]/\Dt c.K H x d/\Me d=U'/\yg n/\Q (.bl (Pn d n)) H):=by
 intro k s G H xs S Q I r h;obtain⟨x,n,d,rfl,L,f,g,q⟩:=h;obtain⟨u,X,rfl,j,B⟩:=vals2 r;cases B;have a:∀l,EP c k G Q (.bool (Pn d n)) {s with toks:=l}:=λl=>⟨.bl _,H,I.tok l,rfl,q⟩
 cases L with
 |non=>cases j;exact pM PySem.W.kitx_none I.iu mL (lA H9 g) (λz=>nomatch z) a
 |bl b=>cases j;exact pM PySem.W.kitx_bool I.iu mL (lA (.inr (.inl rfl)) g) (λz=>nomatch z) a
 |int i=>obtain⟨t,rfl⟩:=j;exact pM PySem.W.kitx_int I.iu mL (lA f5 g) (λz=>nomatch z) a
 |str y=>obtain⟨t,rfl⟩:=j;exact pM PySem.W.kitx_str I.iu mL (lA f5 g) (λz=>nomatch z) a
 |tup h t=>
  cases j;obtain⟨p,D,⟨o,e,X,n,N⟩,_⟩:=I.tuple h;exact pM PySem.W.kitx_tuple I.iu ⟨o,e,X⟩ (lA f5 g) (λz=>nomatch z) a
 |lst h t=>
  cases j;obtain⟨p,D,F,_⟩:=I.list h;obtain⟨o,e,X,n,N⟩:=F.isList;exact pM PySem.W.kitx_list I.iu ⟨o,e,X⟩ (lA f5 g) (λz=>nomatch z) a
 |exc X R w A t=>
  rename_i Z C V m v d;cases j;obtain⟨P,⟨E,T,Y,O,_⟩,_⟩:=I.L3 _ _ A;have M:Pn (Mp C m d) n=U':=by rcases g with rfl|rfl|rfl|rfl|rfl<;>rfl
  rw[M]at a;exact pM (UY X) I.iu ⟨(I.L3 _ _ w).1,E,O⟩ (X.yg g) (λz=>nomatch z) a
 |fn _=>exact nF f
 |ins _ _ _ _=>exact nF f
 |dct _ _ _=>exact nF f
 |key _=>exact nF f
 |dtt _ _ _ _=>exact nF f
end
section
variable{prog:N9}{w:G6}
def DF{lo i:Option Int}(a:iA t.heap z b6)(hs:t.heap.IsSliceOf T b5 i7 .none)(pl:iB b5 lo)(k:iB i7 i)(j:HT.R4 b6.size 0 lo=0/\HT.R4 b6.size b6.size i=b6.size)(h:Q (.ref z) t):wpAny (model prog w) A (iC (.ref z) (.ref T)) Q b8 t:=by
 obtain⟨l,d,c,m⟩:=id hs;have b:t.TypeIs (.ref T) "slice":=⟨l,d,c⟩;delta iC;try with_reducible refine gz ?_
 first|refine u9 (B9 ?_)|skip
 refine u9 (wpAny_sequenceKey a.typeIs f5 ?_);refine u9 (oe a.typeIs Bb (kD Bb a.typeIs entry_tuple_getitem ?_ (args_tuple_getitem _ _)));show wpAny _ _ (RL (.ref z) >>= _) _ _ t;refine u9 (tupleItemsOf_ a (u9 (vH b ?_)));refine u9 (HT.oJ hs pl k ?_);rw[j.1,j.2];show wpAny _ _ (if ((0)==0&&1==1&&(b6.size-0)==b6.size)=Uf then _ else _) _ _ t
 rw[r9 F5];refine u9 (u9 (vH a.typeIs (B9 ?_)));first
  |exact u9 (pG (u9 (B9 ⟨_,rfl,B9 h⟩)))
  |exact u9 (pG (B9 ⟨_,rfl,B9 h⟩))
  |exact u9 (pG (u9 (B9 (B9 ⟨_,rfl,B9 h⟩))))
def ZS{ws:List t7}(x:iA t.heap z j2.toArray)(u:iA t.heap T ws.toArray)(m:j2=[])(h:Q (.ref T) t):wpAny (model prog w) A (aD .Add (.ref z) (.ref T)) Q b8 t:=by
 obtain⟨⟨v,q,k,r⟩,i,l,n,o⟩:=id x;obtain⟨⟨j,e,g,c⟩,a,f,p,d⟩:=id u;subst l o f d;exact Ae ⟨_,i,rfl⟩ ⟨_,a,rfl⟩ Hw GS Ia Ib (Ig _ _)
  (tuple_addW0 z T j2.toArray ws.toArray n p q e r c (by simp[m])) ⟨i,a,h⟩
end
inductive PF where
 |dat (d:f9)
 |own (l:List f9)
 |dct (es:List (Str×f9))
variable{i4:List (Str×PF)}{j8:PF}
inductive OD where
 |dct (es:List (Str×f9))
 |ins (nm:Str) (fs:List (Str×PF))
 |seq (b:Bool) (fs:List (Str×PF))
inductive PV where
 |dat (d:f9)
 |own (l:List f9)
 |ob (w:Option Addr) (c:OD)
variable{i5:PV}{l9:f9->f9->Option PV}{m4:List PV}{p7:f9->Option PV}
abbrev sd(d:f9):Option PV:=U (.dat d)
noncomputable def PF.d:PF->f9
 | .dat d=>d
 | .own l=>.list l
 | .dct es=>Mr (es.map (·.1)) (es.map (·.2))
noncomputable def OD.d:OD->f9
 | .dct es=>Mr (es.map (·.1)) (es.map (·.2))
 | .ins nm fs=>BX nm (fs.map (·.1)) (fs.map λf=>f.2.d)
 | .seq Uf fs=>.list (fs.map λf=>f.2.d)
 | .seq U' fs=>.tuple (fs.map λf=>f.2.d)
def PV.d:PV->f9
 | .dat d=>d
 | .own l=>.list l
 | .ob _ c=>c.d
@[simp] theorem PV.xc(d:f9):(PV.dat d).d=d:=rfl
@[simp] theorem PV.Mt(l:List f9):(PV.own l).d=.list l:=rfl
abbrev Ds:=List (Option PV)
variable{y:Ds}
abbrev DV:=Ds->Option PV
variable{D d5:DV}
abbrev DB:=Ds->Option Bool
variable{a6:DB}
abbrev DL:=Ds->Option (List f9)
variable{a2:DL}
abbrev DD:=Ds->Option Ds
variable{n8:f9->DD}{p8:List f9->DD}
abbrev FV:=List f9->Option PV
variable{m2:FV}
abbrev As:=List (Option Addr)
variable{q j1:As}
def D1(H:Hp)(as:As)(O:List Addr):Hp:=λb=>if b∈O\/U b∈as then J else H b
set_option tactic.hygienic true in
def G5:D1 m q O z=U m5↔(z∉O/\U z∉q/\m z=U m5):=by
 delta D1;split;rename_i h;constructor;intro b;exact nE b;rintro⟨a,c,_⟩;exact(h.elim a c).elim;rename_i h;constructor;intro b;exact⟨λH=>h (.inl H),λH=>h (.inr H),b⟩;rintro⟨_,_,b⟩;exact b
def gj(e:∀b H,b∉O->U b∉q->m b=U H->b∉j4/\U b∉j1/\o b=U H):w9 (D1 m q O) (D1 o j1 j4):=λb H h=>by obtain⟨d,f,g⟩:=G5.mp h;exact G5.mpr (e b H d f g)
def Q7(e:w9 m o):w9 (D1 m q O) (D1 o q O):=gj λb H a c d=>⟨a,c,e b H d⟩
def bj(e:w9 m o)(h:∀b,U b∈j1->U b∈q):w9 (D1 m q O) (D1 o j1 O):=gj λb H c d f=>⟨c,λz=>d (h b z),e b H f⟩
def D9:w9 (D1 m q O) m:=λb o h=>(G5.mp h).2.2
def rC{bs:As}:D1 m (bs++q) O=D1 m bs (O++q.filterMap id):=by
 funext b
 delta D1;have:(b∈O\/U b∈bs++q)↔(b∈O++q.filterMap id\/U b∈bs):=by
  simp only[kz,HI];constructor;rintro(h|h|h);exact .inl (.inl h);exact .inr h;exact .inl (.inr ⟨_,h,rfl⟩);rintro((h|⟨x,h,e⟩)|h);exact .inl h;subst e;exact .inr (.inr h);exact .inr (.inl h)
 by_cases c:b∈O\/U b∈bs++q;rw[r9 c,r9 (this.mp c)];rw[s9 c,s9 (λz=>c (this.mpr z))]
def Cell(u:HO):Prop:=(∃xs,u=.lst xs)\/(∃kvs,u=.dK kvs)\/∃C dx fv,u=.ins C dx fv
abbrev Cl:={u:HO // Cell u}
def Cl.l(xs:List V):Cl:=⟨.lst xs,.inl ⟨xs,rfl⟩⟩
def Cl.d(kvs:List (Key×V)):Cl:=⟨.dK kvs,.inr (.inl ⟨kvs,rfl⟩)⟩
def Cl.i(C dx:Addr)(fv:List (Str×V)):Cl:=⟨.ins C dx fv,.inr (.inr ⟨C,dx,fv,rfl⟩)⟩
def Ij(K:A6)(Hv:Hp):List (Key×V)->List (Str×f9)->Prop:=Paired λ(p:Key×V) (q:Str×f9)=>p.1=.inr q.1/\Dt K Hv p.2 q.2
theorem Ij.same{K:A6}{H H':Hp}{a:List (Key×V)}{es:List (Str×f9)}(e:w9 H H')(h:Ij K H a es):Ij K H' a es:=by
 induction h with
 |nil=>exact .nil
 |cons h t b=>exact .cons ⟨h.1,h.2.same e⟩ b
inductive T5(K:A6)(Hv H:Hp):List (Str×V)->List (Str×PF)->List Addr->Prop
 |nil:T5 K Hv H [] [] []
 |dat {n x d fv fs R}:Dt K Hv x d->T5 K Hv H fv fs R->T5 K Hv H ((n,x)::fv) ((n,.dat d)::fs) R
 |own {n a xs l fv fs R}:H a=U (.lst xs)->E9 K Hv xs l->a∉R->T5 K Hv H fv fs R->T5 K Hv H ((n,.ref a)::fv) ((n,.own l)::fs) (a::R)
 |dct {n a kvs es fv fs R}:H a=U (.dK kvs)->Ij K Hv kvs es->a∉R->T5 K Hv H fv fs R->T5 K Hv H ((n,.ref a)::fv) ((n,.dct es)::fs) (a::R)
def ny(K:A6)(Hv H:Hp)(v:Addr)(R:List Addr):OD->Prop
 | .dct es=>∃kvs,R=[v]/\H v=U (.dK kvs)/\Ij K Hv kvs es
 | .ins nm fs=>∃C dx fv R',R=v::R'/\gu K aQ nm=U (U (.ref C))/\H v=U (.ins C dx fv)/\T5 K Hv H fv fs R'
 | .seq Uf fs=>∃fv R',R=v::R'/\v∉R'/\H v=U (.lst (fv.map (·.2)))/\T5 K Hv H fv fs R'
 | .seq U' fs=>∃fv,Hv v=U (.tup (fv.map (·.2)))/\T5 K Hv H fv fs R
section
variable{K:A6}
theorem T5.same{Hv:Hp}{Hv':Hp}{H:Hp}{H':Hp}{R:List Addr}{fv:List (Str×V)}{fs:List (Str×PF)}(e:w9 Hv Hv')(h:T5 K Hv H fv fs R):(∀b∈R,∀o,H b=U o->H' b=U o)->T5 K Hv' H' fv fs R:=by
 induction h with
 |nil=>exact λ_=>.nil
 |dat j t c=>exact λa=>.dat (j.same e) (c a)
 |own f g i t c=>exact λa=>.own (a _ F2 _ f) (g.same e) i (c λb d=>a b (E7 _ d))
 |dct f g i t c=>exact λa=>.dct (a _ F2 _ f) (g.same e) i (c λb d=>a b (E7 _ d))
def T5.at(h:T5 K m o j5 i4 O):∀b∈O,∃u:HO,((∃xs,u=.lst xs)\/∃e,u=.dK e)/\o b=U u:=by
 induction h with
 |nil=>exact λb a=>absurd a F5
 |dat i t c=>exact c
 |own d f g t c=>
  intro b a;rcases List.mem_cons.mp a with rfl|a
  exact⟨_,.inl ⟨_,rfl⟩,d⟩;exact c b a
 |dct d f g t c=>
  intro b a;rcases List.mem_cons.mp a with rfl|a
  exact⟨_,.inr ⟨_,rfl⟩,d⟩;exact c b a
theorem ny.same{Hv:Hp}{Hv':Hp}{H:Hp}{H':Hp}{v:Addr}{R:List Addr}{c:OD}(e:w9 Hv Hv')(f:∀b∈R,∀o,H b=U o->H' b=U o)(h:ny K Hv H v R c):ny K Hv' H' v R c:=by
 cases c with
 |dct n=>obtain⟨k,rfl,a,d⟩:=h;exact⟨k,rfl,f _ F2 _ a,d.same e⟩
 |ins p fs=>
  obtain⟨C,m,g,l,rfl,j,a,d⟩:=h;exact⟨C,m,g,l,rfl,j,f _ F2 _ a,d.same e λb i=>f b (E7 _ i)⟩
 |seq b fs=>
  cases b with
  |true=>
   obtain⟨g,l,rfl,j,a,d⟩:=h;exact⟨g,l,rfl,j,f _ F2 _ a,d.same e λb i=>f b (E7 _ i)⟩
  |false=>obtain⟨g,a,d⟩:=h;exact⟨g,e _ _ a,d.same e f⟩
theorem ny.at{Hv:Hp}{H:Hp}{v:Addr}{R:List Addr}{c:OD}(h:ny K Hv H v R c):∀b∈R,∃u:Cl,H b=U u.1:=by
 cases c with
 |dct q=>
  obtain⟨n,rfl,j,f⟩:=h;intro b a;rw[mem_singleton.mp a];exact⟨Cl.d n,j⟩
 |ins r fs=>
  obtain⟨C,o,k,m,rfl,p,j,f⟩:=h;intro b a;rcases List.mem_cons.mp a with rfl|a
  exact⟨Cl.i C o k,j⟩;obtain⟨u,h|h,e⟩:=f.at b a;exact⟨⟨u,.inl h⟩,e⟩;exact⟨⟨u,.inr (.inl h)⟩,e⟩
 |seq t fs=>
  have g:∀{k m},T5 K Hv H k fs m->∀b∈m,∃u:Cl,H b=U u.1:=λf b a=>by
   obtain⟨u,h|h,e⟩:=f.at b a;exact⟨⟨u,.inl h⟩,e⟩;exact⟨⟨u,.inr (.inl h)⟩,e⟩
  cases t with
  |true=>
   obtain⟨k,m,rfl,p,j,f⟩:=h;intro b a;rcases List.mem_cons.mp a with rfl|a
   exact⟨Cl.l _,j⟩;exact g f b a
  |false=>obtain⟨k,j,f⟩:=h;exact g f
def JS{es:List (Str×f9)}(h:Ij K m o7 es):o7=((es.map (·.1)).map iE).zip (o7.map (·.2))/\E9 K m (o7.map (·.2)) (es.map (·.2)):=by
 induction h with
 |nil=>exact⟨rfl,.nil⟩
 | @cons p q c d h t b=>
  refine⟨?_,.cons h.2 b.2⟩;rw[E8,E8,E8,lW,<-b.1,<-h.1]
def T5.dts(h:T5 K m d8 j5 i4 O)(e:w9 m o)(a:∀b∈O,∀R,d8 b=U R->o b=U R):j5=(i4.map (·.1)).zip (j5.map (·.2))/\E9 K o (j5.map (·.2)) (i4.map λf=>f.2.d):=by
 induction h with
 |nil=>exact⟨rfl,.nil⟩
 |dat p t c=>
  obtain⟨g,i⟩:=c a;refine⟨?_,.cons (p.same e) i⟩;rw[E8,E8,lW,<-g]
 |own l j n t c=>
  obtain⟨g,i⟩:=c λb k=>a b (E7 _ k);refine⟨?_,.cons (.lst (O2.of (a _ F2 _ l)) (j.same e)) i⟩;rw[E8,E8,lW,<-g]
 |dct l j n t c=>
  obtain⟨g,i⟩:=c λb k=>a b (E7 _ k);obtain⟨H,k2⟩:=JS j;refine⟨?_,.cons (.dct (a _ F2 _ l) H (k2.same e)) i⟩;rw[E8,E8,lW,<-g]
def ny.dt{c:OD}(h:ny K m d8 z O c)(e:w9 m o)(g:∀b∈O,∀v,d8 b=U v->o b=U v):Dt K o (.ref z) c.d:=by
 cases c with
 |dct q=>
  obtain⟨H,rfl,a,f⟩:=h;obtain⟨i,k2⟩:=JS f;exact .dct (g _ F2 _ a) i (k2.same e)
 |ins r fs=>
  obtain⟨C,p,k,n,rfl,l,a,f⟩:=h;obtain⟨i,k2⟩:=f.dts e λb j=>g b (E7 _ j);exact .ins l (g _ F2 _ a) i k2
 |seq b fs=>
  cases b with
  |true=>
   obtain⟨k,n,rfl,l,a,f⟩:=h;obtain⟨i,k2⟩:=f.dts e λb j=>g b (E7 _ j);exact .lst (O2.of (g _ F2 _ a)) k2
  |false=>
   obtain⟨k,a,f⟩:=h;obtain⟨i,k2⟩:=f.dts e g;exact .tup (ae.of (e _ _ a)) k2
end
def cT(K:A6)(O:List Addr)(as:As)(H:Hp)(si:Option (Option V))(rg:List Addr):PV->Prop
 | .dat d=>∃v,si=U (U v)/\Dt K (D1 H as O) v d
 | .own l=>∃a xs,si=U (U (.ref a))/\a∈rg/\H a=U (.lst xs)/\E9 K (D1 H as O) xs l
 | .ob w c=>∃v R,si=U (U (.ref v))/\(w=J\/w=U v)/\(∀b∈R,b∈rg)/\ny K (D1 H as O) H v R c
structure DS(K:A6)(O:List Addr)(F6:Hp)(as:As)(σ:St)(H:Hp)(ds:Ds):Prop where
 ls:σ.length=ds.length
 same:w9 F6 H
 new:∀a,U a∈as->F6 a=J/\∃u:Cl,H a=U u.1
 fT:∀a∈O,∃o,F6 a=U o
 jx:∃rg:Nat->List Addr,(∀i b,b∈rg i->U b∈as)/\(∀i j b,b∈rg i->b∈rg j->i=j)/\∀(i:Nat) (pv:PV),ds[i]?=U (U pv)->cT K O as H σ[i]? (rg i) pv
def ME(K:A6)(O:List Addr)(as:As)(H:Hp)(si:Option (Option V)):PV->Prop
 | .dat d=>∃v,si=U (U v)/\Dt K (D1 H as O) v d
 | .own l=>∃a xs,si=U (U (.ref a))/\U a∈as/\H a=U (.lst xs)/\E9 K (D1 H as O) xs l
 | .ob w c=>∃v R,si=U (U (.ref v))/\(w=J\/w=U v)/\(∀b∈R,U b∈as)/\ny K (D1 H as O) H v R c
def DS.slot(S:DS g O m q B o y)(i:Nat)(pv:PV)(h:y[i]?=U (U pv)):ME g O q o B[i]? pv:=by
 obtain⟨r,j,s,n⟩:=S.jx;have z:=n i pv h;cases pv with
 |dat d=>exact z
 |own l=>obtain⟨a,H,e,K,f⟩:=z;exact⟨a,H,e,j i a K,f⟩
 |ob w c=>obtain⟨v,R,e,K,f,p⟩:=z;exact⟨v,R,e,K,λb k=>j i b (f b k),p⟩
def cT.CJ{K:List Addr}(h:cT g O q m p0 j4 i5)(e:w9 (D1 m q O) (D1 o j1 O))(n:∀b∈j4,∀k,m b=U k->o b=U k)(H:∀b∈j4,b∈K):cT g O j1 o p0 K i5:=by
 cases i5 with
 |dat d=>obtain⟨v,f,z⟩:=h;exact⟨v,f,z.same e⟩
 |own l=>obtain⟨a,r,f,j,i,z⟩:=h;exact⟨a,r,f,H a j,n a j _ i,z.same e⟩
 |ob w c=>obtain⟨v,R,f,j,i,z⟩:=h;exact⟨v,R,f,j,λb p=>H b (i b p),z.same e λb p=>n b (i b p)⟩
def aS(fr:Bool)(as:As):As:=if fr=Uf then as else[]
def ot(h:U z∈aS I q):U z∈q:=by
 unfold aS at h
 simp_all
def RX(K:A6)(O:List Addr)(va:As)(H H':Hp)(v:V):PV->Prop
 | .dat d=>Dt K (D1 H' va O) v d
 | .own l=>∃a xs,v=.ref a/\H a=J/\H' a=U (.lst xs)/\E9 K (D1 H' (U a::va) O) xs l
 | .ob w c=>∃o R,v=.ref o/\(w=J\/w=U o)/\(∀b∈R,H b=J)/\ny K (D1 H' (R.map U++va) O) H' o R c
structure sA(H:Hp)(va:As)(O:List Addr):Prop where
 o:∀a∈O,∃u,H a=U u
 a:∀a,U a∈va->∃u,H a=U u
section
variable{K:A6}
def sA.same(D:sA m q O)(e:w9 m o):sA o q O:=⟨λa h=>let ⟨u,z⟩:=D.o a h;⟨u,e _ _ z⟩,λa h=>let ⟨u,z⟩:=D.a a h;⟨u,e _ _ z⟩⟩
def DS.dm{fr:Bool}(S:DS K O m q B o y):sA o (aS fr q) O:=⟨λa h=>let ⟨u,z⟩:=S.fT a h;⟨u,S.same _ _ z⟩,λa h=>let ⟨_,z⟩:=(S.new a (ot h)).2;⟨_,z⟩⟩
def DS.nO(S:DS K O m q B o y)(h:U z∈q):z∉O:=λσ=>by obtain⟨H,e⟩:=S.fT z σ;rw[(S.new z h).1]at e;exact nE e
def DS.grow(S:DS K O m q B o y)(e:w9 o d8):DS K O m q B d8 y:=
 ⟨S.ls,S.same.trans e,λa h=>⟨(S.new a h).1,let ⟨H,z⟩:=(S.new a h).2;⟨H,e _ _ z⟩⟩,S.fT,let ⟨d,g,c,f⟩:=S.jx;⟨d,g,c,λi pv h=>(f i pv h).CJ (Q7 e) (λb _ H z=>e _ _ z) λ_ z=>z⟩⟩
def RX.grow(h:RX K O q m o Y i5)(e:w9 o d8):RX K O q m d8 Y i5:=by
 cases i5 with
 |dat d=>exact Dt.same (Q7 e) h
 |own l=>obtain⟨a,j,g,f,i,h⟩:=h;exact⟨a,j,g,f,e _ _ i,h.same (Q7 e)⟩
 |ob w c=>obtain⟨H,R,g,f,i,h⟩:=h;exact⟨H,R,g,f,i,h.same (Q7 e) λb _ u z=>e _ _ z⟩
def RX.back(h:RX K O q m o Y i5)(e:w9 d8 m):RX K O q d8 o Y i5:=by
 cases i5 with
 |dat d=>exact h
 |own l=>obtain⟨a,j,g,f,i,h⟩:=h;exact⟨a,j,g,e.free f,i,h⟩
 |ob w c=>obtain⟨H,R,g,f,i,h⟩:=h;exact⟨H,R,g,f,λb k=>e.free (i b k),h⟩
def ny.aS{c:OD}(h:ny K (D1 m (j4.map U++q) O) m z j4 c)(n:∀b∈j4,b∉O/\U b∉q):Dt K (D1 m q O) (.ref z) c.d:=
 h.dt (bj (w9.refl _) λb R=>N1 _ R) λb a u R=>G5.mpr ⟨(n b a).1,(n b a).2,R⟩
def RX.dt(h:RX K O q m o Y i5)(D:sA m q O):Dt K (D1 o q O) Y i5.d:=by
 have f:∀a,m a=J->a∉O/\U a∉q:=λa e=>by
  refine⟨λz=>?_,λz=>?_⟩;obtain⟨u,z⟩:=D.o a z;lia;obtain⟨u,z⟩:=D.a a z;lia
 cases i5 with
 |dat d=>exact h
 |ob w c=>obtain⟨H,R,rfl,_,g,h⟩:=h;exact h.aS λb i=>f b (g b i)
 |own l=>
  obtain⟨a,j,rfl,e,g,h⟩:=h;exact .lst (O2.of (G5.mpr ⟨(f a e).1,(f a e).2,g⟩)) (h.same (bj (w9.refl _) λb z=>E7 _ z))
def RX.less(h:RX K O q m o Y i5)(s:∀b,U b∈j1->U b∈q):RX K O j1 m o Y i5:=by
 cases i5 with
 |dat d=>exact Dt.same (bj (w9.refl _) s) h
 |ob w c=>
  obtain⟨H,R,rfl,e,f,h⟩:=h;refine⟨H,R,rfl,e,f,h.same (bj (w9.refl _) λb z=>?_) (λ_ _ _ z=>z)⟩
  rcases List.mem_append.mp z with z|z
  exact T1 _ z;exact N1 _ (s b z)
 |own l=>
  obtain⟨a,i,rfl,e,f,h⟩:=h;refine⟨a,i,rfl,e,f,h.same (bj (w9.refl _) λb z=>?_)⟩
  rcases List.mem_cons.mp z with z|z
  rw[z];exact F2;exact E7 _ (s b z)
def jC:w9 (D1 m q O) (D1 m (aS I q) O):=bj (w9.refl _) λ_ h=>ot h
def E9.append{ys:List V}{es:List f9}(h:E9 K m L M)(k:E9 K m ys es):E9 K m (L++ys) (M++es):=by
 induction M generalizing L with
 |nil=>cases h;exact k
 |cons _ _ i=>cases h with
  |cons a t=>exact .cons a (i t)
def E9.get'(h:E9 K m L M)(e:L[N]?=U Y):∃d,M[N]?=U d/\Dt K m Y d:=by
 induction M generalizing L N with
 |nil=>cases h;exact nE e
 |cons _ _ j=>cases h with
  |cons a t=>cases N with
   |zero=>cases e;exact⟨_,rfl,a⟩
   |succ N=>exact j t e
theorem E9.take{H:Hp}:∀{xs:List V}{ds:List f9} (n:Nat),E9 K H xs ds->E9 K H (xs.take n) (ds.take n)
 |_,_,0,_=>by simp;exact .nil
 |_,_,_+1,.nil=>by simp;exact .nil
 |_,_,n+1,.cons h t=>by simp only[List.take_succ_cons];exact .cons h (E9.take n t)
theorem E9.drop{H:Hp}:∀{xs:List V}{ds:List f9} (n:Nat),E9 K H xs ds->E9 K H (xs.drop n) (ds.drop n)
 |_,_,0,h=>by simpa using h
 |_,_,_+1,.nil=>by simp;exact .nil
 |_,_,n+1,.cons h t=>by simp only[List.drop_succ_cons];exact E9.drop n t
theorem E9.reverse{H:Hp}{xs:List V}{ds:List f9}(h:E9 K H xs ds):E9 K H xs.reverse ds.reverse:=by
 induction ds generalizing xs with
 |nil=>cases h;exact .nil
 |cons _ _ i=>cases h with
  |cons a t=>
   rw[AF,AF];exact(i t).append (.cons a .nil)
theorem E9.set{H:Hp}{xs:List V}{ds:List f9}(i:Nat){x:V}{d:f9}(h:E9 K H xs ds)(k:Dt K H x d):E9 K H (xs.set i x) (ds.set i d):=by
 induction ds generalizing xs i with
 |nil=>cases h;exact .nil
 |cons _ _ j=>cases h with
  |cons a t=>cases i with
   |zero=>exact .cons k t
   |succ i=>exact .cons a (j i t)
end
def TX(K:A6)(fr:Bool)(te:TE)(F:DV):Prop:=
 ∀(O:List Addr) (F6:Hp) (as:As) (σ:St) (H:Hp) (ds:Ds) (pv:PV) (Q:VK),DS K O F6 as σ H ds->F ds=U pv->(∀v H',w9 H H'->RX K O (aS fr as) H H' v pv->Q v H')->te σ H Q
structure PX(X:Cx)(fr:Bool)(e:Expr)(te:TE)(F:DV):Prop where
 p:PE X e te
 t:TX X.K fr te F
def ud(K:A6)(tt:TT)(F:DB):Prop:=
 ∀(O:List Addr) (F6:Hp) (as:As) (σ:St) (H:Hp) (ds:Ds) (b:Bool) (Q:Bool->Hp->Prop),DS K O F6 as σ H ds->F ds=U b->(∀H',w9 H H'->Q b H')->tt σ H Q
structure nN(X:Cx)(e:Expr)(tt:TT)(F:DB):Prop where
 p:PT X e tt
 t:ud X.K tt F
structure xD(X:Cx)(e:Expr)(tt:TT)(F:DB):Prop where
 p:PW X e tt
 t:ud X.K tt F
def TAX(K:A6)(fr:Bool)(t:TA)(F:DL):Prop:=
 ∀(O:List Addr) (F6:Hp) (as:As) (σ:St) (H:Hp) (ds:Ds) (l:List f9) (Q:List V->Hp->Prop),DS K O F6 as σ H ds->F ds=U l->(∀vs H',w9 H H'->E9 K (D1 H' (aS fr as) O) vs l->Q vs H')->t σ H Q
structure gm(X:Cx)(fr:Bool)(es:List Expr)(t:TA)(F:DL):Prop where
 p:PA X es t
 t:TAX X.K fr t F
def fG(K:A6)(r:R2)(f:f9->f9->Option PV):Prop:=
 ∀(O:List Addr) (va:As) (H:Hp) (x y:V) (d e:f9) (pv:PV) (Q:VK),sA H va O->Dt K (D1 H va O) x d->Dt K (D1 H va O) y e->f d e=U pv->(∀v H',w9 H H'->RX K O va H H' v pv->Q v H')->r x y H Q
def R1X(K:A6)(r:V->Hp->VK->Prop)(f:f9->Option PV):Prop:=
 ∀(O:List Addr) (va:As) (H:Hp) (x:V) (d:f9) (pv:PV) (Q:VK),sA H va O->Dt K (D1 H va O) x d->f d=U pv->(∀v H',w9 H H'->RX K O va H H' v pv->Q v H')->r x H Q
def ue(K:A6)(r:List V->Hp->VK->Prop)(f:FV):Prop:=
 ∀(O:List Addr) (va:As) (H:Hp) (xs:List V) (ds:List f9) (pv:PV) (Q:VK),sA H va O->E9 K (D1 H va O) xs ds->f ds=U pv->(∀v H',w9 H H'->RX K O va H H' v pv->Q v H')->r xs H Q
noncomputable def u7(i:Nat):DV:=λds=>match ds[i]? with
 |some (U (.dat d))=>U (.dat d)
 |_=>J
noncomputable def U6(i:Nat):DV:=λds=>match ds[i]? with
 |some (U pv)=>U (.dat pv.d)
 |_=>J
noncomputable def fC(d:f9):DV:=λ_=>U (.dat d)
section
set_option tactic.hygienic true in
def a1n(i:Nat)(h:PE c e (S3 i)):PX c I e (S3 i) (u7 i):=⟨h,by
 intro O b k j H g pv Q S a q;unfold u7 at a;split at a;rename_i d f;cases a;obtain⟨v,X,h⟩:=S.slot i _ f;exact⟨v,X,q v H (w9.refl H) (h.same jC)⟩
 . exact nE a⟩
set_option tactic.hygienic true in
def Yk(i:Nat)(h:PE c e (S3 i)):PX c U' e (S3 i) (U6 i):=⟨h,by
 intro O m x y H t pv Q S g q;unfold U6 at g;split at g
 . rename_i d n;cases g;have k:=S.slot i _ n;cases d with
   |dat d=>
    obtain⟨v,f,h⟩:=k;exact⟨v,f,q v H (w9.refl H) (h.same jC)⟩
   |own l=>
    obtain⟨a,s,f,j,r,h⟩:=k;exact⟨_,f,q _ H (w9.refl H) (Dt.lst (O2.of (G5.mpr ⟨S.nO j,by simp[aS],r⟩)) (h.same jC))⟩
   |ob w X=>
    obtain⟨o,R,f,_,j,h⟩:=k;exact⟨_,f,q _ H (w9.refl H) (h.dt jC λb p u z=>G5.mpr ⟨S.nO (j b p),by simp[aS],z⟩)⟩
 . exact nE g⟩
def EF(h:PE c e (tC Y))(hd:∀H,Dt c.K H Y i3):PX c I e (tC Y) (fC i3):=⟨h,by intro O a g f H X pv Q S b q;cases b;exact q Y H (w9.refl H) (hd _)⟩
def a1u{j}:PX c I (.Constant (.int S) j p) (tC (.int S)) (fC (.int S)):=EF a1Q λ_=>.int S
def a3V{i:Bool}{j}:PX c I (.Constant (.bool i) j p) (tC (.bl i)) (fC (.bool i)):=EF a4b λ_=>.bl i
def a1p{j}:PX c I (.Constant (.str u) j p) (tC (.str u)) (fC (.str u)):=EF a1L λ_=>.str u
def a1s{j}:PX c I (.Constant .none j p) (tC .non) (fC .none):=EF a1O λ_=>.non
noncomputable def u3(f:f9->f9->Option PV)(Fa Fb:DV):DV:=λds=>(Fa ds).bind λx=>(Fb ds).bind λy=>f x.d y.d
def DK(p:fG c.K l8 l9)(s:PX c I e G D)(z:PX c I r c6 d5):TX c.K I (tU l8 G c6) (u3 l9 D d5):=by
 intro O X j k H i pv Q S a q;obtain⟨x,h1,a⟩:=t5 a;obtain⟨y,h2,a⟩:=t5 a;refine s.t O X j k H i x _ S h1 λv B g m=>?_;refine z.t O X j k B i y _ (S.grow g) h2 λu n h l=>?_;refine p O (aS I j) n v u x.d y.d pv Q ((S.grow g).grow h).dm ((m.grow h).dt S.dm) (l.dt (S.grow g).dm) a λw C A o=>?_;exact q w C ((g.trans h).trans A) (o.back (g.trans h))
def qh{op:Operator}{r:R2}(g:Y9 c (aD op) r)(a:fG c.K r l9)(d:PX c I e G D)(X:PX c I c8 c6 d5):PX c I (.BinOp e op c8 p) (tU r G c6) (u3 l9 D d5):=
 ⟨a4a g d.p X.p,DK a d X⟩
def uL{op:CmpOp}{r:R2}(a:Y9 c (bp op) r)(h:fG c.K r l9)(g:rW op c8=U')(d:PX c I e G D)(X:PX c I c8 c6 d5):PX c I (.Compare e [op] [c8] p) (tU r G c6) (u3 l9 D d5):=
 ⟨YX a d.p X.p g,DK h d X⟩
def a3T{r:R2}(g:xE c r)(a:fG c.K r l9)(d:PX c I e G D)(X:PX c I c8 c6 d5)(hs:rL c8):PX c I (.Subscript e c8 p) (tU r G c6) (u3 l9 D d5):=
 ⟨DT g d.p X.p hs,DK a d X⟩
noncomputable def iy(f:f9->Option PV)(Fa:DV):DV:=λds=>(Fa ds).bind λx=>f x.d
def a3Q{op:UnaryOp}{r:V->Hp->VK->Prop}(n:Xq c (unaryOp op) r)(l:R1X c.K r p7)(g:PX c I e G D):PX c I (.UnaryOp op e p) (tUn r G) (iy p7 D):=⟨a3Y n g.p,by
 intro O b i s H h pv Q S X q;obtain⟨x,h1,X⟩:=t5 X;refine g.t O b i s H h x _ S h1 λv o a j=>?_;refine l O (aS I i) o v x.d pv Q (S.grow a).dm (j.dt S.dm) X λw u m k=>?_
 exact q w u (a.trans m) (k.back a)⟩
def Xk:f9->Option Bool
 | .bool b=>U b
 |_=>J
noncomputable def A9(F:DV):DB:=λds=>(F ds).bind λx=>Xk x.d
def yA(h:TX c.K I G D):ud c.K (tB G) (A9 D):=by
 intro O e j k H f b Q S a q;obtain⟨x,h1,a⟩:=t5 a;refine h O e j k H f x _ S h1 λv i g l=>?_
 have d:=l.dt S.dm;generalize x.d=z at d a;cases z with
 |bool X=>cases a;cases d;exact⟨_,rfl,q i g⟩
 |_=>exact nE a
def Ys{fr:Bool}(h:PX c fr e G D)(b:autoParam (∀a,isTrue e c.env a=(do let v <- a;mI e.pos;holding [v] (truthy v))) iz):nN c e (tB G) (A9 D):=⟨a1z h.p b,yA h.t⟩
def fJ{fr:Bool}{op:CmpOp}{r:R2}(a:Y9 c (bp op) r)(h:fG c.K r l9)(g:rW op c8=U')(d:PX c fr e G D)(X:PX c fr c8 c6 d5):nN c (.Compare e [op] [c8] p) (Ws (tU r G c6)) (A9 (u3 l9 D d5)):=
 ⟨Yw a d.p X.p g,yA (DK h d X)⟩
noncomputable def bJ(F:DB):DB:=λds=>(F ds).bind λb=>U (!b)
noncomputable def fO(F G:DB):DB:=λds=>(F ds).bind λb=>if b=Uf then G ds else U U'
noncomputable def hE(F G:DB):DB:=λds=>(F ds).bind λb=>if b=Uf then U Uf else G ds
def XM(h:ud c.K a7 a6):ud c.K (SA a7) (bJ a6):=by intro O a f e H d b Q S X q;obtain⟨x,h1,X⟩:=t5 X;cases X;exact h O a f e H d x _ S h1 q
def XN{tu:TT}{Fu:DB}(h:ud c.K a7 a6)(k:ud c.K tu Fu):ud c.K (SD a7 tu) (fO a6 Fu):=by
 intro O a i g H e b Q S X q;obtain⟨x,h1,X⟩:=t5 X;refine h O a i g H e x _ S h1 λf d=>?_
 cases x with
 |true=>exact k O a i g f e b Q (S.grow d) X λl j=>q l (d.trans j)
 |false=>cases X;exact q f d
def a0E{tu:TT}{Fu:DB}(h:ud c.K a7 a6)(k:ud c.K tu Fu):ud c.K (tOr a7 tu) (hE a6 Fu):=by
 intro O a i g H e b Q S X q;obtain⟨x,h1,X⟩:=t5 X;refine h O a i g H e x _ S h1 λf d=>?_
 cases x with
 |false=>exact k O a i g f e b Q (S.grow d) X λl j=>q l (d.trans j)
 |true=>cases X;exact q f d
def Yt(h:nN c e a7 a6):nN c (.UnaryOp .Not e p) (SA a7) (bJ a6):=⟨a1A h.p,XM h.t⟩
def Ts(h:nN c e a7 a6):xD c (.BoolOp .And [e] p) a7 a6:=⟨pw_and1 h.p,h.t⟩
def Yq(h:nN c e a7 a6):xD c (.BoolOp .Or [e] p) a7 a6:=⟨pw_or1 h.p,h.t⟩
def Yr{tu:TT}{Fu:DB}(h:nN c e a7 a6)(k:xD c (.BoolOp .And (r::Z) p) tu Fu):xD c (.BoolOp .And (e::r::Z) p) (SD a7 tu) (fO a6 Fu):=⟨pw_and h.p k.p,XN h.t k.t⟩
def a1y{tu:TT}{Fu:DB}(h:nN c e a7 a6)(k:xD c (.BoolOp .Or (r::Z) p) tu Fu):xD c (.BoolOp .Or (e::r::Z) p) (tOr a7 tu) (hE a6 Fu):=⟨pw_or h.p k.p,a0E h.t k.t⟩
theorem xD.pt(h:xD c e a7 a6):nN c e a7 a6:=⟨PW.pt h.p,h.t⟩
def tc(Fa Fb:DV):DV:=λds=>(A9 Fa ds).bind λb=>if b=Uf then Fb ds else U (.dat (.bool U'))
def Xd(Fa Fb:DV):DV:=λds=>(A9 Fa ds).bind λb=>if b=Uf then U (.dat (.bool Uf))else Fb ds
def Ci(Fa:DV):DV:=λds=>(A9 Fa ds).bind λb=>U (.dat (.bool !b))
def a1q{op}(h:PX c I e G D):PX c I (.BoolOp op [e] p) G D:=⟨a1M h.p,h.t⟩
def a1x(h:PX c I e G D)(k:PX c I (.BoolOp .And (r::Z) p) c6 d5):PX c I (.BoolOp .And (e::r::Z) p) (Wz G c6) (tc D d5):=⟨a1S h.p k.p,by
 intro O X j i H f pv Q S d q;obtain⟨x,h1,d⟩:=t5 d;refine yA h.t O X j i H f x _ S h1 λg a=>?_
 cases x with
 |true=>exact k.t O X j i g f pv Q (S.grow a) d λv m l b=>q v m (a.trans l) (b.back a)
 |false=>cases d;exact q _ g a (Dt.bl _)⟩
def a3R(h:PX c I e G D)(k:PX c I (.BoolOp .Or (r::Z) p) c6 d5):PX c I (.BoolOp .Or (e::r::Z) p) (a0J G c6) (Xd D d5):=⟨a3Z h.p k.p,by
 intro O X j i H f pv Q S d q;obtain⟨x,h1,d⟩:=t5 d;refine yA h.t O X j i H f x _ S h1 λg a=>?_
 cases x with
 |false=>exact k.t O X j i g f pv Q (S.grow a) d λv m l b=>q v m (a.trans l) (b.back a)
 |true=>cases d;exact q _ g a (Dt.bl _)⟩
def a1r(h:PX c I e G D):PX c I (.UnaryOp .Not e p) (Wv G) (Ci D):=⟨a1N h.p,by intro O b i g H d pv Q S X q;obtain⟨x,h1,X⟩:=t5 X;cases X;exact yA h.t O b i g H d x _ S h1 λa f=>q _ a f (Dt.bl _)⟩
noncomputable def jD(Ft:DB)(Fa Fb:DV):DV:=λds=>(Ft ds).bind λb=>if b=Uf then Fa ds else Fb ds
def a3U(n:nN c c8 a7 a6)(h:PX c I e G D)(k:PX c I r c6 d5):PX c I (.IfExp c8 e r p) (tIf a7 G c6) (jD a6 D d5):=⟨Ul n.p h.p k.p,by
 intro O d m l H g pv Q S f q;obtain⟨x,h1,f⟩:=t5 f;refine n.t O d m l H g x _ S h1 λo X=>?_
 cases x with
 |true=>exact h.t O d m l o g pv Q (S.grow X) f λv j i a=>q v j (X.trans i) (a.back X)
 |false=>exact k.t O d m l o g pv Q (S.grow X) f λv j i a=>q v j (X.trans i) (a.back X)⟩
noncomputable def B1:DL:=λ_=>U []
noncomputable def t4(F:DV)(G:DL):DL:=λds=>(F ds).bind λx=>(G ds).bind λl=>U (x.d::l)
def JB:gm c I [] qF B1:=⟨oP,by intro O a d e H X l Q S b q;cases b;exact q [] H (w9.refl H) .nil⟩
def Up(h:PX c I e G D)(k:gm c I Z P a2)(hs:autoParam (hI c e Z) w4):gm c I (e::Z) (jI G P) (t4 D a2):=⟨fK h.p k.p hs,by
 intro O a i g H X l Q S b q;unfold t4 at b;cases h1:D X with
 |none=>simp_all
 |some x=>
  cases h2:a2 X with
  |none=>rw[h1,h2]at b;exact nE b
  |some m=>
   rw[h1,h2]at b;cases b;refine h.t O a i g H X x _ S h1 λv s f n=>?_;refine k.t O a i g s X m _ (S.grow f) h2 λr o d j=>?_
   exact q (v::r) o (f.trans d) (.cons ((n.grow d).dt S.dm) j)⟩
def sA.fresh(D:sA m q O)(h:m z=J):z∉O/\U z∉q:=by
 refine⟨λH=>?_,λH=>?_⟩;obtain⟨u,H⟩:=D.o z H;lia;obtain⟨u,H⟩:=D.a z H;lia
def yL(D:sA m q O)(h:m z=J)(hd:E9 g (D1 m q O) L M):RX g O q m (upd m z (.tup L)) (.ref z) (.dat (.tuple M)):=by obtain⟨a,b⟩:=D.fresh h;exact Dt.tup (ae.of (G5.mpr ⟨a,b,Q5⟩)) (hd.same (Q7 (w9.new h)))
def oM(h:m z=J)(hd:E9 g (D1 m q O) L M):RX g O q m (upd m z (.lst L)) (.ref z) (.own M):=by
 refine⟨z,L,rfl,h,Q5,hd.same (gj λb o c d a=>⟨c,λK=>?_,?_⟩)⟩
 . simp_all
 exact w9.new h _ _ a
noncomputable def v9(Fl:DL):DV:=λds=>(Fl ds).bind λl=>if l.length<=1000000 then U (.dat (.tuple l))else J
noncomputable def N6(Fl:DL):DV:=λds=>(Fl ds).bind λl=>if l.length<=1000000 then U (.own l)else J
def qf(h:N<=1000000):N<=J4:=B7 h (by rw[rP];decide)
def a1o{x1}(h:gm c I Z P a2):PX c I (.Tuple Z x1 p) (Sw P) (v9 a2):=⟨Oh h.p,by
 intro O b j i H f pv Q S a q;obtain⟨l,h1,a⟩:=t5 a;obtain⟨g,a⟩:=K9 a;cases a;refine h.t O b j i H f l _ S h1 λk m X d=>⟨by rw[d.length];exact qf g,λt e=>?_⟩
 exact q _ _ (X.trans (w9.new e)) (RX.back (yL (S.grow X).dm e d) X)⟩
def a1t(h:gm c I Z P a2):PX c I (.List Z p) (a0L P) (N6 a2):=⟨a1P h.p,by
 intro O b j i H f pv Q S a q;obtain⟨l,h1,a⟩:=t5 a;obtain⟨g,a⟩:=K9 a;cases a;refine h.t O b j i H f l _ S h1 λk m e X=>⟨by rw[X.length];exact qf g,λt d=>?_⟩
 exact q _ _ (e.trans (w9.new d)) (RX.back (oM d X) e)⟩
noncomputable def f7(F:FV)(Fl:DL):DV:=λds=>(Fl ds).bind F
def Wn(j:ue c.K m9 m2)(h:gm c I Z P a2):TX c.K I (CD m9 P) (f7 m2 a2):=by
 intro O a e o H d pv Q S b q;obtain⟨l,h1,b⟩:=t5 b;refine h.t O a e o H d l _ S h1 λk n X g=>?_;refine j O (aS I e) n k l pv Q (S.grow X).dm g b λw p m i=>?_;exact q w p (X.trans m) (i.back X)
def sL{r:List V->Hp->VK->Prop}(l:cD c (.builtin l7) r)(k:ue c.K r m2)(g:Gl c u)(h:c.mg u=J)(i:fW u=U (.builtin l7))(X:gm c I (e::Z) P a2)(d:autoParam (u ≠ "__name__") L0)(b:autoParam (mE u) L0)(j:autoParam (hI c e Z) w4)(a:autoParam (lj c E Z) w4):PX c I (.Call (.Name u p) (e::Z) [] E) (CD r P) (f7 m2 a2):=⟨EN l g h i X.p d b j a,Wn k X⟩
def CK{r:List V->Hp->VK->Prop}(l:cD c (.type l7) r)(k:ue c.K r m2)(g:Gl c u)(h:c.mg u=J)(i:fW u=U (.type l7))(X:gm c I (e::Z) P a2)(d:autoParam (u ≠ "__name__") L0)(b:autoParam (mE u) L0)(j:autoParam (hI c e Z) w4)(a:autoParam (lj c E Z) w4):PX c I (.Call (.Name u p) (e::Z) [] E) (CD r P) (f7 m2 a2):=⟨Oi l g h i X.p d b j a,Wn k X⟩
def H0(K:A6)(F:FV):Sp:=λvs H Q _=>∃(O:List Addr) (ds:List f9) (pv:PV),(∀a∈O,∃u,H a=U u)/\E9 K (D1 H [] O) vs ds/\F ds=U pv/\∀v H',w9 H H'->RX K O [] H H' v pv->Q v H'
def XI{fr:Bool}(h:gm c fr Z P a2):TX c.K fr (yG (H0 c.K m2) [] m3 P) (f7 m2 a2):=by
 intro O k g M H A pv Q S m q;obtain⟨l,h1,m⟩:=t5 m;refine h.t O k g M H A l _ S h1 λN t p I=>?_;have D:=(S.grow p).dm (fr:=fr);rw[af];have z:∀H,D1 H (aS fr g) O=D1 H [] (O++(aS fr g).filterMap id):=λH=>rC (bs:=[]);refine⟨O++(aS fr g).filterMap id,l,pv,λa i=>?_,by rw[<-z];exact I,m,λv B C r=>q v B (p.trans C) ?_⟩
 . rcases List.mem_append.mp i with i|i
   exact D.o a i;obtain⟨x,G,e⟩:=List.mem_filterMap.mp i;subst e;exact D.a a G
 . cases pv with
   |dat d=>
    have j:Dt c.K (D1 B [] (O++(aS fr g).filterMap id)) v d:=r;rw[<-z]at j;exact j
   |own l=>
    obtain⟨a,F,u,y,s,n⟩:=r;refine⟨a,F,u,p.free y,s,?_⟩;rw[show(U a::aS fr g)=[U a]++aS fr g from rfl,rC];exact n
   |ob w X=>
    obtain⟨o,R,u,y,s,n⟩:=r;refine⟨o,R,u,y,λb L=>p.free (s b L),?_⟩;rw[rC];rw[af]at n;exact n
end
def hC(ds:Ds):Ds:=ds.map (Option.map λpv=>.dat pv.d)
def ou:U z∉(F7 N J:As):=λb=>by simp_all
def ZM:D1 m (F7 N J) O=D1 m [] O:=by
 funext b
 delta D1;simp
section
variable{K:A6}
def ME.hC(S:DS K O m q B o y)(h:ME K O q o p0 i5)(e:∀b,U b∈j1->U b∈q)(j:∀b,(match i5 with | .own _=>p0=U (U (.ref b)) | .ob _ _=>U b∈q|_=>False)->U b∉j1):cT K O j1 o p0 j4 (.dat i5.d):=by
 cases i5 with
 |dat d=>obtain⟨v,f,h⟩:=h;exact⟨v,f,h.same (bj (w9.refl _) e)⟩
 |own l=>
  obtain⟨a,n,f,g,H,h⟩:=h;exact⟨_,f,.lst (O2.of (G5.mpr ⟨S.nO g,j a f,H⟩)) (h.same (bj (w9.refl _) e))⟩
 |ob w c=>obtain⟨v,R,f,_,g,h⟩:=h;exact⟨_,f,h.dt (bj (w9.refl _) e) λb e u z=>G5.mpr ⟨S.nO (g b e),j b (g b e),z⟩⟩
theorem DS.hC{O:List Addr}{F6:Hp}{H:Hp}{as:As}{σ:St}{ds:Ds}(S:DS K O F6 as σ H ds):DS K O F6 (F7 ds.length J) σ H (hC ds) where
 ls:=by simp[L2.hC,S.ls]
 same:=S.same
 new:=λa h=>absurd h ou
 fT:=S.fT
 jx:=⟨λ_=>[],λi b z=>absurd z F5,λi j b z=>absurd z F5,λi pv h=>by
  unfold L2.hC at h;rw[M9]at h;cases hd:ds[i]? with
  |none=>simp_all
  |some x=>
   cases x with
   |none=>simp_all
   |some w=>
    rw[hd]at h;cases h;exact(S.slot i w hd).hC S (λb z=>absurd z ou) (λa _=>ou)⟩
noncomputable def Cg(i:Nat)(ds:Ds):Ds:=match ds[i]? with
 |some (U (.own l))=>ds.set i (U (.dat (.list l)))
 |_=>ds
set_option tactic.hygienic true in
theorem DS.Cg(S:DS K O m q B o y)(i:Nat):∃n,DS K O m n B o (Cg i y):=by
 delta L2.Cg;split
 . rename_i l A;obtain⟨f,t,s,p⟩:=S.jx;refine⟨q.filter λx=>decide (∀b∈f i,x≠U b),?_⟩
   have sub:∀b,U b∈q.filter (λx=>decide (∀b∈f i,x≠U b))->U b∈q/\b∉f i:=λb z=>by obtain⟨G,u⟩:=mem_filter.mp z;exact⟨G,λE=>mT u b E rfl⟩
   have sm:w9 (D1 o q O) (D1 o (q.filter λx=>decide (∀b∈f i,x≠U b)) O):=bj (w9.refl _) λb z=>(sub b z).1;refine⟨by simp[S.ls],S.same,λa h=>S.new a (sub a h).1,S.fT,λj=>if j=i then[]else f j,λj b d=>?_,λj k b H g=>?_,λj pv h=>?_⟩;dsimp only at d;split at d;simp at d;rename_i v;exact mem_filter.mpr ⟨t j b d,cy λC E e=>v (s j i b d (by cases e;exact E))⟩;dsimp only at H g;split at H;simp at H;split at g;simp at g;exact s j k b H g;rw[AD]at h;by_cases c:i=j;subst c;rw[r9 rfl]at h;obtain⟨_,h⟩:=K9 h;cases h;obtain⟨a,D,w,r,F,h⟩:=p i _ A;exact⟨_,w,.lst (O2.of (G5.mpr ⟨S.nO (t i a r),λz=>(sub a z).2 r,F⟩)) (h.same sm)⟩;rw[s9 c]at h;dsimp only;rw[s9 (λz=>c z.symm)];exact(p j pv h).CJ sm (λb _ σ z=>z) λb z=>z
 exact⟨q,S⟩
end
noncomputable def cG(F:DV):DV:=λds=>F (hC ds)
def a1w(h:PX c Uf e G D):PX c U' e G (cG D):=⟨h.p,by
 intro O a g d H i pv Q S f q;refine h.t O a _ d H _ pv Q S.hC f λv X e r=>q v X e ?_
 exact r.less λb z=>by simp[aS]at z⟩
def a3t(K:A6)(O:List Addr)(Hb:Hp)(Jff:It)(items:List f9):Prop:=
 ∀H',w9 Hb H'->∀i,(i<items.length->Jff.go i H')/\(items.length<=i->Jff.stop i H') /\
  ∀x H'',Jff.Wh i H' x H''->i<items.length->w9 H' H''/\∃d,items[i]?=U d/\∀vb:As,(∀b,U b∈vb->Hb b=J/\∃o,H' b=U o)->(∀b∈O,∃o,Hb b=U o)->Dt K (D1 H'' vb O) x d
def TIX(K:A6)(fr:Bool)(wi:TI)(Fi:DL):Prop:=
 ∀(O:List Addr) (F6:Hp) (as:As) (σ:St) (H:Hp) (ds:Ds) (items:List f9) (R:It->Hp->Prop),DS K O F6 as σ H ds->Fi ds=U items->(∀Jff H1,w9 H H1->a3t K O (D1 H1 (aS fr as) []) Jff items->R Jff H1)->wi σ H R
structure qs(X:Cx)(fr:Bool)(tg e:Expr)(wi:TI)(Fi:DL):Prop where
 p:PI X tg e wi
 t:TIX X.K fr wi Fi
def a2L(K:A6)(tl:TE):TI:=λσ H R=>tl σ H λx H1=>∃a,x=.ref a/\(((∃xs,O2 K H1 a xs)/\R (Itl K a) H1)\/((∃xs,ae K H1 a xs)/\R (Itt K a) H1))
def a1H(u:PE c r G):PI c e r (a2L c.K G):=by
 intro g s l H R I h;refine K0 (u g s l H _ I h) λv d ⟨x,j,X,k,t⟩=>?_;obtain⟨a,w,(⟨⟨y,hq⟩,q⟩|⟨⟨y,hq⟩,q⟩)⟩:=t
 . subst w;cases k;obtain⟨f,z,p,n⟩:=X.list hq;refine Hz p.isList ?_;refine⟨d.heap.objs.size,[d.heap.objs.size],_,_,j,rfl,X.kept λb o w=>N3 _ w,MZ a _,⟨_,Y8 _ rfl,rfl,rfl⟩,λb i=>?_,q⟩
   have w:b=d.heap.objs.size:=by simpa using i
   subst w;exact X.ye G8 (X.L3.fresh G8)
 . subst w;cases k;obtain⟨f,z,p,n⟩:=X.tuple hq;refine wpAny_pyIter_tuple (show d.heap.IsTuple a f.toArray from p) ?_;refine⟨d.heap.objs.size,[d.heap.objs.size],_,_,j,rfl,X.kept λb o w=>N3 _ w,KJ a _,⟨_,Y8 _ rfl,rfl,rfl⟩,λb i=>?_,q⟩
   have w:b=d.heap.objs.size:=by simpa using i
   subst w;exact X.ye G8 (X.L3.fresh G8)
noncomputable def nU:f9->Option (List f9)
 | .list l=>U l
 | .tuple l=>U l
 |_=>J
def N2(F:DV):DL:=λds=>(F ds).bind λpv=>nU pv.d
def ro(h:Dt g (D1 m q O) Y i3)(e:w9 (D1 m q []) o)(k:w9 o d8)(j:∀b,U b∈j1->D1 m q [] b=J/\∃c,o b=U c):Dt g (D1 d8 j1 O) Y i3:=
 h.same (gj λb c K l i=>by
  have f:D1 m q [] b=U c:=G5.mpr ⟨by simp,l,i⟩;refine⟨K,λz=>?_,k _ _ (e _ _ f)⟩
  simp_all)
def wR:w9 (D1 m q O) (D1 m q []):=gj λb o _ d c=>⟨by simp,d,c⟩
section
set_option tactic.hygienic true in
def YO{fr:Bool}(h:PX c fr e G D):qs c fr r e (a2L c.K G) (N2 D):=⟨a1H h.p,by
 intro O g p I H B w R S f q;obtain⟨pv,h1,f⟩:=t5 f;refine h.t O g p I H B pv _ S h1 λv t C M=>?_
 have d:=M.dt S.dm;generalize pv.d=z at d f;cases d with
 |lst n k=>
  rename_i a X l;cases f;have:=k.length;refine⟨a,rfl,.inl ⟨⟨X,D9.seq n⟩,q _ t C λE j i=>?_⟩⟩;have b:=j.seq (wR.seq n);refine⟨λm=>⟨X,X[i]'t9,b,L6 _⟩,λm=>⟨X,b,by simp[*]⟩,λx o y m=>?_⟩;obtain⟨u,y⟩:=y;subst u;obtain⟨d,F,A⟩:=k.get' (y X b);exact⟨w9.refl _,d,F,λL s _=>ro A j (w9.refl _) s⟩
 |tup n k=>
  rename_i a X l;cases f;have:=k.length;refine⟨a,rfl,.inr ⟨⟨X,D9.hV n⟩,q _ t C λE j i=>?_⟩⟩;have b:=j.hV (wR.hV n);refine⟨λm=>⟨X,X[i]'t9,b,L6 _⟩,λm=>⟨X,b,by simp[*]⟩,λx o y m=>?_⟩;obtain⟨u,y⟩:=y;subst u;obtain⟨d,F,A⟩:=k.get' (y X b);exact⟨w9.refl _,d,F,λL s _=>ro A j (w9.refl _) s⟩
 |_=>exact nE f⟩
def bA(lo:Int)(n:Nat):List f9:=(D3 n).map λk=>.int (lo+(k:Nat))
def Pm:a3t g O m (RV S N) (bA S N):=by
 intro K e i;have b:(bA S N).length=N:=by simp[bA]
 refine⟨λa=>(by rw[b]at a;exact a),λa=>(by rw[b]at a;exact a),λx d y a=>?_⟩;obtain⟨f,c⟩:=y;subst f;subst c;rw[b]at a;refine⟨w9.refl _,.int (S+i),?_,λh _ _=>.int _⟩;simp[bA,gQ a]
def G9:List f9->Option (List f9)
 | [.int j]=>@ite _ (-(4611686018427387904)<=j/\j<4611686018427387904) (AQ _) (U (bA 0 j.toNat)) J
 |_=>J
def jM:List f9->Option (List f9)
 | [.int i,.int j]=>@ite _ ((-(4611686018427387904)<=i/\i<4611686018427387904)/\-(4611686018427387904)<=j/\j<4611686018427387904) (AQ _) (U (bA i (j-i).toNat)) J
 |_=>J
noncomputable def F3(f:List f9->Option (List f9))(Fl:DL):DL:=λds=>(Fl ds).bind f
set_option tactic.hygienic true in
def Lm(i:Gl c "range")(n:c.mg "range" = J)(a:gm c I [r] P a2)(hs:autoParam (Q9 [r] c.env=[(U',eval r c.env)]) w4):qs c I e (.Call (.Name "range" p) [r] [] E) (WZ P) (F3 G9 a2):=⟨Og i n a.p hs,by
 intro O X k m H f d R S b q;obtain⟨l,h1,b⟩:=t5 b;refine a.t O X k m H f l _ S h1 λv h s u=>?_;unfold G9 at b;split at b
 . rename_i j;split at b
   . rename_i g;cases b;cases u with
     |cons t o=>
      cases t;cases o;exact⟨j,rfl,g.1,g.2,q _ h s Pm⟩
   exact nE b
 . exact nE b⟩
set_option tactic.hygienic true in
def Ll(o:Gl c "range")(v:c.mg "range" = J)(k:gm c I [r,c8] P a2)(hs:autoParam (Q9 [r,c8] c.env=[(U',eval r c.env),(U',eval c8 c.env)]) w4)(h:autoParam (Q9 [c8] c.env=[(U',eval c8 c.env)]) w4):qs c I e (.Call (.Name "range" p) [r,c8] [] E) (WY P) (F3 jM a2):=⟨Of o v k.p hs h,by
 intro O d s u H m g R S X q;obtain⟨l,h1,X⟩:=t5 X;refine k.t O d s u H m l _ S h1 λy n w x=>?_;unfold jM at X;split at X
 . rename_i i j;split at X
   . rename_i a;cases X;cases x with
     |cons b f=>
      cases b;cases f with
      |cons b f=>
       cases b;cases f;exact⟨i,j,rfl,⟨a.1.1,a.1.2,a.2.1,a.2.2⟩,q _ n w Pm⟩
   exact nE X
 . exact nE X⟩
def WX(K:A6)(ta:TA):TI:=λσ H R=>ta σ H λvs H1=>∃a b k1 k2,vs=[.ref a,.ref b]/\(∃xs,hJ k1 K H1 a xs)/\(∃ys,hJ k2 K H1 b ys)/\R (Itz k1 k2 K a b) H1
def YR(D:Gl c "zip")(F:c.mg "zip" = J)(t:PA c [e,r] P)(hs:autoParam (Q9 [e,r] c.env=[(U',eval e c.env),(U',eval r c.env)]) w4)(i:autoParam (Q9 [r] c.env=[(U',eval r c.env)]) w4):
  PI c (.Tuple Z N d3) (.Call (.Name "zip" p) [e,r] [] E) (WX c.K P):=by
 intro d s m H R I h;refine Call_ (iq I D F boot_zip (qv (K0 (t E d s m H _ I h) λz X ⟨L,l,g,O,K⟩=>?_) (by rw[hs,i]) (by rw[i];rfl)));obtain⟨x,y,Q,k2,a,⟨S,W⟩,⟨k,C⟩,q⟩:=K;subst a;obtain⟨u,v,a,G,B⟩:=vals2 O;subst a;cases G;cases B;obtain⟨z,A⟩:=g.dq W;obtain⟨L,w⟩:=g.dq C;refine Qg A w λM T n=>?_;refine Ht T.hz ?_;have b:Inv c d m l {X with heap:=M}:=g.kept n;refine⟨(hz X)+4,_,_,_,l,rfl,b,Sn (Sa _),T,λr o=>?_,q⟩
 have j:r=(hz X)+4\/r=(hz X)+2\/r=(hz X)+3\/r=(hz X)\/r=(hz X)+1:=by simpa using o
 have f:(hz X)<=r:=by
  rcases j with a|a|a|a|a<;>rw[a]
  exact kE _ _;exact kE _ _;exact kE _ _;exact V1 _;exact kE _ _
 exact g.ye f (g.L3.fresh f)
def w9.dq(e:w9 m o)(h:hJ I g m z L):hJ I g o z L:=by
 cases I;exact e.seq h;exact e.hV h
def Dt.dq(h:Dt g m Y i3)(hd:nU i3=U M):∃a e xs,Y=.ref a/\hJ e g m a xs/\E9 g m xs M:=by
 cases h with
 |lst b c=>cases hd;exact⟨_,U',_,rfl,b,c⟩
 |tup b c=>cases hd;exact⟨_,Uf,_,rfl,b,c⟩
 |_=>exact nE hd
def eu:List f9->Option (List f9)
 | [d,e]=>(nU d).bind λl=>(nU e).bind λm=>U (GK (λx y=>.tuple [x,y]) l m)
 |_=>J
set_option tactic.hygienic true in
def YN(hg:Gl c "zip")(W:c.mg "zip" = J)(w:gm c I [e,r] P a2)(hs:autoParam (Q9 [e,r] c.env=[(U',eval e c.env),(U',eval r c.env)]) w4)(v:autoParam (Q9 [r] c.env=[(U',eval r c.env)]) w4):
  qs c I (.Tuple Z N d3) (.Call (.Name "zip" p) [e,r] [] E) (WX c.K P) (F3 eu a2):=⟨YR hg W w.p hs v,by
 intro O j as V H D u R S X q;obtain⟨l,h1,X⟩:=t5 X;refine w.t O j as V H D l _ S h1 λvs Q ta r1=>?_;unfold eu at X;split at X
 . rename_i d1 T;obtain⟨l1,hl,X⟩:=t5 X;obtain⟨l2,hl2,X⟩:=t5 X;cases X;cases r1 with
   |cons k s=>
    cases s with
    |cons r' s=>
     cases s;obtain⟨e,k1,m,rfl,A,K⟩:=k.dq hl;obtain⟨r,k2,h,rfl,B,C⟩:=r'.dq hl2;refine⟨e,r,k1,k2,rfl,⟨m,D9.dq A⟩,⟨h,D9.dq B⟩,q _ Q ta λH' g i=>?_⟩;have b:=g.dq (wR.dq A);have f:=g.dq (wR.dq B);have:=K.length;have:=C.length;rw[List.length_zipWith];refine⟨λF=>⟨m,h,m[i]'t9,h[i]'t9,b,f,L6 _,L6 _⟩,λF=>⟨m,h,b,f,by lia⟩,λx L y F=>?_⟩;obtain⟨pp,z1,d,x',y',z3,a⟩:=y;obtain⟨z5,G⟩:=a m h b f;subst z1;subst z3;obtain⟨dx,ex,fr⟩:=K.get' z5;obtain⟨t,M,hy⟩:=C.get' G;refine⟨w9.new d,.tuple [dx,t],by rw[Rp,ex,M],λvb n Y=>?_⟩;refine .tup (ae.of (G5.mpr ⟨λz=>?_,λz=>?_,Q5⟩)) (.cons (ro fr g (w9.new d) n) (.cons (ro hy g (w9.new d) n) .nil));obtain⟨o,z⟩:=Y _ z;rw[g _ _ z]at d;exact nS d;obtain⟨_,o,z⟩:=n _ z;rw[z]at d;exact nS d
 . exact nE X⟩
end
def Xr(K:A6)(n:Nat)(g:TG)(gt:f9->Option (List f9)):Prop:=
 ∀(O:List Addr) (va:As) (H:Hp) (v:V) (d:f9) (σ:St) (bs:List f9) (Q:St->Hp->Prop),Dt K (D1 H va O) v d->gt d=U bs->(∀vs,E9 K (D1 H va O) vs bs->vs.length=n->Q (vs.map U++σ) H)->g v (F7 n J++σ) H Q
def C6:f9->Option (List f9):=λd=>U [d]
noncomputable def U4(n:Nat):f9->Option (List f9)
 | .tuple l=>if l.length=n then U l else J
 |_=>J
def Sv:Xr g 1 (cO 0) C6:=by intro O e H v d c bs Q a b q;cases b;exact q [v] (.cons a .nil) rfl
def a5M:∀{l:List c9},l.length=2->∃x y,l=[x,y]
 | [x,y],_=>⟨x,y,rfl⟩
set_option tactic.hygienic true in
def Su:Xr g 2 (Cd g 2 (sU (cO 0) (sU (cO 1) Mm))) (U4 2):=by
 intro O k H v d i bs Q h e q;cases h with
 |tup K c=>
  rename_i a j l;have b:=e;obtain⟨f,b⟩:=K9 b;rw[(W5 b)]at c f;obtain⟨x,y,rfl⟩:=a5M (c.length.trans f);exact⟨a,[x,y],rfl,D9.hV K,rfl,x,[y],rfl,y,[],rfl,rfl,q [x,y] c rfl⟩
 |_=>exact nE e
def U8(l:List f9):Ds:=l.map λd=>U (.dat d)
@[simp] theorem tw:U8 []=[]:=rfl
@[simp] theorem qp(d:f9)(l:List f9):U8 (d::l)=sd d::U8 l:=rfl
def E9.slots(h:E9 g m L M)(e:(U8 M)[N]?=U (U i5)):∃d v,i5=.dat d/\L[N]?=U v/\Dt g m v d:=by
 unfold U8 at e;rw[M9]at e;cases hd:M[N]? with
 |none=>simp_all
 |some d=>
  rw[hd]at e;cases e;obtain⟨x,b,a⟩:=h.get hd;exact⟨d,x,rfl,b,a⟩
def Ca:D1 m (F7 N J++q) O=D1 m q O:=by
 funext b
 delta D1;simp
set_option tactic.hygienic true in
def DS.pre(S:DS g O m q B o y)(h:E9 g (D1 o q O) L M):
  DS g O m (F7 M.length J++q) (L.map U++B) o (U8 M++y) where
 ls:=by simp[U8,S.ls,h.length]
 same:=S.same
 new:=λa z=>S.new a ((List.mem_append.mp z).elim (λz=>absurd z ou) id)
 fT:=S.fT
 jx:=by
  obtain⟨H,s,l,p⟩:=S.jx;have n:=h.length;have r:(U8 M).length=M.length:=by simp[U8]
  refine⟨λi=>if i<M.length then[]else H (i-M.length),λi b z=>?_,λi j b f c=>?_,λi pv e=>?_⟩;dsimp only at z;split at z;simp at z;exact N1 _ (s _ b z)
  . dsimp only at f c;split at f;simp at f;split at c;simp at c;have:=l _ _ b f c;lia
  rw[Rh]at e;split at e;rename_i K;obtain⟨d,v,rfl,f,c⟩:=h.slots e;refine⟨v,?_,by rw[Ca];exact c⟩;rw[kl (by simp;simp_all),M9,f];rfl;rename_i K;rw[r]at K e;dsimp only;rw[s9 K,qu (by simp;simp_all)];simp only[F9,n];exact(p _ pv e).CJ (by rw[Ca];exact w9.refl _) (λb _ k z=>z) λb z=>z
noncomputable def Q8(gt:f9->Option (List f9))(Fc:DB)(Fe:DV)(ds:Ds):List f9->Option (List f9)
 | []=>U []
 |x::r=>(gt x).bind λbs=>(Fc (U8 bs++ds)).bind λb=>if b=Uf then(Fe (U8 bs++ds)).bind λy=>(Q8 gt Fc Fe ds r).bind λl=>U (y.d::l)else Q8 gt Fc Fe ds r
def D0(Fi:DL)(gt:f9->Option (List f9))(Fc:DB)(Fe:DV):DV:=λds=>(Fi ds).bind λitems=>if items.length<=1000000 then(Q8 gt Fc Fe ds items).bind λl=>U (.own l)else J
structure MG(X:Cx)(ifs:List Expr)(t:TT)(F:DB):Prop where
 p:MH X ifs t
 t:ud X.K t F
noncomputable def C5:DB:=λ_=>U Uf
def Oe:MG c [] KS C5:=⟨EK,by intro O a d e H f b Q S X q;cases X;exact q H (w9.refl H)⟩
def Od(h:nN c e a7 a6):MG c [e] a7 a6:=⟨Ue h.p,h.t⟩
noncomputable def tgN:Expr->List Str
 | .Name x _=>[x]
 | .Tuple es _ _=>es.filterMap fun | .Name x _=>U x|_=>J
 |_=>[]
structure Ky(X:Cx)(e:Expr)(te:TE)(F:DV):Prop where
 p:PX X Uf e te F
 s:∀{i:Nat}{x:Str}{p q:Pos},X.N.Nodup->X.N[i]?=U x->Loc X.env.scope x->bG e (U (.Name x p)) q.line X.env=pure Uf->X.fn x=Uf\/X.env.scope.names.lookup x=U .local->PS X (.Assign [.Name x p] e q) (oG te (cO i))
def Im.x{X:Cx}(M:Im X b3 d6 d9 e r Z c8 j6 j7 a7 G)(t:TX X.K Uf (sG b3 j6 j7 a7 G) D):Ky X (.ListComp c8 [⟨e,r,Z,0⟩] d9 p) (sG b3 j6 j7 a7 G) D:=⟨⟨YW M,t⟩,λa b c d F=>YG a b c M d F⟩
def Yp(hc:c.calm=Uf)(hk:mC c.N d6 c.env.scope d9=Uf)(hb:tgN r=b3)(T:Xr c.K b3.length j7 o1)(hi:qs c Uf r c8 j6 a2)(go:Ik b3.length j7)(hg:∀cl C fp s H pins,PG (ph c b3 d6 d9 cl C fp s H pins) r j7)(ht:∀cl C fp s H pins,MG (ph c b3 d6 d9 cl C fp s H pins) Z a7 a6)(he:∀cl C fp s H pins,PX (ph c b3 d6 d9 cl C fp s H pins) Uf e G D)(hs:autoParam (Xw c c8) iz):Ky c (.ListComp e [⟨r,c8,Z,0⟩] d9 p) (sG b3 j6 j7 a7 G) (D0 a2 o1 a6 D):=Im.x ⟨hc,Qm hk,hi.p,go,hg,λ_ _ _ _ _ _=>(ht _ _ _ _ _ _).p,λ_ _ _ _ _ _=>(he _ _ _ _ _ _).p,hs⟩ (by
 intro O h v σ H n pv Q S f q;obtain⟨a,h1,f⟩:=t5 f;obtain⟨hn,f⟩:=K9 f;obtain⟨l,h2,f⟩:=t5 f;cases f;refine hi.t O h v σ H n a _ S h1 λJff H1 N it=>?_;have S1:=S.grow N;refine⟨a.length,λi ys L=>i<=a.length/\w9 H1 L/\∃F M,E9 c.K (D1 L v O) ys F/\Q8 o1 a6 D n (a.drop i)=U M/\F++M=l,qf hn,⟨iH _,w9.refl _,[],l,.nil,h2,rfl⟩,?_⟩;rintro i ys L ⟨hi',Y,F,M,d1,X,I⟩;have S2:=S1.grow Y;obtain⟨R,st',V⟩:=it L (D9.trans Y) i;by_cases E:i<a.length
 . refine .inr ⟨R E,E,λx m y=>?_⟩
   obtain⟨g,d,ed,dt⟩:=V x m y E;have dx:=dt v (λb A=>⟨by delta D1;rw[r9 (.inr A)],let ⟨_,z⟩:=(S2.new b A).2;⟨_,z⟩⟩) λb A=>by
    obtain⟨o,z⟩:=S.fT b A;refine⟨o,G5.mpr ⟨by simp,λz2=>?_,S1.same _ _ z⟩⟩;rw[(S.new b z2).1]at z;exact nE z
   have P:a.drop i=d::a.drop (i+1):=by
    rw[sv E];have:a[i]=d:=by have z:=L6 E;rw[ed]at z;exact(W5 z).symm
    rw[this]
   rw[P]at X;obtain⟨k,h3,X⟩:=t5 X;obtain⟨b,h4,X⟩:=t5 X;refine T O v m x d σ k _ dx h3 λvs dv lv=>?_;have W:=(S2.grow g).pre dv;refine((ht [] 0 [] c.X5 c.F6 []).t) O h _ _ m _ b _ W h4 λH5 w=>?_
   cases b with
   |false=>
    exact⟨E,(Y.trans g).trans w,F,M,d1.same (Q7 (g.trans w)),X,I⟩
   |true=>
    obtain⟨yv,h5,X⟩:=t5 X;obtain⟨l3,h6,X⟩:=t5 X;cases X;refine((he [] 0 [] c.X5 c.F6 []).t) O h _ _ H5 _ yv _ (W.grow w) h5 λu H6 e6 r6=>?_
    have d7:Dt c.K (D1 H6 v O) u yv.d:=by have z:Dt c.K (D1 H6 (F7 k.length J++v) O) u yv.d:=(r6.dt (W.grow w).dm);rw[Ca]at z;exact z
    exact⟨E,((Y.trans g).trans w).trans e6,F++[yv.d],l3,(d1.same (Q7 ((g.trans w).trans e6))).append (.cons d7 .nil),h6,by rw[<-I];simp⟩
 . have hi2:i=a.length:=by lia
   subst hi2;rw[Hs]at X;cases X;rw[af]at I;subst I;exact .inl ⟨st' G8,λj hp=>q _ _ ((N.trans Y).trans (w9.new hp)) (RX.back (oM hp d1) (N.trans Y))⟩)
inductive Out where
 |next (ds:Ds)
 |ret (pv:PV)
 |brk (ds:Ds)
 |cont (ds:Ds)
 |up (x:f9)
 |retO (pv:PV) (ds:Ds)
abbrev DO:=Ds->Option Out
variable{a8:DO}
def a5U(K:A6)(O:List Addr)(H:Hp)(ea:Addr)(x:f9):Prop:=∃C dx fld v d,x=Mp C fld d/\wd K C/\cY K (.ref C) fld=U J/\H ea=U (.ext (a4H ea C (U dx)))/\H dx=U (.xd [(fld,v)])/\dx∉O/\Dt K (D1 H [] (ea::O)) v d
def Bf(X:Cx)(O:List Addr)(F6:Hp)(D:Ends):Out->Prop
 | .next ds=>∀as σ H,DS X.K O F6 as σ H ds->D.nx σ H
 | .brk ds=>∀as σ H,DS X.K O F6 as σ H ds->D.bk σ H
 | .cont ds=>∀as σ H,DS X.K O F6 as σ H ds->D.ct σ H
 | .ret pv=>∀v H,w9 F6 H->RX X.K O [] F6 H v pv->D.rt v H
 | .up x=>∀ea H,w9 F6 H->F6 ea=J->a5U X.K O H ea x->∀pins σ s,Inv X pins σ H s->X.xe (.ref ea) s
 | .retO pv ds=>∀as σ Hm H v,DS X.K O F6 as σ Hm ds->w9 Hm H->RX X.K O as Hm H v pv->D.rt v H
def TSX(X:Cx)(t:TS)(G:DO):Prop:=
 ∀(O:List Addr) (F6:Hp) (as:As) (σ:St) (H:Hp) (ds:Ds) (D:Ends) (o:Out),DS X.K O F6 as σ H ds->G ds=U o->Bf X O F6 D o->t D σ H
structure T3(X:Cx)(st:Stmt)(t:TS)(G:DO):Prop where
 p:PS X st t
 t:TSX X t G
structure pA(X:Cx)(st:List Stmt)(t:TS)(G:DO):Prop where
 p:qr X st t
 t:TSX X t G
noncomputable def F4:DO:=λds=>U (.next ds)
noncomputable def t8(G1 G2:DO):DO:=λds=>(G1 ds).bind λo=>match o with
 | .next ds'=>G2 ds'
 |o=>U o
section
def TJ:pA c [] Ww F4:=⟨YF,by intro O a X b H e D o S d q;cases d;exact q X b H S⟩
def TH(h:T3 c j3 k9 a8):pA c [j3] k9 a8:=⟨YE h.p,h.t⟩
set_option tactic.hygienic true in
def NV{u:TS}{G2:DO}(g:T3 c j3 k9 a8)(h:pA c n6 u G2):pA c (j3::n6) (a0I k9 u) (t8 a8 G2):=⟨TK g.p h.p,by
 intro O X k j H i D o S a q;obtain⟨f,e1,a⟩:=t5 a;refine g.t O X k j H i {D with nx:=u D} f S e1 ?_
 cases f with
 |next b=>exact λd e l m=>h.t O X d e l b D o m a q
 |ret pv=>cases a;exact q
 |brk b=>cases a;exact q
 |cont b=>cases a;exact q
 |up x=>cases a;exact q
 |retO pv b=>cases a;exact q⟩
def wY(i:Nat)(G:DO):DO:=λds=>G (Cg i ds)
def TF(i:Nat)(h:T3 c j3 k9 a8):T3 c j3 k9 (wY i a8):=⟨h.p,by intro O a f X H g D o S e q;obtain⟨b,d⟩:=S.Cg i;exact h.t O a b X H _ D o d e q⟩
theorem DS.set(S:DS g O m q B o y)(i:Nat)(h:Dt g (D1 o q O) Y i3):DS g O m q (B.set i (U Y)) o (y.set i (sd i3)):=by
 obtain⟨f,l,e,k⟩:=S.jx;refine⟨by simp[S.ls],S.same,S.new,S.fT,f,l,e,λj pv a=>?_⟩;by_cases b:i=j;subst b;rw[AD]at a;rw[r9 rfl]at a;obtain⟨K,a⟩:=K9 a;cases a;exact⟨Y,by rw[vU (by rw[S.ls];exact K)],h⟩;rw[iW b]at a;rw[iW b];exact k j pv a
def mw(h:w9 m o)(f:∀b∈j4,m b=J):w9 (D1 m q O) (D1 o (j4.map U++q) O):=gj λb H i g a=>⟨i,λz=>by
 rcases List.mem_append.mp z with z|z
 obtain⟨j,e,d⟩:=mem_map.mp z;cases d;rw[f b e]at a;exact nE a
 . exact g z,h _ _ a⟩
set_option tactic.hygienic true in
def DS.store(S:DS g O m q B o y)(t:w9 o d8)(i:Nat)(r:RX g O q o d8 Y i5):∃n,DS g O m n (B.set i (U Y)) d8 (y.set i (U i5)):=by
 have D:=S.grow t;have Z:∀R:List Addr,(∀b∈R,o b=J)->(∀b∈R,∃u:Cl,d8 b=U u.1)->DS g O m (R.map U++q) B d8 y/\∀b∈R,m b=J/\U b∉q/\∃u:Cl,d8 b=U u.1:=λR p G=>by
  have X:∀b∈R,U b∉q:=λb e z=>by obtain⟨_,f,z⟩:=S.new b z;rw[p b e]at z;exact nE z
  have v:∀b∈R,m b=J/\U b∉q/\∃u:Cl,d8 b=U u.1:=λb e=>⟨S.same.free (p b e),X b e,G b e⟩;obtain⟨F,W,M,I⟩:=S.jx;refine⟨⟨S.ls,D.same,λb e=>?_,S.fT,F,λi b z=>N1 _ (W i b z),M,λj i5 K=>(I j i5 K).CJ (mw t p) (λb _ f z=>t _ _ z) λb z=>z⟩,v⟩
  rcases List.mem_append.mp e with z|z
  obtain⟨b',A,E⟩:=mem_map.mp z;cases E;exact⟨(v b A).1,(v b A).2.2⟩;exact D.new b z
 have N:∀R:List Addr,(∀b∈R,o b=J)->(∀b∈R,∃u:Cl,d8 b=U u.1)->cT g O (R.map U++q) d8 (U (U Y)) R i5->∃n,DS g O m n (B.set i (U Y)) d8 (y.set i (U i5)):=λR p G F6=>by
  obtain⟨T,v⟩:=Z R p G;obtain⟨F,W,M,I⟩:=S.jx;refine⟨_,by simp[S.ls],D.same,T.new,S.fT,λj=>if j=i then R else F j,λj b e=>?_,λj k b x s=>?_,λj i5 K=>?_⟩;dsimp only at e;split at e;exact T1 _ (mem_map.mpr ⟨b,e,rfl⟩);exact N1 _ (W j b e);dsimp only at x s;split at x;split at s;rename_i A E;rw[A,E];exact absurd (W k b s) (v b x).2.1;split at s;exact absurd (W j b x) (v b s).2.1;exact M j k b x s;by_cases H:i=j;subst H;rw[AD]at K;rw[r9 rfl]at K;obtain⟨Q,K⟩:=K9 K;cases K;dsimp only;rw[r9 rfl,vU (by rw[S.ls];exact Q)];exact F6;rw[iW H]at K;dsimp only;rw[s9 (λz=>H z.symm),iW H];exact(I j i5 K).CJ (mw t p) (λb _ f z=>t _ _ z) λb z=>z
 cases i5 with
 |dat d=>exact⟨_,D.set i r⟩
 |ob w c=>
  obtain⟨f,R,rfl,L,C,h⟩:=r;exact N R C h.at ⟨f,R,rfl,L,λb z=>z,h⟩
 |own l=>
  obtain⟨a,P,rfl,L,C,h⟩:=r;refine N [a] (λb e=>?_) (λb e=>?_) ⟨a,P,rfl,F2,C,h⟩;rw[mem_singleton.mp e];exact L;rw[mem_singleton.mp e];exact⟨Cl.l P,C⟩
noncomputable def U5(i:Nat)(F:DV):DO:=λds=>(F ds).bind λpv=>U (.next (ds.set i (U pv)))
noncomputable def u6(i:Nat)(F:DV):DO:=λds=>(F ds).bind λpv=>U (.next (ds.set i (U (.dat pv.d))))
def Yx(r:c.N.Nodup)(l:c.N[N]?=U u)(k:Loc c.env.scope u)(d:PX c Uf e G D)(hs:autoParam (bG e (U (.Name u E)) p.line c.env=pure U') w4)(n:autoParam (Bc c u) jZ):
  T3 c (.Assign [.Name u E] e p) (oG G (cO N)) (U5 N D):=⟨NW r l k d.p hs n,by
 intro O b j g H f F o S h q;obtain⟨pv,e1,h⟩:=t5 h;cases h;refine d.t O b j g H f pv _ S e1 λv w m s=>?_
 obtain⟨X,i⟩:=S.store m N s;exact q X _ _ i⟩
def Tv(n:c.N.Nodup)(k:c.N[N]?=U u)(j:Loc c.env.scope u)(X:PX c Uf e G D)(hs:autoParam (bG e (U (.Name u E)) p.line c.env=pure U') w4)(m:autoParam (Bc c u) jZ):
  T3 c (.Assign [.Name u E] e p) (oG G (cO N)) (u6 N D):=⟨NW n k j X.p hs m,by
 intro O b g f H d F o S h q;obtain⟨pv,e1,h⟩:=t5 h;cases h;refine X.t O b g f H d pv _ S e1 λv s l r=>?_
 exact q _ _ _ ((S.grow l).set N (r.dt S.dm))⟩
noncomputable def C9(F:DV):DO:=λds=>(F ds).bind λpv=>U (.ret pv)
def Jx{fr:Bool}(X:PX c fr e G D):T3 c (.Return (U e) p) (Sy G) (C9 D):=⟨NX X.p,by
 intro O a g f H d F o S h q;obtain⟨pv,e1,h⟩:=t5 h;cases h;refine X.t O a g f H d pv _ S e1 λv k i j=>?_
 exact q v k (S.same.trans i) ((j.back S.same).less λb z=>by simp at z)⟩
noncomputable def av(i:Nat):DO:=λds=>match ds[i]? with
 |some (U pv)=>U (.ret pv)
 |_=>J
set_option tactic.hygienic true in
def Tx(i:Nat)(h:PE c e (S3 i)):T3 c (.Return (U e) p) (Sy (S3 i)) (av i):=⟨NX h,by
 intro O j B A H E D o S h q;unfold av at h;split at h
 . rename_i pv n;cases h;have g:=S.slot i pv n;cases pv with
   |dat d=>
    obtain⟨v,f,h⟩:=g;exact⟨v,f,q v H S.same (Dt.same (bj (w9.refl _) λb z=>by simp at z) h)⟩
   |own l=>
    obtain⟨a,u,f,k,s,h⟩:=g;refine⟨_,f,q _ H S.same ⟨a,u,rfl,(S.new a k).1,s,h.same (bj (w9.refl _) λb z=>?_)⟩⟩
    simp_all
   |ob w X=>
    obtain⟨o,R,f,y,m,h⟩:=g;refine⟨_,f,q _ H S.same ⟨o,R,rfl,y,λb t=>(S.new b (m b t)).1,h.same (bj (w9.refl _) λb z=>?_) (λ_ _ _ z=>z)⟩⟩;rw[af]at z;obtain⟨C,r,x⟩:=mem_map.mp z;cases x;exact m b r
 . exact nE h⟩
noncomputable def M0(Ft:DB)(G1 G2:DO):DO:=λds=>(Ft ds).bind λb=>if b=Uf then G1 ds else G2 ds
def a1B{sb:List Stmt}{u:TS}{G2:DO}(g:nN c e a7 a6)(k:pA c n6 k9 a8)(i:pA c sb u G2):T3 c (.If e n6 sb p) (a0M a7 k9 u) (M0 a6 a8 G2):=⟨a3W g.p k.p i.p,by
 intro O a f X H d D o S h q;obtain⟨b,e1,h⟩:=t5 h;refine g.t O a f X H d b _ S e1 λl j=>?_
 cases b with
 |true=>exact k.t O a f X l d D o (S.grow j) h q
 |false=>exact i.t O a f X l d D o (S.grow j) h q⟩
noncomputable def ve:DO:=λ_=>J
def NT:T3 c j3 Ni ve:=⟨TM,by exact λO a X b H d D o S h q=>nE h⟩
end
def DS.DM{e:PV}{u:Cl}{c:Nat->List Addr}(S:DS g O m q B o y)(hd:y[N]?=U (U i5))(H:∀N b,b∈c N->U b∈q)(n:∀N j b,b∈c N->b∈c j->N=j)(s:∀(N:Nat) (i5:PV),y[N]?=U (U i5)->cT g O q o B[N]? (c N) i5)(l:z∈c N)(r:w9 (D1 o q O) (D1 (upd o z u.1) q O)->cT g O q (upd o z u.1) B[N]? (c N) e):DS g O m q B (upd o z u.1) (y.set N (U e)):=by
 have sm:w9 (D1 o q O) (D1 (upd o z u.1) q O):=gj λb f t p v=>⟨t,p,by rw[L8 (λa=>p (by rw[a];exact H N z l))];exact v⟩;have i:=(List.getElem?_eq_some_iff.mp hd).1;refine⟨by simp[S.ls],λb f h=>?_,λb K=>⟨(S.new b K).1,?_⟩,S.fT,c,H,n,λj i5 k=>?_⟩;rw[L8 (λa=>?_)];exact S.same _ _ h;rw[a,(S.new z (H N z l)).1]at h;exact nE h;by_cases a:b=z;exact⟨u,by rw[a];exact Q5⟩;obtain⟨_,f,h⟩:=S.new b K;exact⟨f,by rw[L8 a];exact h⟩;by_cases d:N=j;subst d;rw[vU i]at k;cases k;exact r sm;rw[iW d]at k;refine(s j i5 k).CJ sm (λb K f a=>?_) λb a=>a;rw[L8 (λw=>d (n N j z l (by rw[<-w];exact K)))];exact a
def DS.turn{h:List f9}(S:DS g O m q B o y)(hd:y[N]?=U (U (.own M)))(f:B[N]?=U (U (.ref z)))(k:E9 g (D1 o q O) L h):
  DS g O m q B (upd o z (.lst L)) (y.set N (U (.own h))):=by obtain⟨n,H,j,K⟩:=S.jx;obtain⟨r,p,e,d,c,l⟩:=K N _ hd;rw[f]at e;cases e;exact S.DM (u:=Cl.l L) hd H j K d λsm=>⟨z,L,f,d,Q5,k.same sm⟩
noncomputable def aW(i:Nat)(F:DV):DO:=λds=>(F ds).bind λpv=>match ds[i]? with
 |some (U (.own l))=>if l.length<1000000 then U (.next (ds.set i (U (.own (l++[pv.d])))))else J
 |_=>J
section
set_option tactic.hygienic true in
def YD(i:Nat)(C:PE c r (S3 i))(w:PX c Uf e G D)(bm:autoParam (Ip c r "append" d3 e [] E) rK)(hs:autoParam (bG (.Call (.Attribute r "append" d3) [e] [] E) J p.line c.env=pure U') w4):
  T3 c (.Expr (.Call (.Attribute r "append" d3) [e] [] E) p) (sF (Eo c.K "list" Bv (S3 i) (jI G qF))) (aW i D):=
 ⟨ow (wC tJ RH RG CO C (fK w.p oP bm.s) bm) hs,by
 intro O g u n H z F r S h q;obtain⟨pv,e1,h⟩:=t5 h;split at h;rename_i l m;obtain⟨o,h⟩:=K9 h;cases h;obtain⟨a,A,X,b,s,y⟩:=S.slot i _ m;refine⟨_,X,.inl ⟨rfl,A,O2.of s⟩,?_⟩;refine w.t O g u n H z pv _ S e1 λv I k B=>?_;have:=y.length;refine⟨a,A,v,rfl,rfl,k _ _ s,O1 C4 (qf G8),q u n _ ?_⟩;exact(S.grow k).turn m X ((y.same (Q7 k)).append (.cons (B.dt S.dm) .nil))
 . exact nE h⟩
end
def DS.rebase(S:DS g O m q B o y):DS g O (D1 o q []) q B o y where
 ls:=S.ls
 same:=D9
 new:=λa h=>⟨by delta D1;rw[r9 (.inr h)],(S.new a h).2⟩
 fT:=λa h=>by
  obtain⟨K,z⟩:=S.fT a h;refine⟨K,G5.mpr ⟨by simp,λH=>?_,S.same _ _ z⟩⟩;rw[(S.new a H).1]at z;exact nE z
 jx:=S.jx
def DS.qP(S:DS g O o q B d8 y)(e:w9 m o)(hd:∀a∈O,∃K,m a=U K):DS g O m q B d8 y:=
 ⟨S.ls,e.trans S.same,λa h=>⟨e.free (S.new a h).1,(S.new a h).2⟩,hd,S.jx⟩
def DS.a0F(S:DS g O m q B o y):w9 m (D1 o q []):=λb K h=>by
 refine G5.mpr ⟨by simp,λH=>?_,S.same _ _ h⟩;rw[(S.new b H).1]at h;exact nE h
set_option tactic.hygienic true in
theorem Bf.qP{X:Cx}{O:List Addr}{F6 Hb:Hp}{D:Ends}{o:Out}(h:Bf X O F6 D o)(e:w9 F6 Hb)(hd:∀a∈O,∃u,F6 a=U u):Bf X O Hb D o:=by
 cases o with
 |next d=>exact λc b H S=>h c b H (S.qP e hd)
 |brk d=>exact λc b H S=>h c b H (S.qP e hd)
 |cont d=>exact λc b H S=>h c b H (S.qP e hd)
 |ret pv=>exact λv H s r=>h v H (e.trans s) (r.back e)
 |up x=>exact λf H s n u=>h f H (e.trans s) (e.free n) u
 |retO pv d=>exact λc b g H v S s r=>h c b g H v (S.qP e hd) s r
def TGX(K:A6)(g:TG)(gt:f9->DD):Prop:=
 ∀(O:List Addr) (F6:Hp) (as:As) (σ:St) (H:Hp) (ds ds':Ds) (v:V) (d:f9) (Q:St->Hp->Prop),DS K O F6 as σ H ds->Dt K (D1 H as O) v d->gt d ds=U ds'->(∀as' σ',DS K O F6 as' σ' H ds'->Q σ' H)->g v σ H Q
def D7(i:Nat):f9->DD:=λd ds=>U (ds.set i (U (.dat d)))
def Sr:TGX g (cO N) (D7 N):=by intro O a f c H K b v d Q S h e q;cases e;exact q _ _ (S.set N h)
def MD(K:A6)(g:xB)(gt:List f9->DD):Prop:=
 ∀(O:List Addr) (F6:Hp) (as:As) (σ:St) (H:Hp) (ds ds':Ds) (vs:List V) (l:List f9) (Q:St->Hp->Prop),DS K O F6 as σ H ds->E9 K (D1 H as O) vs l->gt l ds=U ds'->(∀as' σ',DS K O F6 as' σ' H ds'->Q σ' H)->g vs σ H Q
def dA:List f9->DD
 | [],ds=>U ds
 |_,_=>J
def M1(i:Nat)(r:List f9->DD):List f9->DD
 |d::l,ds=>r l (ds.set i (U (.dat d)))
 | [],_=>J
def du(n:Nat)(r:List f9->DD):f9->DD
 | .tuple l,ds=>if l.length=n then r l ds else J
 |_,_=>J
def Ss:MD g Mm dA:=by
 intro O a d c H f b K l Q S h e q;cases h with
 |nil=>cases e;exact⟨rfl,q _ _ S⟩
 |cons _ _=>exact nE e
def Ng(c:MD g m8 p8):MD g (sU (cO N) m8) (M1 N p8):=by
 intro O a f d H j b k l Q S h e q;cases h with
 |nil=>exact nE e
 |cons h t=>
  exact⟨_,_,rfl,c O a _ _ H _ b _ _ Q (S.set N h) t e q⟩
set_option tactic.hygienic true in
def XO(t:MD g m8 p8):TGX g (Cd g N m8) (du N p8):=by
 intro O b p m H k ds' v d Q S h e q;cases h with
 |tup s i=>
  rename_i a j l;have f:=e;obtain⟨o,f⟩:=K9 f;exact⟨a,j,rfl,D9.hV s,by rw[i.length];exact o,t O b p m H k ds' j l Q S i f q⟩
 |_=>exact nE e
noncomputable def V6(gt:f9->DD)(G:DO):List f9->DO
 | [],ds=>U (.next ds)
 |x::r,ds=>(gt x ds).bind λds1=>(G ds1).bind λo=>match o with
  | .next ds2=>V6 gt G r ds2
  | .cont ds2=>V6 gt G r ds2
  | .brk ds2=>U (.next ds2)
  | .ret pv=>U (.ret pv)
  | .up x=>U (.up x)
  | .retO pv ds2=>U (.retO pv ds2)
def G0(Fi:DL)(gt:f9->DD)(G:DO):DO:=λds=>(Fi ds).bind λitems=>V6 gt G items ds
section
set_option tactic.hygienic true in
def YA(hp:zT (model c.prog c.w) c.A c.env c.xe)(hc:c.calm=Uf)(Z:TGX c.K j7 n8)(hi:qs c Uf e r j6 a2)(hg:PG c e j7)(C:pA c n6 k9 a8)(hs:autoParam (Xw c r) iz):T3 c (.For e r n6 [] p) (a0N j6 j7 k9) (G0 a2 n8 a8):=⟨a1C hp hc hi.p hg C.p hs,by
 intro O M N σ H W D o S h q;obtain⟨a,e1,h⟩:=t5 h;refine hi.t O M N σ H W a _ S e1 λJff H1 s1 it=>?_;have S1:=S.grow s1;have L:=q.qP S1.a0F S.fT;refine⟨λi m l n=>i<=a.length/\m=a.length-i/\∃G k,DS c.K O (D1 H1 N []) G l n k/\V6 n8 a8 (a.drop i) k=U o,⟨_,iH _,rfl,N,W,S1.rebase,h⟩,?_⟩;rintro i m I H2 ⟨hi',em,s,E,B,X⟩;obtain⟨R,st',V⟩:=it H2 B.same i;by_cases g:i<a.length
 . have ed':=sv g;rw[ed']at X;obtain⟨v,e3,X⟩:=t5 X;obtain⟨o4,e4,X⟩:=t5 X;refine .inr ⟨R g,λl n=>∃G k,DS c.K O (D1 H1 N []) G l n k/\V6 n8 a8 (a.drop (i+1)) k=U o,λl n z=>⟨a.length-(i+1),by lia,g,rfl,z⟩,λx n y=>?_⟩
   obtain⟨e5,d,ed,dt⟩:=V x n y g;have Q:a[i]=d:=by rw[L6 g]at ed;exact W5 ed
   rw[Q]at e3;refine Z O _ s I n E v x d _ (B.grow e5) (dt s (λb C=>⟨(B.new b C).1,let ⟨_,z⟩:=(B.new b C).2;⟨_,z⟩⟩) B.fT) e3 λY σ4 S4=>?_
   refine C.t O _ Y σ4 n v _ o4 S4 e4 ?_;cases o4 with
   |next j=>exact λf u P F=>⟨f,j,F,X⟩
   |cont j=>exact λf u P F=>⟨f,j,F,X⟩
   |brk j=>cases X;assumption
   |ret pv=>cases X;exact L
   |up x=>cases X;exact L
   |retO pv j=>cases X;exact L
 . have T:i=a.length:=by lia
   subst T;rw[Hs]at X;cases X;exact .inl ⟨st' G8,L s I H2 B⟩⟩
noncomputable def P1(Fc:DB)(G:DO):Nat->DO
 | 0,_=>J
 |n+1,ds=>(Fc ds).bind λb=>if b=Uf then(G ds).bind λo=>match o with
   | .next ds2=>P1 Fc G n ds2
   | .cont ds2=>P1 Fc G n ds2
   | .brk ds2=>U (.next ds2)
   | .ret pv=>U (.ret pv)
   | .up x=>U (.up x)
   | .retO pv ds2=>U (.retO pv ds2)
  else U (.next ds)
def jS(μ:Ds->Nat)(Fc:DB)(G:DO):DO:=λds=>P1 Fc G (μ ds) ds
set_option tactic.hygienic true in
def NQ(μ:Ds->Nat)(P:zT (model c.prog c.w) c.A c.env c.xe)(C:nN c e a7 a6)(y:pA c n6 k9 a8):T3 c (.While e n6 [] p) (Nh a7 k9) (jS μ a6 a8):=⟨TL P C.p y.p,by
 intro O d M Q H N D o S h q;refine⟨λm i r=>∃k f,DS c.K O d k i r f/\P1 a6 a8 m f=U o,⟨_,M,N,S,h⟩,?_⟩
 rintro m j I ⟨l,g,s,a⟩;cases m with
 |zero=>exact nE a
 |succ m=>
  obtain⟨b,e1,a⟩:=t5 a;refine C.t O d l j I g b _ s e1 λF E=>?_
  cases b with
  |false=>
   cases a;exact q l j F (s.grow E)
  |true=>
   obtain⟨B,e4,a⟩:=t5 a;refine⟨λi r=>∃k f,DS c.K O d k i r f/\P1 a6 a8 m f=U o,λi r z=>⟨m,pR _,z⟩,?_⟩
   refine y.t O d l j F g _ B (s.grow E) e4 ?_;cases B with
   |next X=>exact λn u L v=>⟨n,X,v,a⟩
   |cont X=>exact λn u L v=>⟨n,X,v,a⟩
   |brk X=>cases a;exact q
   |ret pv=>cases a;exact q
   |up x=>cases a;exact q
   |retO pv X=>cases a;exact q⟩
end
def Lo:Out->Option PV
 | .ret pv=>U pv
 | .next _=>U (.dat .none)
 |_=>J
noncomputable def J5(n N:Nat)(G:DO):FV:=λl=>if l.length=n then(G (U8 l++F7 (N-n) J)).bind Lo else J
section
variable{w:G6}{K:A6}{mg:Str->Option t7}
theorem DS.start(c:∀a∈O,∃u,m a=U u)(h:E9 K (D1 m [] O) L M):DS K O m (F7 (U8 M++F7 (b3.length-M.length) J).length J) (start b3 L) m (U8 M++F7 (b3.length-M.length) J):=by
 have d:DS K O m (F7 (b3.length-M.length) J) (F7 (b3.length-M.length) J) m (F7 (b3.length-M.length) J):=
  ⟨by simp,w9.refl m,λa z=>absurd z ou,c,λ_=>[],λi b z=>absurd z F5,λi j b z=>absurd z F5,λi pv z=>by have:=qt z;simp[QU]at this⟩
 have e:(F7 (U8 M++F7 (b3.length-M.length) J).length J:As)=F7 M.length J++F7 (b3.length-M.length) J:=by
  congr 1
  simp[U8]
 rw[e];delta L2.start;rw[h.length];exact(d.pre (by rw[ZM];exact h))
set_option tactic.hygienic true in
def vY.okF(F:vY K u b7 j3 z j9) (S:lL b3 d6 (O3 j3)) (R:d6.length<=b3.length) (d:∀(c:t7) (A:aY) (outer:List Env) (s:A0) (H:Hp) (E:XK),S5 d2 (A.deeper (gp b7 (O3 j3) (hz s) z c)) ->
   ∃t,pA (qH um a9 w K mg b4 b3 b7 (O3 j3) z c A outer s H E).CN (cI j3) t a8):ie a9 w K mg b4 um (d2+1) z j9 d6 (H0 K (J5 d6.length b3.length a8)):=by
 have D:∀j H Q E,H0 K (J5 d6.length b3.length a8) j H Q E->j.length=d6.length:=λj H Q E h=>by obtain⟨O,n,pv,x,P,a,q⟩:=h;obtain⟨l,a⟩:=K9 a;rw[P.length];exact l
 refine F.ok S D λc A outer s H j Q E B h=>?_
 obtain⟨O,n,pv,x,P,a,q⟩:=h;obtain⟨t,y⟩:=d c A outer s H E B;refine⟨t,y.p,?_⟩;obtain⟨l,a⟩:=K9 a;rw[<-l]at a;obtain⟨o,e1,a⟩:=t5 a;refine y.t O H _ (L2.start b3 j) H _ _ o (DS.start x P) e1 ?_;cases o with
 |next e=>cases a;exact λM L m I=>q _ m I.same Dt.non
 |ret C=>cases a;assumption
 |brk e=>exact nE a
 |cont e=>exact nE a
 |up u=>exact nE a
 |retO pv e=>exact nE a
end
instance {m:Nat}{i:Int}:Decidable (Bt m i):=decidable_of_iff (i.natAbs<2^m) ⟨λh=>⟨h⟩,λh=>h.lt⟩
instance {i j:Int}:Decidable (Cv i j):=by delta Cv;infer_instance
noncomputable def JX(g:Int->Int->f9):f9->f9->Option PV
 | .int i,.int j=>U (.dat (g i j))
 |_,_=>J
noncomputable def uY(C:Int->Int->Prop)[∀i j,Decidable (C i j)](g:Int->Int->f9):f9->f9->Option PV
 | .int i,.int j=>if C i j then U (.dat (g i j))else J
 |_,_=>J
section
variable{K:A6}
def uK(b:∀i j H,Dt K H (p9 i j) (q5 i j)):fG K (nH p9) (JX q5):=by
 intro O h H x y d e pv Q D c f a q;cases c with
 |int i=>
  cases f with
  |int j=>
   cases a;exact⟨i,j,rfl,rfl,q _ H (w9.refl H) (b i j _)⟩
  |_=>exact nE a
 |_=>exact nE a
def uJ{C c:Int->Int->Prop}[∀i j,Decidable (C i j)](k:∀i j,C i j->c i j)(f:∀i j H,Dt K H (p9 i j) (q5 i j)):fG K (rI c p9) (uY C q5):=by
 intro O n H x y d e pv Q D h l b q;cases h with
 |int i=>
  cases l with
  |int j=>
   have a:=b;obtain⟨m,a⟩:=K9 a;cases a;exact⟨i,j,rfl,rfl,k i j m,q _ H (w9.refl H) (f i j _)⟩
  |_=>exact nE b
 |_=>exact nE b
def di:=JX λi j=>.int (i-j)
def aG:=uY (λi j=>Bt 60000 i/\Bt 60000 j) λi j=>.int (i*j)
def Z7:=uY (λ_ j=>j≠0/\Bt 8000 j) λi j=>.int (i.fdiv j)
def fh:=uY (λ_ j=>j≠0) λi j=>.int (i.fmod j)
def xT:=uY Cv λi j=>.int (i^j.toNat)
def KW:=uY (λ_ j=>0<=j) λi j=>.int (i/2^j.toNat)
def oV:=JX λi j=>.bool (decide (i<j))
def tY:=JX λi j=>.bool (decide (i<=j))
def nK:=JX λi j=>.bool (decide (j<i))
def vd:=JX λi j=>.bool (decide (j<=i))
def a3y:fG K (nH λi j=>.int (i-j)) di:=uK λi j H=>.int _
def a3C:fG K (rI (λi j=>Bt 60000 i/\Bt 60000 j) λi j=>.int (i*j)) aG:=uJ (λ_ _ h=>h) λi j H=>.int _
def a0q:fG K (rI (λ_ j=>j≠0/\Bt 8000 j) λi j=>.int (i.fdiv j)) Z7:=uJ (λ_ _ h=>h) λi j H=>.int _
def a3D:fG K (rI (λ_ j=>j≠0) λi j=>.int (i.fmod j)) fh:=uJ (λ_ _ h=>h) λi j H=>.int _
def a3A:fG K (rI Cv λi j=>.int (i^j.toNat)) xT:=uJ (λ_ _ h=>h) λi j H=>.int _
def a3z:fG K (rI (λ_ j=>0<=j) λi j=>.int (i/2^j.toNat)) KW:=uJ (λ_ _ h=>h) λi j H=>.int _
def Sd:fG K (nH λi j=>.bl (decide (i<j))) oV:=uK λi j H=>.bl _
def a0m:fG K (nH λi j=>.bl (decide (i<=j))) tY:=uK λi j H=>.bl _
def a0o:fG K (nH λi j=>.bl (decide (j<i))) nK:=uK λi j H=>.bl _
def a0p:fG K (nH λi j=>.bl (decide (j<=i))) vd:=uK λi j H=>.bl _
def dD:f9->Option PV
 | .int i=>U (.dat (.int (-i)))
 |_=>J
def a3B:R1X K (rU λi=>.int (-i)) dD:=by
 intro O c H x d pv Q D b a q;cases b with
 |int i=>cases a;exact⟨i,rfl,q _ H (w9.refl H) (Dt.int _)⟩
 |_=>exact nE a
noncomputable def X0:f9->f9->Option PV
 | .str i,.str j=>U (.dat (.bool (decide (i=j))))
 |d,e=>if aR d=Uf/\aR e=Uf then U (.dat (.bool (aw d e)))else J
noncomputable def dE:f9->f9->Option PV
 | .str i,.str j=>U (.dat (.bool (!decide (i=j))))
 |d,e=>if aR d=Uf/\aR e=Uf then U (.dat (.bool (!PyData.eqv d e)))else J
def Ld(K:A6):R2:=λx y H Q=>rEq x y H Q\/∃d e,Dt K H x d/\Dt K H y e/\aR d=Uf/\aR e=Uf/\Q (.bl (aw d e)) H
def Tc(K:A6):R2:=λx y H Q=>rNe x y H Q\/∃d e,Dt K H x d/\Dt K H y e/\aR d=Uf/\aR e=Uf/\Q (.bl (!PyData.eqv d e)) H
def Oo(a:c.A.units+64<U0):Y9 c (bp .Eq) (Ld c.K):=a4e.or (a2d a)
def a1Y(a:c.A.units+64<U0):Y9 c (bp .NotEq) (Tc c.K):=a4d.or (a1Z a)
set_option tactic.hygienic true in
def a0r:fG K (Ld K) X0:=by
 intro O g H x y d e pv Q D b f a q;unfold X0 at a;split at a;cases a;cases b;cases f;rename_i i j;exact .inl ⟨rfl,q _ H (w9.refl H) (by rw[show decide (V.str i=V.str j)=decide (i=j) by simp];exact Dt.bl _)⟩;obtain⟨c,a⟩:=K9 a;cases a;exact .inr ⟨d,e,b.same D9,f.same D9,c.1,c.2,q _ H (w9.refl H) (Dt.bl _)⟩
set_option tactic.hygienic true in
def a5x:fG K (Tc K) dE:=by
 intro O g H x y d e pv Q D b f a q;unfold dE at a;split at a;cases a;cases b;cases f;rename_i i j;exact .inl ⟨rfl,q _ H (w9.refl H) (by rw[show decide (V.str i=V.str j)=decide (i=j) by simp];exact Dt.bl _)⟩;obtain⟨c,a⟩:=K9 a;cases a;exact .inr ⟨d,e,b.same D9,f.same D9,c.1,c.2,q _ H (w9.refl H) (Dt.bl _)⟩
def oA:f9->Bool
 | .none=>Uf
 |_=>U'
def Dt.JH(h:Dt K m Y i3):decide (Y=.non)=oA i3:=by cases h<;>rfl
def oX:f9->f9->Option PV
 |d,.none=>U (.dat (.bool (oA d)))
 |_,_=>J
def iw:f9->f9->Option PV
 |d,.none=>U (.dat (.bool (!oA d)))
 |_,_=>J
def a5y:fG K (λx y H Q=>y=.non/\Q (.bl (decide (x=.non))) H) oX:=by
 intro O f H x y d e pv Q D b c a q;cases c with
 |non=>cases a;exact⟨rfl,q _ H (w9.refl H) (by rw[b.JH];exact Dt.bl _)⟩
 |_=>exact nE a
def Xy:fG K (λx y H Q=>y=.non/\Q (.bl (!decide (x=.non))) H) iw:=by
 intro O f H x y d e pv Q D b c a q;cases c with
 |non=>cases a;exact⟨rfl,q _ H (w9.refl H) (by rw[b.JH];exact Dt.bl _)⟩
 |_=>exact nE a
noncomputable def K6(d:f9):f9->Option PV
 | .int i=>match d with
  | .list l=>(aA l i).bind λd=>U (.dat d)
  | .tuple l=>(aA l i).bind λd=>U (.dat d)
  | .str z=>if z.length<=1000000 then(aA z.cps.toList i).bind λc=>U (.dat (.str ⟨#[c]⟩))else J
  |_=>J
 |_=>J
theorem E9.aA{H:Hp}{xs:List V}{l:List f9}{i:Int}{d:f9}(h:E9 K H xs l)(e:L2.aA l i=U d):∃x,L2.aA xs i=U x/\Dt K H x d:=by
 unfold L2.aA at e⊢;rw[h.length];cases hi:gh l.length i with
 |none=>simp_all
 |some j=>
  rw[hi]at e;exact h.get e
def a0n:fG K (Jr K) K6:=by
 intro O r H x y d e pv Q D p m f q;cases m with
 |int i=>cases p with
  |lst j n=>
   obtain⟨d,a,b⟩:=t5 f;cases b;obtain⟨v,h,k⟩:=n.aA a;exact .inl ⟨_,_,i,v,rfl,rfl,D9.seq j,h,q v H (w9.refl H) k⟩
  |tup j n=>
   obtain⟨d,a,b⟩:=t5 f;cases b;obtain⟨v,h,k⟩:=n.aA a;exact .inr (.inl ⟨_,_,i,v,rfl,rfl,D9.hV j,h,q v H (w9.refl H) k⟩)
  |str z=>
   obtain⟨o,b⟩:=K9 f;obtain⟨c,a,b⟩:=t5 b;cases b;exact .inr (.inr ⟨z,i,c,rfl,rfl,qf o,a,q _ H (w9.refl H) (Dt.str _)⟩)
  |_=>exact nE f
 |_=>exact nE f
end
def WI(K:A6):R2:=λx y H Q=>∃a b xs ys,x=.ref a/\y=.ref b/\ae K H a xs/\ae K H b ys/\xs.length+ys.length<=J4 /\
 (xs=[]->Q (.ref b) H)/\(xs≠[]->ys=[]->Q (.ref a) H)/\(xs≠[]->ys≠[]->∀p,H p=J->Q (.ref p) (upd H p (.tup (xs++ys))))
def WJ(K:A6):R2:=λx y H Q=>∃a b xs ys,x=.ref a/\y=.ref b/\O2 K H a xs/\O2 K H b ys/\xs.length+ys.length<=J4/\∀p,H p=J->Q (.ref p) (upd H p (.lst (xs++ys)))
def Zf:Y9 c (aD .Add) (WI c.K):=by
 intro X s q H x y v u Q I f l h;obtain⟨a,b,g,w,rfl,rfl,i,j,t,n,q2,B⟩:=h;by_cases d:g=[];subst d;cases f;cases l;obtain⟨A,o,z,_⟩:=I.tuple i;obtain⟨k,C,r,_⟩:=I.tuple j;exact ZS z r (o.wI.mpr rfl) ⟨.ref b,H,I,rfl,n rfl⟩;exact Zg X s q H (.ref a) (.ref b) v u Q I f l ⟨a,b,g,w,rfl,rfl,i,j,d,t,λe=>q2 d e,λe p m=>B d e p m⟩
def Zh:Y9 c (aD .Add) (WJ c.K):=by
 intro w s V H x y v u Q I A P h;obtain⟨l,b,R,Y,rfl,rfl,G,B,W,q⟩:=h;cases A;cases P;obtain⟨X,r,L,S⟩:=I.list G;obtain⟨a,m,E,T⟩:=I.list B;obtain⟨⟨N,M,o,C⟩,t,D,n,O⟩:=L.isList;obtain⟨⟨p,f,g,i⟩,d,k,z,j⟩:=E.isList;subst D O k j;have e:X.toArray++a.toArray=(X++a).toArray:=by simp
 have:=r.length;have:=m.length;refine Ae ⟨_,t,rfl⟩ ⟨_,d,rfl⟩ noFill_list_add seq_list_add PySem.F.slot_list_add PySem.F.entry_list_add (PySem.F.args_list_add_2 _ _) (list_addW l b X.toArray a.toArray n z M f C i (by simp;simp_all)) ⟨t,d,?_⟩;rw[e];exact⟨.ref _,_,I.a2u (r.append m) (by rw[T7];subst_vars;assumption),rfl,q _ I.fresh⟩
def Lf(K:A6):R2:=λx y H Q=>(nH λi j=>.int (i+j)) x y H Q\/(∃i j,x=.str i/\y=.str j/\i.length+j.length<=J4/\Q (.str (i++j)) H)\/WI K x y H Q\/WJ K x y H Q
def Zi:Y9 c (aD .Add) (Lf c.K):=a2e.or (Lp.or (Zf.or Zh))
noncomputable def C8:f9->f9->Option PV
 | .int i,.int j=>U (.dat (.int (i+j)))
 | .str i,.str j=>if i.length+j.length<=1000000 then U (.dat (.str (i++j)))else J
 | .tuple l,.tuple m=>if l.length+m.length<=1000000 then U (.dat (.tuple (l++m)))else J
 | .list l,.list m=>if l.length+m.length<=1000000 then U (.own (l++m))else J
 |_,_=>J
set_option tactic.hygienic true in
def a3H:fG g (Lf g) C8:=by
 intro O A H x y d e pv Q D w r K q;cases w with
 |int i=>
  cases r with
  |int j=>cases K;exact .inl ⟨i,j,rfl,rfl,q _ H (w9.refl H) (Dt.int _)⟩
  |_=>exact nE K
 |str i=>
  cases r with
  |str j=>
   have c:=K;obtain⟨o,c⟩:=K9 c;cases c;exact .inr (.inl ⟨i,j,rfl,rfl,qf o,q _ H (w9.refl H) (Dt.str _)⟩)
  |_=>exact nE K
 |tup s k=>
  cases r with
  |tup h f=>
   rename_i a t l b u m;have c:=K;obtain⟨o,c⟩:=K9 c;cases c;refine .inr (.inr (.inl ⟨a,b,t,u,rfl,rfl,D9.hV s,D9.hV h,by rw[k.length,f.length];exact qf o,λe=>?_,λz v=>?_,λz v p n=>?_⟩));subst e;cases k;exact q _ H (w9.refl H) (Dt.tup h f);subst v;cases f;rw[af]at q;exact q _ H (w9.refl H) (Dt.tup s k);exact q _ _ (w9.new n) (yL D n (k.append f))
  |_=>exact nE K
 |lst s k=>
  cases r with
  |lst h f=>
   rename_i a t l b u m;have c:=K;obtain⟨o,c⟩:=K9 c;cases c;exact .inr (.inr (.inr ⟨a,b,t,u,rfl,rfl,D9.seq s,D9.seq h,by rw[k.length,f.length];exact qf o,λp n=>q _ _ (w9.new n) (oM n (k.append f))⟩))
  |_=>exact nE K
 |_=>exact nE K
noncomputable def cutD(xs:List c9)(lo hi:Option Int):List c9:=(xs.drop (HT.R4 xs.length 0 lo)).take (HT.R4 xs.length xs.length hi-HT.R4 xs.length 0 lo)
def E9.cut(h:E9 g m L M)(lo a:Option Int):E9 g m (tA L lo a) (cutD M lo a):=by delta tA cutD;rw[h.length];exact(h.drop _).take _
def a1d(K:A6):V->Option Int->Option Int->Hp->VK->Prop:=λx lo hi H Q=>∃a xs,x=.ref a/\ae K H a xs/\(tA xs lo hi=xs->Q (.ref a) H)/\∀p,H p=J->Q (.ref p) (upd H p (.tup (tA xs lo hi)))
def XX:xC c (a1d c.K):=by
 intro d s u H x v p q o j w Q I g m k l h;obtain⟨a,b,rfl,i,t,q2⟩:=h;by_cases e:HT.R4 b.length 0 o=0/\HT.R4 b.length b.length j=b.length
 . cases g;obtain⟨f,r,n,y⟩:=I.tuple i;have X:f.toArray.size=b.length:=by rw[V2];exact r.length.symm
   refine⟨"tuple",_,PyProof.Rows.slot_tuple_getitem.lookup,n.typeIs,?_⟩;refine DF n m k l (by rw[X];exact e) ⟨.ref a,H,I,rfl,t ?_⟩
   delta tA;simp_all
 exact a0T d s u H (.ref a) v p q o j w Q I g m k l ⟨a,b,rfl,i,e,q2⟩
def rSl(K:A6):V->Option Int->Option Int->Hp->VK->Prop:=λx lo hi H Q=>a1d K x lo hi H Q\/a1e K x lo hi H Q
def a0U:xC c (rSl c.K):=XX.or XY
def CG:f9->Option Int->Option Int->Option PV
 | .tuple l,lo,hi=>U (.dat (.tuple (cutD l lo hi)))
 | .list l,lo,hi=>U (.own (cutD l lo hi))
 |_,_,_=>J
def R3X(K:A6)(r:V->Option Int->Option Int->Hp->VK->Prop)(f:f9->Option Int->Option Int->Option PV):Prop:=
 ∀(O:List Addr) (va:As) (H:Hp) (x:V) (lo hi:Option Int) (d:f9) (pv:PV) (Q:VK),sA H va O->Dt K (D1 H va O) x d->f d lo hi=U pv->(∀v H',w9 H H'->RX K O va H H' v pv->Q v H')->r x lo hi H Q
def a5w:R3X g (rSl g) CG:=by
 intro O k H x h f d pv Q D j K q;cases j with
 |tup b c=>
  cases K;refine .inl ⟨_,_,rfl,D9.hV b,λe=>?_,λp a=>q _ _ (w9.new a) (yL D a (c.cut h f))⟩;have i:=c.cut h f;rw[e]at i;exact q _ H (w9.refl H) (Dt.tup b i)
 |lst b c=>
  cases K;exact .inr ⟨_,_,rfl,D9.seq b,λp a=>q _ _ (w9.new a) (oM a (c.cut h f))⟩
 |_=>exact nE K
def TOX(K:A6)(to:TO)(F:Ds->Option (Option Int)):Prop:=
 ∀(O:List Addr) (F6:Hp) (as:As) (σ:St) (H:Hp) (ds:Ds) (b:Option Int) (Q:Option Int->Hp->Prop),DS K O F6 as σ H ds->F ds=U b->(∀H',w9 H H'->Q b H')->to σ H Q
structure Xs(X:Cx)(e:Option Expr)(to:TO)(F:Ds->Option (Option Int)):Prop where
 p:PO X e to
 t:TOX X.K to F
noncomputable def wG:Ds->Option (Option Int):=λ_=>U J
def asI:f9->Option Int
 | .int i=>U i
 |_=>J
noncomputable def fQ(F:DV):Ds->Option (Option Int):=λds=>(F ds).bind λpv=>(asI pv.d).bind λi=>U (U i)
def TY:Xs c J Je wG:=⟨YJ,by intro O a e f H d b Q S X q;cases X;exact q H (w9.refl H)⟩
def TV{fr:Bool}(h:PX c fr e G D):Xs c (U e) (Wu G) (fQ D):=⟨YI h.p,by
 intro O X k l H f b Q S a q;obtain⟨pv,h1,a⟩:=t5 a;refine h.t O X k l H f pv _ S h1 λv g m j=>?_
 have d:=j.dt S.dm;generalize pv.d=z at d a;cases d with
 |int i=>cases a;exact⟨i,rfl,q g m⟩
 |_=>exact nE a⟩
noncomputable def ua(f:f9->Option Int->Option Int->Option PV)(F:DV)(Fl Fh:Ds->Option (Option Int)):DV:=λds=>(F ds).bind λx=>(Fl ds).bind λlo=>(Fh ds).bind λhi=>f x.d lo hi
def Tg{r:V->Option Int->Option Int->Hp->VK->Prop}{f:f9->Option Int->Option Int->Option PV}{lo A:Option Expr}{z u:TO}{n o:Ds->Option (Option Int)}(N:xC c r)(C:R3X c.K r f)(s:PX c I e G D)(y:Xs c lo z n)(B:Xs c A u o):
  PX c I (.Subscript e (.Slice lo A J p) E) (tSl r G z u) (ua f D n o):=⟨Uj N s.p y.p B.p,by
 intro O a k m H X pv Q S b q;unfold ua at b;cases h1:D X with
 |none=>simp_all
 |some x=>
  cases h2:n X with
  |none=>rw[h1,h2]at b;exact nE b
  |some l=>
   cases h3:o X with
   |none=>rw[h1,h2,h3]at b;exact nE b
   |some h=>
    rw[h1,h2,h3]at b;refine s.t O a k m H X x _ S h1 λv L g t=>?_;refine y.t O a k m L X l _ (S.grow g) h2 λM i=>?_;refine B.t O a k m M X h _ ((S.grow g).grow i) h3 λd j=>?_;refine C O (aS I k) d v l h x.d pv Q (((S.grow g).grow i).grow j).dm ((t.grow (i.trans j)).dt S.dm) b λw P K F=>?_
    exact q w P (((g.trans i).trans j).trans K) (F.back ((g.trans i).trans j))⟩
section
def d1(f:f9->Option PV):FV
 | [d]=>f d
 |_=>J
def ue.one(h:R1X g (λx=>m9 [x]) p7):ue g m9 (d1 p7):=by
 intro O c H K i pv Q D b a q;cases b with
 |nil=>exact nE a
 |cons e t=>
  cases t with
  |nil=>exact h O c H _ _ pv Q D e a q
  |cons _ _=>exact nE a
def Te(K:A6):List V->Hp->VK->Prop:=λxs H Q=>(∃p ys,xs=[.ref p]/\(O2 K H p ys\/ae K H p ys)/\Q (.int ys.length) H)\/(∃z,xs=[.str z]/\z.length<=J4/\Q (.int z.length) H)
def Qi:cD c (.builtin "len") (Te c.K):=Gp.or Gn
noncomputable def C7:FV:=d1 fun
 | .list l=>U (.dat (.int (l.length:Nat)))
 | .tuple l=>U (.dat (.int (l.length:Nat)))
 | .str z=>if z.length<=1000000 then U (.dat (.int (z.length:Nat)))else J
 |_=>J
def E9.inv1(h:E9 g m L [i3]):∃x,L=[x]/\Dt g m x i3:=by
 cases h with
 |cons h t=>cases t;exact⟨_,rfl,h⟩
def a3F:ue g (Te g) C7:=.one λO K H x i pv Q D b a q=>by
 cases b with
 |lst c d=>cases a;exact .inl ⟨_,_,rfl,.inl (D9.seq c),q _ H (w9.refl H) (by rw[d.length];exact Dt.int _)⟩
 |tup c d=>cases a;exact .inl ⟨_,_,rfl,.inr (D9.hV c),q _ H (w9.refl H) (by rw[d.length];exact Dt.int _)⟩
 |str=>
  obtain⟨e,a⟩:=K9 a;cases a;exact .inr ⟨_,rfl,qf e,q _ H (w9.refl H) (Dt.int _)⟩
 |_=>exact nE a
noncomputable def pz:FV:=d1 fun
 | .int i=>U (.dat (.int (if i<0 then -i else i)))
 |_=>J
def a3I:ue g (λxs H Q=>∃i,xs=[.int i]/\Q (.int (if i<0 then -i else i)) H) pz:=.one λO c H x d pv Q D b a q=>by
 cases b with
 |int=>cases a;exact⟨_,rfl,q _ H (w9.refl H) (Dt.int _)⟩
 |_=>exact nE a
noncomputable def hU:FV:=d1 fun
 | .list l=>U (.dat (.tuple l))
 | .tuple l=>U (.dat (.tuple l))
 |_=>J
def Xx:ue g (λxs H Q=>∃p ys,xs=[.ref p]/\((O2 g H p ys/\∀l,H l=J->Q (.ref l) (upd H l (.tup ys)))\/(ae g H p ys/\Q (.ref p) H))) hU:=.one λO f H x K pv Q D d a q=>by
 cases d with
 |lst b c=>cases a;exact⟨_,_,rfl,.inl ⟨D9.seq b,λp e=>q _ _ (w9.new e) (yL D e c)⟩⟩
 |tup b c=>cases a;exact⟨_,_,rfl,.inr ⟨D9.hV b,q _ H (w9.refl H) (Dt.tup b c)⟩⟩
 |_=>exact nE a
noncomputable def wK:FV:=d1 fun
 | .list l=>U (.own l)
 | .tuple l=>U (.own l)
 |_=>J
def a0l:ue g (λxs H Q=>∃p ys,xs=[.ref p]/\(O2 g H p ys\/ae g H p ys)/\∀l,H l=J->Q (.ref l) (upd H l (.lst ys))) wK:=.one λO f H x K pv Q D e b q=>by
 cases e with
 |lst c d=>cases b;exact⟨_,_,rfl,.inl (D9.seq c),λp a=>q _ _ (w9.new a) (oM a d)⟩
 |tup c d=>cases b;exact⟨_,_,rfl,.inr (D9.hV c),λp a=>q _ _ (w9.new a) (oM a d)⟩
 |_=>exact nE b
def boolsOf:List f9->Option (List Bool)
 | []=>U []
 | .bool b::r=>(boolsOf r).bind λl=>U (b::l)
 |_=>J
def vo:FV
 | [.list l]=>(boolsOf l).bind λbs=>U (.dat (.bool (bs.all id)))
 |_=>J
theorem E9.bools{K:A6}{H:Hp}:∀{l:List f9}{xs:List V}{bs:List Bool},E9 K H xs l->boolsOf l=U bs->xs=bs.map V.bl
 | [],_,_,h,e=>by cases e;cases h;rfl
 |d::r,xs,bs,h,e=>by
  cases h with
  |cons h t=>
   cases h with
   |bl b=>
    have a:=e;obtain⟨l,h1,a⟩:=t5 a;cases a;rw[t.bools h1];rfl
   |_=>exact nE e
set_option tactic.hygienic true in
def a3G(c:A.handled=J):ue g (λxs H Q=>∃(p:Addr) (bs:List Bool),xs=[.ref p]/\O2 g H p (bs.map V.bl)/\A.handled=J/\Q (.bl (bs.all id)) H) vo:=by
 intro O K H xs i pv Q D b a q;unfold vo at a;split at a
 . rename_i l;obtain⟨bs,h1,a⟩:=t5 a;cases a;obtain⟨x,rfl,h⟩:=b.inv1;cases h with
   |lst d f=>
    have e:=f.bools h1;subst e;exact⟨_,bs,rfl,D9.seq d,c,q _ H (w9.refl H) (Dt.bl _)⟩
 exact nE a
noncomputable def fS(n:String)(F:DV):DV:=λds=>(F ds).bind λx=>if Me x.d=Uf then J else U (.dat (.bool (Pn x.d n)))
def a3O(K:A6):List V->Hp->VK->Prop:=λxs H Q=>∃x n d,xs=[x,.ty n]/\Dt K H x d/\Me d=U'/\yg n/\Q (.bl (Pn d n)) H
set_option tactic.hygienic true in
def Ti(kk:c.K=g)(A:yg l7)(m:Gl c u)(C:c.mg u=J)(B:fW u=U (.builtin "isinstance"))(h:PX c I e G D)(n:PE c r (tC (.ty l7)))(x:autoParam (u ≠ "__name__") L0)(i:autoParam (mE u) L0)(f:autoParam (hI c e [r]) w4)(j:autoParam (hI c r []) w4)(X:autoParam (lj c E [r]) w4):
  PX c I (.Call (.Name u p) [e,r] [] E) (CD (a3O g) (jI G (jI (tC (.ty l7)) qF))) (fS l7 D):=by
 subst kk;exact⟨EN VJ m C B (fK h.p (fK n oP j) f) x i f X,by
  intro O b z F H l pv Q S a q;obtain⟨w,h1,a⟩:=t5 a;split at a;exact nE a
  . rename_i k;cases a;refine h.t O b z F H l w _ S h1 λv y s o=>?_
    exact⟨v,l7,w.d,rfl,(o.dt S.dm).same D9,by simpa using k,A,q _ y s (Dt.bl _)⟩⟩
end
abbrev a3N(K:A6):List V->Hp->VK->Prop:=λxs H Q=>∃p ys,xs=[.ref p]/\((O2 K H p ys/\∀l,H l=J->Q (.ref l) (upd H l (.tup ys)))\/(ae K H p ys/\Q (.ref p) H))
abbrev a1h(K:A6):List V->Hp->VK->Prop:=λxs H Q=>∃p ys,xs=[.ref p]/\(O2 K H p ys\/ae K H p ys)/\∀l,H l=J->Q (.ref l) (upd H l (.lst ys))
def Le(K:A6):List V->Hp->VK->Prop:=λxs H Q=>∃(p:Addr) (bs:List Bool),xs=[.ref p]/\O2 K H p (bs.map V.bl)/\Q (.bl (bs.all id)) H
def Qj(d:c.A.handled=J):cD c (.builtin "all") (Le c.K):=λa s f H b X Q I r h=>by obtain⟨p,bs,e,g,q⟩:=h;exact VL a s f H b X Q I r ⟨p,bs,e,g,d,q⟩
def a0s:ue g (Le g) vo:=by intro O d H b f pv Q D a c q;obtain⟨p,bs,e,K,_,z⟩:=a3G (A:=mG) rfl O d H b f pv Q D a c q;exact⟨p,bs,e,K,z⟩
noncomputable def za(i:Nat)(ds:Ds):Nat:=match ds[i]? with
 |some (U (.dat (.int k)))=>k.natAbs+1
 |_=>0
def XW(h:O2 g m z L):O2 g (D1 m [] []) z L:=by assumption
def Vr:∀ns:List Int,E9 g m (ns.map V.int) (ns.map cW):=by
 intro l_;induction l_ with
 |nil=>
  exact .nil
 |cons n r ih_=>
  exact .cons (.int n) (ih_)
def ZQ(r:RX g [] [] m o Y (.dat (.bool Uf))):Y=.bl Uf:=by cases r;rfl
def dq(o:Option Out)(G:DO):Option Out:=o.bind λo=>match o with
 | .next ds'=>G ds'
 |o=>U o
def D4(a G2:DO)(ds:Ds):t8 a G2 ds=dq (a ds) G2:=rfl
def B6(ds:Ds)(G:DO):dq (U (.next ds)) G=G ds:=rfl
def Eu(pv:PV)(G:DO):dq (U (.ret pv)) G=U (.ret pv):=rfl
def VQ(b:Bool):Xk (.bool b)=U b:=rfl
def KZ(l:List f9):nU (.list l)=U l:=rfl
def Nw(l:List f9):nU (.tuple l)=U l:=rfl
def Uv(pv:PV):Lo (.ret pv)=U pv:=rfl
def Ol(ds:Ds):Lo (.next ds)=sd .none:=rfl
noncomputable def a2z(o:Option PV)(i:Nat)(ds:Ds):Option Out:=o.bind λpv=>U (.next (ds.set i (U (.dat pv.d))))
def fm(i:Nat)(F:DV)(ds:Ds):u6 i F ds=a2z (F ds) i ds:=rfl
def uV(pv:PV)(i:Nat)(ds:Ds):a2z (U pv) i ds=U (.next (ds.set i (sd pv.d))):=rfl
def Mb(o:Option PV)(i:Nat)(ds:Ds):Option Out:=o.bind λpv=>U (.next (ds.set i (U pv)))
def Ce(i:Nat)(F:DV)(ds:Ds):U5 i F ds=Mb (F ds) i ds:=rfl
def Pc(pv:PV)(i:Nat)(ds:Ds):Mb (U pv) i ds=U (.next (ds.set i (U pv))):=rfl
noncomputable def Ct(o:Option PV)(i:Nat)(ds:Ds):Option Out:=o.bind λpv=>match ds[i]? with
 |some (U (.own l))=>if l.length<1000000 then U (.next (ds.set i (U (.own (l++[pv.d])))))else J
 |_=>J
def oB(i:Nat)(F:DV)(ds:Ds):aW i F ds=Ct (F ds) i ds:=rfl
def gk(pv:PV)(h:y[N]?=U (U (.own M)))(a:M.length<1000000):Ct (U pv) N y=U (.next (y.set N (U (.own (M++[pv.d]))))):=by
 delta Ct
 simp_all
abbrev iD(n:Int):Option PV:=U (.dat (.int n))
def a4G(x:c9)(l:List c9):aA (x::l) 0=U x:=by delta aA gh;rw[r9 f5,r9 F5];rfl
def fM{l:List c9}(a:S=(N:Int))(h:N<l.length):aA l S=l[N]?:=by subst a;delta aA gh;rw[r9 C4,r9 C4];simp
def a4F(x y:c9)(l:List c9):aA (x::y::l) 1=U y:=fM rfl F5
def a4E(x y z:c9)(l:List c9):aA (x::y::z::l) 2=U z:=fM rfl F5
def a4D(x y z u:c9)(l:List c9):aA (x::y::z::u::l) 3=U u:=fM rfl F5
def a4C(x y z u v:c9)(l:List c9):aA (x::y::z::u::v::l) 4=U v:=fM rfl F5
def a4B(x y z u v w:c9)(l:List c9):aA (x::y::z::u::v::w::l) 5=U w:=fM rfl F5
def VT(i j:Int):C8 (.int i) (.int j)=sd (.int (i+j)):=rfl
def SF(i j:Int):di (.int i) (.int j)=sd (.int (i-j)):=rfl
def D6(h:Bt 60000 S)(k:Bt 60000 h8):aG (.int S) (.int h8)=sd (.int (S*h8)):=by
 delta aG uY
 simp_all
def O7(h:h8≠0)(k:Bt 8000 h8):Z7 (.int S) (.int h8)=sd (.int (S.fdiv h8)):=by
 delta Z7 uY
 simp_all
def cp(h:h8≠0):fh (.int S) (.int h8)=sd (.int (S.fmod h8)):=r9 h
def EJ(h:Cv S h8):xT (.int S) (.int h8)=sd (.int (S^h8.toNat)):=r9 h
def SJ(h:0<=h8):KW (.int S) (.int h8)=sd (.int (S/2^h8.toNat)):=r9 h
def JN(i j:Int):oV (.int i) (.int j)=sd (.bool (decide (i<j))):=rfl
def ZC(i j:Int):tY (.int i) (.int j)=sd (.bool (decide (i<=j))):=rfl
def Kb(i j:Int):nK (.int i) (.int j)=sd (.bool (decide (j<i))):=rfl
def wU(i j:Int):vd (.int i) (.int j)=sd (.bool (decide (j<=i))):=rfl
def yj(i j:Int):X0 (.int i) (.int j)=sd (.bool (decide (i=j))):=by rfl
def Fj(i j:Int):dE (.int i) (.int j)=sd (.bool (!decide (i=j))):=by rfl
def rn(l:List f9)(i:Int):K6 (.tuple l) (.int i)=(aA l i).bind λd=>sd d:=rfl
def FJ(l:List f9)(i:Int):K6 (.list l) (.int i)=(aA l i).bind λd=>sd d:=rfl
def VU(i:Int):pz [.int i]=sd (.int (if i<0 then -i else i)):=rfl
def UL(i:Int):dD (.int i)=sd (.int (-i)):=rfl
def Pd(l:List f9):C7 [.list l]=sd (.int (l.length:Nat)):=rfl
def FE(l:List f9):C7 [.tuple l]=sd (.int (l.length:Nat)):=rfl
def Nb(l:List f9):hU [.list l]=sd (.tuple l):=rfl
def Sq(l:List f9):hU [.tuple l]=sd (.tuple l):=rfl
def LY(l:List f9):wK [.list l]=U (.own l):=rfl
def OZ(l:List f9):wK [.tuple l]=U (.own l):=rfl
def tH{m:List f9}(h:M.length+m.length<=1000000):C8 (.tuple M) (.tuple m)=sd (.tuple (M++m)):=r9 h
def Qo{m:List f9}(h:M.length+m.length<=1000000):C8 (.list M) (.list m)=U (.own (M++m)):=r9 h
def VS(h:u.length+b7.length<=1000000):C8 (.str u) (.str b7)=sd (.str (u++b7)):=r9 h
def XZ(l:List f9)(lo a:Option Int):CG (.tuple l) lo a=sd (.tuple (cutD l lo a)):=rfl
def UZ(d:f9):oX d .none=sd (.bool (oA d)):=rfl
def IP(d:f9):iw d .none=sd (.bool (!oA d)):=rfl
def T8(h : -(4611686018427387904)<=S/\S<4611686018427387904):G9 [.int S]=U (bA 0 S.toNat):=@if_pos _ (AQ _) h _ _ _
def EA(h:(-(4611686018427387904)<=S/\S<4611686018427387904)/\-(4611686018427387904)<=h8/\h8<4611686018427387904):jM [.int S,.int h8]=U (bA S (h8-S).toNat):=@if_pos _ (AQ _) h _ _ _
def VC{f:f9->f9}:∀{items:List f9},(∀x∈items,∃bs pv,o1 x=U bs/\D (U8 bs++y)=U pv/\pv.d=f x)->Q8 o1 C5 D y items=U (items.map f):=by
 intro l_;induction l_ with
 |nil=>
  intro _;exact rfl
 |cons x r ih_=>
  intro h;obtain⟨bs,pv,b,e,c⟩:=h x F2;unfold Q8;rw[b];simp only[A4,C5];rw[e];rw[ih_ (λd a=>h d (E7 _ a))];simp[c]
def tD{f:Nat->f9}(h:∀i,i<N->∃pv,D (sd (.int (S+(i:Nat)))::y)=U pv/\pv.d=f i):Q8 C6 C5 D y (bA S N)=U ((D3 N).map f):=by
 have a:∀(l:List Nat),(∀i∈l,i<N)->Q8 C6 C5 D y (l.map λk=>cW (S+(k:Nat)))=U (l.map f):=by
  intro l;induction l with
  |nil=>intro _;rfl
  |cons i r o=>
   intro b;obtain⟨pv,g,c⟩:=h i (b i F2);rw[E8];unfold Q8;simp only[C6,A4,C5,qp,tw,cz,cZ];rw[g];rw[o (λj m=>b j (E7 _ m))];simp[c]
 exact a _ (λi e=>mem_range.mp e)
def aI{gt:f9->DD}{G:DO}{lo:Int}{n:Nat}(I:Nat->Ds->Prop){ds:Ds}(l:I 0 ds)(hs:∀i ds,i<n->I i ds->∃ds1 ds2,gt (.int (lo+(i:Nat))) ds=U ds1/\(G ds1=U (.next ds2)\/G ds1=U (.cont ds2))/\I (i+1) ds2):∃ds',V6 gt G (bA lo n) ds=U (.next ds')/\I n ds':=by
 have c:∀(k i) ds,i+k=n->I i ds->∃ds',V6 gt G ((List.range' i k).map λk=>cW (lo+(k:Nat))) ds=U (.next ds')/\I n ds':=by
  intro k;induction k with
  |zero=>
   intro i ds e b;have d:i=n:=by omega
   subst d;exact⟨ds,rfl,b⟩
  |succ k o=>
   intro i ds e b;obtain⟨ds1,ds2,h,a,g⟩:=hs i ds t9 b;rw[QF,E8];unfold V6;rw[h];simp only[A4];obtain⟨ds',j,f⟩:=o (i+1) ds2 t9 g;refine⟨ds',?_,f⟩;rcases a with a|a<;>rw[a]<;>exact j
 obtain⟨ds',m,d⟩:=c n 0 ds (rR _ _) l;refine⟨ds',?_,d⟩;unfold bA;rw[Rg];exact m
def dG{gt:f9->DD}{G:DO}{items:List f9}(I:Nat->Ds->Prop){ds:Ds}(m:I 0 ds)(hs:∀i d ds,items[i]?=U d->I i ds->∃ds1 ds2,gt d ds=U ds1/\(G ds1=U (.next ds2)\/G ds1=U (.cont ds2))/\I (i+1) ds2):∃ds',V6 gt G items ds=U (.next ds')/\I items.length ds':=by
 have g:∀r i ds,items.drop i=r->i<=items.length->I i ds->∃ds',V6 gt G r ds=U (.next ds')/\I items.length ds':=by
  intro r;induction r with
  |nil=>
   intro i ds e n f;have:=List.drop_eq_nil_iff.mp e;have o:i=items.length:=by lia
   subst o;exact⟨ds,rfl,f⟩
  |cons x r p=>
   intro i ds e n f;have a:i<items.length:=by
    by_cases c:i<items.length;exact c;rw[List.drop_eq_nil_of_le (kC u4)]at e;cases e
   rw[sv a]at e;injection e with ea eb
   obtain⟨ds1,ds2,j,b,h⟩:=hs i x ds (by rw[L6 a,ea]) f
   unfold V6;rw[j];simp only[A4];obtain⟨ds',k,l⟩:=p (i+1) ds2 eb u4 h;refine⟨ds',?_,l⟩;rcases b with b|b<;>rw[b]<;>exact k
 exact g items 0 ds rfl (iH _) m
def Ei(h:a6 y=U U'):P1 a6 a8 (N+1) y=U (.next y):=by unfold P1;rw[h];rfl
def Iu{ds2:Ds}(h:a6 y=U Uf)(k:a8 y=U (.next ds2)):P1 a6 a8 (N+1) y=P1 a6 a8 N ds2:=by rw[P1,h];rw[k];rfl
def Cz{Fc:DB}(I:Ds->Prop)(μ:Ds->Nat)(hs:∀ds,I ds->Fc ds=U U'\/(Fc ds=U Uf/\∃ds2,a8 ds=U (.next ds2)/\I ds2/\μ ds2<μ ds)):
  ∀(n:Nat) (ds:Ds),I ds->μ ds<n->∃ds',P1 Fc a8 n ds=U (.next ds')/\I ds'/\Fc ds'=U U':=by
 intro n;induction n with
 |zero=>intro ds _ h;exact nZ
 |succ n c=>
  intro ds a d;rcases hs ds a with h|⟨h,ds2,k,b,f⟩
  exact⟨ds,Ei h,a,h⟩;obtain⟨ds',e,r⟩:=c ds2 b t9;exact⟨ds',by rw[Iu h k];exact e,r⟩
def Bt.qR(b : -4611686018427387904<S)(c:S<4611686018427387904)(a:autoParam (62<=N) L0):Bt N S:=(Bt.small C4 C4).mono a
def Bt.lit(a:autoParam (-4611686018427387904<S) L0)(c:autoParam (S<4611686018427387904) L0)(b:autoParam (62<=N) L0):Bt N S:=Bt.qR a c b
noncomputable def wX(i:Nat)(f:List f9->List f9):DO:=λds=>match ds[i]? with
 |some (U (.own l))=>U (.next (ds.set i (U (.own (f l)))))
 |_=>J
section
set_option tactic.hygienic true in
def Yy(i:Nat)(m:PE c e (S3 i))(b:autoParam (Bj c e "reverse") w4)(X:autoParam ((d3.endLine==E.line)=Uf) w4)(hs:autoParam (bG (.Call (.Attribute e "reverse" d3) [] [] E) J p.line c.env=pure U') w4):
  T3 c (.Expr (.Call (.Attribute e "reverse" d3) [] [] E) p) (sF (a0O c.K "list" ED (S3 i))) (wX i List.reverse):=
 ⟨ow (a1R tJ PySem.F.slot_list_reverse PySem.F.type_list_reverse LO m b X) hs,by
 intro O o n k H r D e S h q;unfold wX at h;split at h;rename_i l g;cases h;obtain⟨a,j,f,s,d,t⟩:=S.slot i _ g;exact⟨_,f,.inl ⟨rfl,j,O2.of d⟩,a,j,rfl,rfl,d,q n k _ (S.turn g f t.reverse)⟩
 . exact nE h⟩
noncomputable def sT(i:Nat)(F:DV):DO:=λds=>(F ds).bind λpv=>match pv,ds[i]? with
 | .own m,U (U (.own l))=>if l.length+m.length<=1000000 then U (.next (ds.set i (U (.own (l++m)))))else J
 |_,_=>J
set_option tactic.hygienic true in
def YC(i:Nat)(L:PE c r (S3 i))(u:PX c Uf e G D)(bm:autoParam (Ip c r "extend" d3 e [] E) rK)(hs:autoParam (bG (.Call (.Attribute r "extend" d3) [e] [] E) J p.line c.env=pure U') w4):
  T3 c (.Expr (.Call (.Attribute r "extend" d3) [e] [] E) p) (sF (Eo c.K "list" Ju (S3 i) (jI G qF))) (sT i D):=
 ⟨ow (wC tJ PySem.F.slot_list_extend PySem.F.type_list_extend OS L (fK u.p oP bm.s) bm) hs,by
 intro O g B s H y F r S h q;obtain⟨pv,e1,h⟩:=t5 h;split at h;rename_i m l o;obtain⟨R,h⟩:=K9 h;cases h;obtain⟨a,A,C,T,X,w⟩:=S.slot i _ o;refine⟨_,C,.inl ⟨rfl,A,O2.of X⟩,?_⟩;refine u.t O g B s H y _ _ S e1 λv P n I=>?_;obtain⟨b,N,rfl,Q,M,d⟩:=I;have:=w.length;have:=d.length;refine⟨a,b,A,N,rfl,rfl,n _ _ X,M,qf C4,q B s _ ?_⟩;exact(S.grow n).turn o C ((w.same (Q7 n)).append (d.same (bj (w9.refl _) λb z=>E7 _ z)))
 . exact nE h⟩
def Y4(i:Nat)(Fk Fv:DV):DO:=λds=>(Fv ds).bind λpv=>(Fk ds).bind λk=>match k.d,ds[i]? with
 | .int k,U (U (.own l))=>(gh l.length k).bind λj=>U (.next (ds.set i (U (.own (l.set j pv.d)))))
 |_,_=>J
set_option tactic.hygienic true in
def Tu(i:Nat) (Q:PE c r (S3 i)) (A:PX c Uf c8 c6 d5) (x:PX c Uf e G D) (N:autoParam (∀v,assign (.Subscript r c8 E) c.env v=(do
   let ov <- holding [v] (eval r c.env)
   let iv <- holding [v,ov] (eval c8 c.env)
   mI E
   holding [v,ov,iv] (setItem ov iv v)
   release [v,ov,iv] [])) iz)
  (hs:autoParam (Aj [.Subscript r c8 E] e p.line c.env=pure U') w4) (P:autoParam (Ai [.Subscript r c8 E] e c.env=pure J) w4)
  (R:autoParam ((kr [.Subscript r c8 E] c.env).map (·.2)=[assign (.Subscript r c8 E) c.env]) w4) :
  T3 c (.Assign [.Subscript r c8 E] e p) (oG G (Ml (S3 i) c6 DQ)) (Y4 i d5 D):=⟨EG x.p (EM Q A.p set_list N) hs P R,by
 intro O X o m H f k r S h q;unfold Y4 at h;cases e1:D f with
 |none=>rw[e1]at h;exact nE h
 |some pv=>
  cases e2:d5 f with
  |none=>rw[e1,e2]at h;exact nE h
  |some kv=>
   rw[e1,e2]at h;simp only[A4]at h;split at h;rename_i s l n C;obtain⟨j,e3,h⟩:=t5 h;cases h;refine x.t O X o m H f pv _ S e1 λv u I K=>?_;have d:=S.grow I;obtain⟨a,M,B,V,F,y⟩:=d.slot i _ C;refine⟨_,B,?_⟩;refine A.t O X o m u f kv _ d e2 λw T g L=>?_;have z:=L.dt d.dm;rw[n]at z;cases z;refine⟨a,M,s,j,rfl,rfl,g _ _ F,by rw[y.length];exact e3,q o m _ ?_⟩;exact(d.grow g).turn C B ((y.same (Q7 g)).set j ((K.grow g).dt S.dm))
   . exact nE h⟩
end
def sZ(i:Nat)(F:DV):DV:=λds=>match ds[i]? with
 |some (U (.dat d))=>(F ds).bind λk=>K6 d k.d
 |some (U (.own l))=>(F ds).bind λk=>K6 (.list l) k.d
 |_=>J
noncomputable def intsOf:List f9->Option (List Int)
 | []=>U []
 | .int i::r=>(intsOf r).bind λl=>U (i::l)
 |_=>J
def Bo:FV:=d1 fun
 | .list l=>(intsOf l).bind λis=>U (.dat (.int is.sum))
 |_=>J
noncomputable def aK:Int->List f9->List f9
 |_,[]=>[]
 |k,d::r=>.tuple [.int k,d]::aK (k+1) r
def cQ:List f9->Option (List f9)
 | [d]=>(nU d).bind λl=>U (aK 0 l)
 |_=>J
def VG(a b:Prop)[Decidable a][Decidable b]:(if a then U (PV.dat (.bool (decide b)))else U (PV.dat (.bool U')))=U (PV.dat (.bool (decide (a/\b)))):=by
 by_cases h:a;rw[r9 h];simp[h];rw[s9 h];simp[h]
def Nl(l:List f9):Bo [.list l]=(intsOf l).bind λis=>sd (.int is.sum):=rfl
def PN(d:f9):cQ [d]=(nU d).bind λl=>U (aK 0 l):=rfl
def tG(pv:PV)(h:y[N]?=U (U (.own M)))(a:M.length<1000000):Ct (U pv) N y=U (.next (y.set N (U (.own (M++[pv.d]))))):=gk pv h a
def O6{ds1 ds2:Ds}(b:n8 i3 y=U ds1)(a:a8 ds1=U (.next ds2)):V6 n8 a8 (i3::M) y=V6 n8 a8 M ds2:=by
 rw[V6,b]
 simp_all
def comp_map{g f:c9->f9}:∀{l:List c9},(∀x∈l,∃pv,D (sd (g x)::y)=U pv/\pv.d=f x)->Q8 C6 C5 D y (l.map g)=U (l.map f):=by
 intro l_;induction l_ with
 |nil=>
  intro _;exact rfl
 |cons x r ih_=>
  intro h;obtain⟨pv,e,c⟩:=h x F2;rw[E8];unfold Q8;simp only[C6,A4,C5,qp,tw,cz,cZ];rw[e];rw[ih_ (λa b=>h a (E7 _ b))];simp[c]
def ints_map(f:c9->Int):∀l:List c9,intsOf (l.map λx=>.int (f x))=U (l.map f):=by
 intro l_;induction l_ with
 |nil=>
  exact rfl
 |cons x r ih_=>
  rw[E8,intsOf,ih_];rfl
section
set_option tactic.hygienic true in
def Yo{K':A6}(kk:c.K=K')(i:Nat)(b:PE c r (S3 i))(s:PX c I e G D)(hs:autoParam (rL e) xg):PX c I (.Subscript r e p) (tU (Jr K') (S3 i) G) (sZ i D):=by
 subst kk;exact⟨DT zg b s.p hs,by
  intro O f w A H T pv Q S X q;unfold sZ at X;split at X;rename_i d n;obtain⟨k,z,X⟩:=t5 X;obtain⟨v,t,x⟩:=S.slot i _ n;refine⟨v,t,s.t O f w A H T k _ S z λy m o h=>?_⟩;exact a0n O (aS I w) m v y d k.d pv Q (S.grow o).dm (x.same (jC.trans (Q7 o))) (h.dt S.dm) X λu E B P=>q u E (o.trans B) (P.back o)
  . rename_i l n;obtain⟨k,z,X⟩:=t5 X;obtain⟨a,M,t,B,L,x⟩:=S.slot i _ n;refine⟨_,t,s.t O f w A H T k _ S z λy m o h=>?_⟩
    have C:=h.dt S.dm;generalize k.d=R at X C;cases C with
    |int j=>
     have g:=X;obtain⟨d,F,g⟩:=t5 g;cases g;obtain⟨v,K,N⟩:=x.aA F;exact .inl ⟨a,M,j,v,rfl,rfl,O2.of (o _ _ L),K,q v m o (Dt.same (jC.trans (Q7 o)) N)⟩
    |_=>exact nE X
  . exact nE X⟩
def lr(a:Gl c u)(h:c.mg u=U b5/\RelV Y b5/\∀H,Dt c.K H Y i3)(hd:autoParam (mE u) L0):PX c I (.Name u p) (tC Y) (fC i3):=
 EF (YU a h.1 h.2.1 hd) h.2.2
end
def VB(c:g.lookup z=U ⟨.type "tuple",k7,.seq b6 N,o5⟩)(hz:b6.size<=1000)(r:Vals L b6.toList)(hd:∀H,E9 g H L M)(H:Hp):Dt g H (.ref z) (.tuple M):=
 .tup (.inr ⟨_,b6,N,c,rfl,rfl,B7 hz (by rw[rP];decide),r⟩) (hd H)
theorem sD:∀{ns:List Int}{us:List t7},Vals (ns.map V.int) us->eR us ns
 | [],_,.nil=>.nil
 |n::r,_,.cons h t=>by obtain⟨k,rfl⟩:=h;exact .cons n k (sD t)
def Lb(K:A6):List V->Hp->VK->Prop:=λxs H Q=>∃(p:Addr) (ns:List Int),xs=[.ref p]/\O2 K H p (ns.map V.int)/\Q (.int ns.sum) H
def Qh(f:c.A.handled=J):cD c (.builtin "sum") (Lb c.K):=by
 intro d s t H z v Q I r h;obtain⟨p,a,rfl,hq,q⟩:=h;obtain⟨u,rfl,g⟩:=vals1 r;cases g;obtain⟨i,n,k,x⟩:=I.list hq;have X:=sD n;obtain⟨j,e⟩:=X.allInts.items;have b:=k.isList;rw[e]at b;have o:j.toList.map (·.1)=a:=by rw[<-nums_intItems,<-e];exact X.numsOf
 refine sum_intListG f b λy w l m=>?_;rw[preSum_eq,HX F5,o];exact⟨.int a.sum,H,I.kept m,⟨l,rfl⟩,q⟩
def E9.ints:∀{xs:List V}{is:List Int},E9 g m xs M->intsOf M=U is->xs=is.map V.int:=by
 induction M with
 |nil=>intro _ _ h e;cases h;cases e;rfl
 |cons d M i=>
  intro _ _ h e;cases h with
  |cons h t=>
  cases h with
  |int=>
   obtain⟨a,b,e⟩:=t5 e;cases e;rw[i t b];rfl
  |_=>exact nE e
def a0i:ue g (Lb g) Bo:=.one λO m H x k pv Q D K b q=>by
 cases K with
 |lst d h=>
  obtain⟨c,e,b⟩:=t5 b;cases b;cases h.ints e;exact⟨_,c,rfl,D9.seq d,q _ H (w9.refl H) (Dt.int _)⟩
 |_=>exact nE b
def NR(A:c.N.Nodup)(b:c.N[N]?=U u)(w:Loc c.env.scope u)(C:Ky c e G D)(X:autoParam (bG e (U (.Name u p)) E.line c.env=pure Uf) w4)(y:autoParam (Bc c u) jZ):T3 c (.Assign [.Name u p] e E) (oG G (cO N)) (u6 N D):=⟨C.s A b w X y,by intro O a x r H n F o S h q;obtain⟨pv,e1,h⟩:=t5 h;cases h;exact C.p.t O a x r H n pv _ S e1 λv D i z=>q _ _ _ ((S.grow i).set N (z.dt S.dm))⟩
def CL(A:c.N.Nodup)(b:c.N[N]?=U u)(w:Loc c.env.scope u)(C:Ky c e G D)(X:autoParam (bG e (U (.Name u p)) E.line c.env=pure Uf) w4)(y:autoParam (Bc c u) jZ):T3 c (.Assign [.Name u p] e E) (oG G (cO N)) (U5 N D):=⟨C.s A b w X y,by
 intro O a F r H n i o S h q;obtain⟨pv,e1,h⟩:=t5 h;cases h;refine C.p.t O a F r H n pv _ S e1 λv I w A=>?_
 obtain⟨d,x⟩:=S.store w N A;exact q _ _ _ x⟩
mutual
def LF:f9->Bool
 | .none=>Uf
 | .bool _=>Uf
 | .int _=>Uf
 | .str _=>Uf
 | .tuple l=>mF l
 | .dict [(.list _,.none)]=>Uf
 |_=>U'
def mF:List f9->Bool
 | []=>Uf
 |d::r=>LF d&&mF r
end
def Yf(e:∀b K,m b=U K->¬Cell K->o b=U K)(h:ae g m z L):ae g o z L:=by
 rcases h with (h|⟨K,h⟩)|h
 exact .inl (.inl (e _ _ h (λH=>by rcases H with ⟨_,H⟩|⟨_,H⟩|⟨_,_,_,H⟩<;>cases H)));exact .inl (.inr ⟨K,e _ _ h (λH=>by rcases H with ⟨_,H⟩|⟨_,H⟩|⟨_,_,_,H⟩<;>cases H)⟩);exact .inr h
mutual
theorem Dt.lf{K:A6}{H H':Hp}(e:∀b o,H b=U o->¬Cell o->H' b=U o){x:V}{d:f9}(h:Dt K H x d)(f:LF d=Uf):Dt K H' x d:=by
 cases h with
 |non=>exact .non
 |bl b=>exact .bl b
 |int i=>exact .int i
 |str y=>exact .str y
 |tup a c=>exact .tup (Yf e a) (E9.lf e c u4)
 |lst a c=>exact nT f
 |exc _ _ _ _ _=>exact nT f
 |fn _=>exact nT f
 |ins _ _ _ _=>exact nT f
 |dct _ _ _=>exact nT f
 |key h=>exact .key (e _ _ h (λz=>by rcases z with ⟨_,z⟩|⟨_,z⟩|⟨_,_,_,z⟩<;>cases z))
 |dtt _ _ _ _=>exact nT f
theorem E9.lf{K:A6}{H H':Hp}(e:∀b o,H b=U o->¬Cell o->H' b=U o){xs:List V}{ds:List f9}(h:E9 K H xs ds)(f:mF ds=Uf):E9 K H' xs ds:=by
 cases h with
 |nil=>exact .nil
 |cons a t=>
  rw[mF,pP]at f;exact .cons (Dt.lf e a f.1) (E9.lf e t f.2)
end
def Dh(F:DV):DV:=λds=>(F ds).bind λpv=>if LF pv.d=Uf then U (.dat pv.d)else J
def a3S(h:PX c U' e G D):PX c I e G (Dh D):=⟨h.p,by
 intro O X n l H g pv Q S a q;obtain⟨w,hF,a⟩:=t5 a;obtain⟨d,a⟩:=K9 a;cases a;refine h.t O X n l H g w Q S hF λv j e r=>q v j e ?_;refine Dt.lf (λb o s k=>?_) (r.dt S.dm) d;obtain⟨x,_,i⟩:=G5.mp s;refine G5.mpr ⟨x,λz=>?_,i⟩
 obtain⟨_,u,m⟩:=S.new b (ot z);have:=e _ _ m;rw[i]at this;have f:=u.2;rw[<-W5 this]at f;exact k f⟩
def NI(K:A6):V->List V->Hp->VK->Prop:=λx vs H Q=>∃(p:Addr) (ns:List Int) (k:Int),x=.ref p/\vs=[.int k]/\O2 K H p (ns.map V.int)/\k∈ns/\ns.length<=1000000/\Q (.int (ns.idxOf k:Nat)) H
def UN:Xu c "list.index" (NI c.K):=by
 intro m s P H x M v O Q I z e h;obtain⟨p,l,k,rfl,rfl,hq,G,N,q⟩:=h;cases z;obtain⟨u,rfl,E⟩:=vals1 e;obtain⟨t,rfl⟩:=E;obtain⟨a,e,D,_⟩:=I.list hq;have X:=sD e;obtain⟨⟨B,A,o,w⟩,i,C,n,L⟩:=id D.isList;subst C L;have:=X.length;have d:=(List.idxOf_lt_length_iff).2 G;refine ko AO ⟨_,i,rfl⟩ RF (RJ _ _)
  (RE p a.toArray n A w (.int k t) (isInt k) (l.idxOf k) (by simp_all) t9 ?_ ?_) ⟨i,λy r=>(eq_isInt k t X y (by simpa using r)).at _ _,?_⟩
 show isInt k a[l.idxOf k]=Uf;rw[isInt_at k X _ C4 d];simp;intro j g f;show isInt k a[j]=U';rw[isInt_at k X j bI (ky u4 u4)];exact ne_of_lt_idxOf f _;exact⟨.int _,H,I.tok _,⟨_,rfl⟩,q⟩
def zk:f9->FV
 | .list l,[.int k]=>(intsOf l).bind λns=>if k∈ns/\ns.length<=1000000 then U (.dat (.int (ns.idxOf k:Nat)))else J
 |_,_=>J
noncomputable def sX(f:f9->FV)(Fo:DV)(Fl:DL):DV:=λds=>(Fo ds).bind λo=>(Fl ds).bind λl=>f o.d l
set_option tactic.hygienic true in
def Tj(w:PX c I r G D)(C:gm c I [e] P a2)(bm:autoParam (Ip c r "index" p e [] E) rK):
  PX c I (.Call (.Attribute r "index" p) [e] [] E) (Eo c.K "list" (NI c.K) G P) (sX zk D a2):=
 ⟨wC tJ AO RB UN w.p C.p bm,by
 intro O f t A H n pv Q S b q;unfold sX at b;cases h1:D n with
 |none=>rw[h1]at b;exact nE b
 |some x=>
  cases h2:a2 n with
  |none=>rw[h1,h2]at b;exact nE b
  |some l=>
   rw[h1,h2]at b;simp only[A4]at b;refine w.t O f t A H n x _ S h1 λv W u V=>?_;have B:=V.dt S.dm;generalize x.d=Z at b B;unfold zk at b;split at b
   . rename_i o k;cases B with
     |lst j N=>
      rename_i a xs;obtain⟨M,h3,b⟩:=t5 b;obtain⟨s,b⟩:=K9 b;cases b;have R:=N.ints h3;subst R;refine⟨.inl ⟨rfl,_,D9.seq j⟩,?_⟩;refine C.t O f t A W n _ _ (S.grow u) h2 λY T z L=>?_;obtain⟨y,rfl,X⟩:=L.inv1;cases X;exact⟨a,M,k,rfl,rfl,z.seq (D9.seq j),s.1,s.2,q _ T (u.trans z) (Dt.int _)⟩
   . exact nE b⟩
section
variable{prog:N9}{w:G6}
end
set_option tactic.hygienic true in
set_option tactic.hygienic true in
def IM(b:Bool)(l:Addr)(xs:Array t7):
  Meets (Builtin.«enumerate.__new__» ⟨[.type "enumerate",.ref l],[]⟩) (λ_ R s=>lK b s.heap l xs /\
   R (.ok (.ret (.ref (s.heap.push (rp b l)).objs.size))) {s with heap:=(s.heap.push (rp b l)).push {cls:=.type "enumerate",data:=.fields #[.none,.bool U',.ref (hz s),aB 0,.none,.none]}}):=
 .of_wp λe w A R s h=>by
  obtain⟨j,g,d,i,m⟩:=s;obtain⟨f,h⟩:=h;have:=sub_enumerate;have a:=f
  wp_walk using wO a
  refine wpAny_stack_any λk=>B9 ?_;split
  . rename_i c _ _ _ _ _;cases(c==zX "enumerate")
    . wp_walk using wO a
      exact⟨_,rfl,h⟩
    . wp_walk using wO a
      exact⟨_,rfl,h⟩
  . wp_walk using wO a
    exact⟨_,rfl,h⟩
section
variable{prog:N9}{w:G6}
def My(f:lK I t.heap z b6)(h:∀h',IsEnum h' (t.heap.objs.size+1) t.heap.objs.size 0 .none->nP I h' t.heap.objs.size z 0->(∀b o,t.heap.get? b=U o->h'.get? b=U o)->Q (.ref (t.heap.objs.size+1)) {t with heap:=h'}):
  wpAny (model prog w) A (call (.type "enumerate") [.ref z]) Q b8 t:=by
 refine callType_new F.called_enumerate f5 (F.typeCall_enumerate_1 _) (F.newCall_enumerate_1 _) (λobj=>F.args_object_init_2 obj _) F.entry_enumerate_new (IM I z b6) ⟨f,?_⟩
 have d:(t.heap.push (rp I z)).objs.size=t.heap.objs.size+1:=iV ..;have e:(rp I z).isFreed=U':=by cases I<;>rfl
 rw[d];have c:IsEnum ((t.heap.push (rp I z)).push {cls:=.type "enumerate",data:=.fields #[.none,.bool U',.ref t.heap.objs.size,aB 0,.none,.none]}) (t.heap.objs.size+1) t.heap.objs.size 0 .none:=by have:=Y8 (t.heap.push (rp I z)) (o:={cls:=.type "enumerate",data:=.fields #[.none,.bool U',.ref t.heap.objs.size,aB 0,.none,.none]}) rfl;rw[d]at this;exact this
 exact⟨⟨_,c,rfl⟩,h _ c (.new (N3 _ (Y8 _ e))) λb o x=>N3 _ (N3 _ x)⟩
end
def a3a{prog:N9}{w:G6}(m:A.handled=J)(it l:Addr)(c:l≠it)(xs:Array t7):
  Draws prog w A it [it,l] xs.size (λi v=>xs[i]?=U v) (λi h=>uf I h it l i xs) where
 live:=λi h a=>by
  cases I;exact(Draws.list (prog:=prog) (w:=w) m it l c xs).live i h a;obtain⟨o,y,_⟩:=(show h.IsTupleIter it l i/\h.IsTuple l xs from a).1;exact⟨o,y⟩
 frame:=λi h j a u=>a.kept λb o q e=>u b (by rcases q with rfl|rfl<;>simp) o e
 item:=λi s Q E k a p=>by
  refine nV a c (x:=xs[i]) (by simp[k]) λj d n=>?_;refine p _ j s.toks (by simp[k]) ?_ n;have k2:=λo e=>n.extBut l o c e;cases I;obtain⟨_,o,g,r⟩:=(show s.heap.IsListIter it l i/\s.heap.IsList l xs from a);exact⟨d,o,k2 o g,r⟩;obtain⟨_,o,g,r⟩:=(show s.heap.IsTupleIter it l i/\s.heap.IsTuple l xs from a);exact⟨d,o,k2 o g,r⟩
 done:=λs Q E a t=>qk m a F5 t
def Ite(kd:Bool)(K:A6)(a:Addr):It:=
 ⟨λi H=>∃xs x,hJ kd K H a xs/\xs[i]?=U x,
  λi H v H'=>∃p,v=.ref p/\H p=J/\∃x,H'=upd H p (.tup [.int i,x])/\∀xs,hJ kd K H a xs->xs[i]?=U x,
  λi H=>∃xs,hJ kd K H a xs/\xs.length<=i⟩
def Na(t:z≠T):
  Turn a9 i6 g (.Tuple Z N p) (Ite I g c7) [z,T] z (λi h=>(∃d,IsEnum h z T i d)/\nP I h T c7 i) where
 mem:=H9
 obj:=λi h P c b=>by
  have j:c=z\/c=T:=by simpa using b
  rcases j with rfl|rfl
  obtain⟨d,q⟩:=P.1;exact⟨_,q,λv e=>by cases e⟩;exact P.2.obj
 keep:=λi h m P kk=>by obtain⟨d,q⟩:=P.1;exact⟨⟨d,kk z H9 _ q⟩,P.2.at λo e=>kk T H9 o e⟩
 item:=by
  intro X G hw hK b i f s S H E O B P hg;subst G hw hK;obtain⟨xs,x,C,ex⟩:=hg;obtain⟨l,w,ox⟩:=O.Jg C P.2;obtain⟨u,hu,ru⟩:=w.get ex;obtain⟨d,M⟩:=P.1;have L:=B z H9;have r:i<l.toArray.size:=by
   have:i<l.length:=by
    by_cases c:i<l.length;exact c;rw[oa (kC u4)]at hu;exact nE hu
   omega
  have V:X.A.in1.handled=J:=O.ok.hd b;have D:Draws X.prog X.w X.A.in1 T [T,c7] l.toArray.size (λi v=>l.toArray[i]?=U v) (λi h=>uf I h T c7 i l.toArray):=a3a V T c7 (C.x.ne O (B T H9)) l.toArray;refine wpAny_pyNext_enum_itemD D M ox r t (by simp;exact⟨t,(C.x.ne O L).symm⟩) λx' m K G ho R Y hsz hk=>?_
  have ux:x'=u:=by
   have:l.toArray[i]?=U u:=by simpa using hu
   rw[this]at G;cases G;rfl
  subst ux;have Q:=O.L3.fresh G8;have I1:Inv X f S H {s with heap:=m,toks:=K+1}:=O.wm (ch:=[z,T]) (λc o b e=>hk c o (λq=>b (by simp[q])) (λq=>b (by simp[q])) e) (λc b=>B c bI)
  have I2:Inv X f S (upd H (hz s) (.tup [.int i,x])) {s with heap:=m,toks:=K+1}:=I1.KO Q (gx O.lt) (.inr O.sz)
   (λn c e q=>by obtain⟨vv,q2⟩:=O.cell n c e;exact absurd q2.lt (by rw[q];exact bw _))
   (λk hp q=>absurd (J8 (O.pin k hp).1) (by rw[q];exact bw _))
   ⟨by show 2<=J4;rw[rP];decide,[.int i K,x'],.cons ⟨_,rfl⟩ (.cons ru .nil),⟨_,Y,rfl,_,rfl⟩⟩
  refine⟨_,rfl,wpAny_letOwnedTupleGo_enum ho λh2 z2 b2=>?_⟩
  have uz:∀c,c∈[z,T]->(upd H (hz s) (.tup [.int i,x])) c=J:=λc b=>by
   have r:c<(hz s):=by
    have j:c=z\/c=T:=by simpa using b
    rcases j with rfl|rfl
    exact(J8 M);obtain⟨o,e,_⟩:=P.2.obj;exact J8 e
   rw[L8 (S8 r)];exact(B c b).1
  have I3:Inv X f S (upd H (hz s) (.tup [.int i,x])) {s with heap:=h2,toks:=K+1}:=Inv.turned (s:={s with heap:=m,toks:=K+1}) I2 (λc o b e=>b2.extBut c o b e) (uz z H9) L.2.1 L.2.2.2.1 L.2.2.2.2.1 L.2.2.2.2.2;refine⟨.ref (hz s),_,I3,rfl,⟨_,rfl,Q,x,rfl,λxs' y=>?_⟩,⟨⟨_,z2⟩,?_⟩,uz⟩;rw[y.inj O C];exact ex
  . have it':nP I m T c7 (i+1):=by
      cases I;exact(show m.IsListIter T c7 (i+1)/\_ from R).1;exact(show m.IsTupleIter T c7 (i+1)/\_ from R).1
    exact it'.at λo q=>b2.extBut _ _ t.symm q
 done:=by
  intro X G hw hK b i f s S H E O B P hg;subst G hw hK;obtain⟨xs,C,hend⟩:=hg;obtain⟨l,w,ox⟩:=O.Jg C P.2;obtain⟨d,M⟩:=P.1;have:=w.length;have Q:s.TypeIs (.ref z) "enumerate":=⟨_,M,rfl⟩;refine u9 (rV (oe Q Ro (kD Ro Q F.entry_enumerate_next ?_ (F.args_enumerate_next_1 _))));show wpAny _ _ (field (.ref z) 2 >>= _) _ _ _;refine u9 (ax M rfl rfl ?_);refine u9 (qk (O.ok.hd b) ox (by simp;simp_all) λm x a y=>?_)
  obtain⟨o,ho,j⟩:=y;refine u9 (Hu ⟨o,ho,j⟩ GX ?_);refine B9 ⟨rfl,?_⟩;exact O.wm (ch:=[T]) (λc o b e=>a c o (λq=>b (by simp[q])) e) (λc b=>B c (by
   have:c=T:=by simpa using b
   simp[this]))
 self:=λ_ _ _ _ _ P h=>by obtain⟨d,q⟩:=P.1;exact wpAny_pyIter_enum q h
section
def Pr(K:A6)(ta:TA):TI:=λσ H R=>ta σ H λvs H1=>∃a kd,vs=[.ref a]/\(∃xs,hJ kd K H1 a xs)/\R (Ite kd K a) H1
def boot_enumerate:fW "enumerate" = U (.type "enumerate"):=by decide +kernel
def Uh(F:Gl c "enumerate")(o:c.mg "enumerate" = J)(v:PA c [e] P)(hs:autoParam (Q9 [e] c.env=[(U',eval e c.env)]) w4):
  PI c (.Tuple Z N d3) (.Call (.Name "enumerate" p) [e] [] E) (Pr c.K P):=by
 intro X s m H R I h;refine Call_ (iq I F o boot_enumerate (qv (K0 (v E X s m H _ I h) λz d ⟨G,l,g,w,n⟩=>?_) (by rw[hs];rfl) (by rfl)));obtain⟨x,L,a,⟨M,t⟩,q⟩:=n;subst a;obtain⟨u,a,y⟩:=vals1 w;subst a;cases y;obtain⟨z,D⟩:=g.dq t;refine My D λA j B C=>?_;refine wpAny_pyIter_enum j ?_;have k:Inv c X m l {d with heap:=A}:=g.kept C;refine⟨(hz d)+1,_,_,_,l,rfl,k,Na (by show @Ne Nat _ _;simp[*]),⟨⟨_,j⟩,B⟩,λb r=>?_,q⟩
 have i:b=(hz d)+1\/b=(hz d):=by simpa using r
 have f:(hz d)<=b:=by
  rcases i with a|a<;>rw[a]
  exact kE _ _;exact V1 _
 exact g.ye f (g.L3.fresh f)
theorem tf:∀(l:List f9) (k:Int) (i:Nat),(aK k l)[i]?=(l[i]?).map λd=>.tuple [.int (k+(i:Nat)),d]
 | [],k,i=>by rfl
 |d::r,k,0=>by simp[aK]
 |d::r,k,i+1=>by have:=tf r (k+1) i;simp only[aK,tI];rw[this,show k+1+i=k+((i+1:Nat)) by lia]
def yk:∀(l:List f9) (k:Int),(aK k l).length=l.length:=by
 intro l_;induction l_ with
 |nil=>
  intro k;exact rfl
 |cons d r ih_=>
  intro k;rw[aK,Y7,ih_,Y7]
set_option tactic.hygienic true in
def Ud{fr:Bool}(Y:Gl c "enumerate")(t:c.mg "enumerate" = J)(m:gm c fr [e] P a2)(hs:autoParam (Q9 [e] c.env=[(U',eval e c.env)]) w4):
  qs c fr (.Tuple Z N d3) (.Call (.Name "enumerate" p) [e] [] E) (Pr c.K P) (F3 cQ a2):=⟨Uh Y t m.p hs,by
 intro O a W G H v h R S b q;obtain⟨l,h1,b⟩:=t5 b;refine m.t O a W G H v l _ S h1 λvs D w ta=>?_;unfold cQ at b;split at b
 . rename_i C;obtain⟨K,hl,b⟩:=t5 b;cases b;cases ta with
   |cons r k=>
    cases k;obtain⟨e,B,f,rfl,n,u⟩:=r.dq hl;refine⟨e,B,rfl,⟨f,D9.dq n⟩,q _ D w λH' g i=>?_⟩;have X:=g.dq (wR.dq n);have:=u.length;rw[yk];refine⟨λs=>⟨f,f[i]'t9,X,L6 _⟩,λs=>⟨f,X,by simp[*]⟩,λx V y s=>?_⟩;obtain⟨pp,Q,d,x',T,F⟩:=y;subst Q;subst T;obtain⟨A,L,I⟩:=u.get' (F f X);refine⟨w9.new d,.tuple [.int i,A],by rw[tf,L];simp,λvb j M=>?_⟩;refine .tup (ae.of (G5.mpr ⟨λz=>?_,λz=>?_,Q5⟩)) (.cons (.int _) (.cons (ro I g (w9.new d) j) .nil));obtain⟨o,z⟩:=M _ z;rw[g _ _ z]at d;exact nS d;obtain⟨_,o,z⟩:=j _ z;rw[z]at d;exact nS d
 . exact nE b⟩
end
noncomputable def W0(f:Str):List f9->List f9->Option f9
 | .str n::ns,d::l=>if n=f then U d else W0 f ns l
 |_,_=>J
noncomputable def wQ(nm:Str):f9->Option (List f9×List f9)
 | .dict [(.tuple [.str n,.list ns],.tuple l)]=>if n=nm then U (ns,l)else J
 |_=>J
def Pp(a:Str)(ns:List Str)(l:List f9):wQ a (BX a ns l)=U (ns.map .str,l):=by
 show(if a=a then U (ns.map PyData.str,l)else J)=_;simp
set_option tactic.hygienic true in
def CY{l:List f9}(h:Dt g m Y i3)(e:wQ u i3=U (M,l)):
  ∃a C K fv ms vs,Y=.ref a/\gu g aQ u=U (U (.ref C))/\m a=U (.ins C K fv)/\fv=List.zip ms vs/\M=ms.map .str/\E9 g m vs l:=by
 cases h with
 |ins k H i t=>
  rename_i a C K fv b ms vs j;have f:(if b=u then U (ms.map PyData.str,j)else J)=U (M,l):=e;obtain⟨n,f⟩:=K9 f;cases f;subst n;exact⟨a,C,K,fv,ms,vs,rfl,k,H,i,rfl,t⟩
 |_=>exact nE e
def CS(h:E9 g m L M):(W0 u (b3.map .str) M=J/\(List.zip b3 L).lookup u=J)\/∃d H,W0 u (b3.map .str) M=U d/\(List.zip b3 L).lookup u=U H/\Dt g m H d:=by
 induction b3 generalizing L M with
 |nil=>exact .inl ⟨rfl,rfl⟩
 |cons K b3 i=>cases h with
  |nil=>exact .inl ⟨rfl,rfl⟩
  | @cons v L d M h t=>
   rw[show W0 u ((K::b3).map .str) (d::M)=if K=u then U d else W0 u (b3.map .str) M from rfl,lW,pQ];by_cases c:K=u;subst c;rw[r9 rfl];exact .inr ⟨d,v,rfl,by simp,h⟩
   . have a:(u==K)=U':=by simpa using λz=>c z.symm
     rw[s9 c,a];exact i t
structure jr(K:A6)(nm:Str)(C:Addr):Prop where
 ns:gu K aQ nm=U (U (.ref C))
 cl:wg K C
def jr.eq(K:jr g u z)(h:gu g aQ u=U (U (.ref T))):T=z:=by
 rw[K.ns]at h
 simp_all
def Z6(nm f:Str)(d:f9):Option f9:=(wQ nm d).bind λp=>W0 f p.1 p.2
noncomputable def J7(nm f:Str)(F:DV):DV:=λds=>(F ds).bind λpv=>(Z6 nm f pv.d).bind λd=>U (.dat d)
def Tp(kk:c.K=g)(T:jr g u z)(n:cU g z b7)(h:PX c I e G D)(K:autoParam (Bj c e b7) w4):PX c I (.Attribute e b7 p) (Bm g G b7) (J7 u b7 D):=by
 subst kk;exact⟨uO h.p K,by
  intro O F C A H B pv Q S X q;obtain⟨Z,x,X⟩:=t5 X;obtain⟨d,y,X⟩:=t5 X;cases X;obtain⟨⟨Y,l⟩,k,i⟩:=t5 y;refine h.t O F C A H B Z _ S x λv r w N=>?_
  obtain⟨a,s,M,P,V,R,rfl,E,o,rfl,rfl,f⟩:=CY (N.dt S.dm) k;have m:=T.eq E;subst m;rcases CS f with ⟨fr,j⟩|⟨W,t,fr,j,L⟩
  have b:=i;rw[fr]at b;exact nE b
  . have b:=i;rw[fr]at b;cases b;exact⟨a,s,M,_,t,rfl,D9 _ _ o,T.cl,n,j,q t r w L⟩⟩
def Z8(nm m:Str)(f:FV)(Fo:DV)(Fl:DL):DV:=λds=>(Fo ds).bind λpv=>(wQ nm pv.d).bind λp=>match W0 m p.1 p.2 with
 |none=>(Fl ds).bind λl=>f (pv.d::l)
 |some _=>J
def Jd{fr:Bool}(T:jr c.K u z)(ho:PX c fr e G D)(h:gm c fr Z P a2):TX c.K fr (sE z b7 (H0 c.K m2) [] m3 G P) (Z8 u b7 m2 D a2):=by
 intro O k i V H W pv Q S j q;obtain⟨p,h1,j⟩:=t5 j;obtain⟨⟨ns,l0⟩,Y,j⟩:=t5 j;refine ho.t O k i V H W p _ S h1 λv H1 B r1=>?_
 have M:=r1.dt S.dm;obtain⟨a,C',dx,fv,ms,vs0,rfl,c1,c2,rfl,rfl,c3⟩:=CY M Y;have t:=T.eq c1;subst t;rcases CS c3 with ⟨I,N⟩|⟨d',f,I,N,z3⟩
 . have g:=j;rw[I]at g;obtain⟨l,h4,j⟩:=t5 g;refine⟨a,dx,_,rfl,D9 _ _ c2,N,?_⟩;refine h.t O k i V H1 W l _ (S.grow B) h4 λvs H2 A r2=>?_;have E:=((S.grow B).grow A).dm (fr:=fr);rw[af];have L:∀H,D1 H (aS fr i) O=D1 H [] (O++(aS fr i).filterMap id):=λH=>rC (bs:=[]);refine⟨O++(aS fr i).filterMap id,p.d::l,pv,λb r=>?_,by rw[<-L];exact .cons (M.same (Q7 A)) r2,j,λv m K n=>q v m ((B.trans A).trans K) ?_⟩
   . rcases List.mem_append.mp r with r|r
     exact E.o b r;obtain⟨x,hx,o⟩:=List.mem_filterMap.mp r;subst o;exact E.a b hx
   . have s:=B.trans A;cases pv with
     |dat d=>
      have y:Dt c.K (D1 m [] (O++(aS fr i).filterMap id)) v d:=n;rw[<-L]at y;exact y
     |own l=>
      obtain⟨b,xs,K,C,F,n⟩:=n;refine⟨b,xs,K,s.free C,F,?_⟩;rw[show(U b::aS fr i)=[U b]++aS fr i from rfl,rC];exact n
     |ob w X=>
      obtain⟨e,R,K,C,F,n⟩:=n;refine⟨e,R,K,C,λb r=>s.free (F b r),?_⟩;rw[rC];rw[af]at n;exact n
 have g:=j;rw[I]at g;exact nE g
noncomputable def aJ(F:DV):DV:=λds=>(F ds).bind λpv=>match pv with
 | .dat d=>if LF d=Uf then U (.dat d)else J
 | .own l=>if mF l=Uf then U (.own l)else J
 | .ob _ _=>J
def DS.a0D{cs:As}(S:DS g O m q B o y)(e:w9 o d8)(l:∀b,U b∈cs->U b∈j1\/U b∈q)(a:Addr)(u:HO)(h:D1 d8 j1 O a=U u)(k:¬Cell u):D1 d8 cs O a=U u:=by
 obtain⟨f,j,d⟩:=G5.mp h;refine G5.mpr ⟨f,λz=>?_,d⟩
 rcases l a z with z|z
 exact j z;obtain⟨_,c,i⟩:=S.new a z;have:=e _ _ i;grind
def a1v(h:PX c U' e G D):PX c I e G (aJ D):=⟨h.p,by
 intro O g s n H o pv Q S f q;obtain⟨p,u,f⟩:=t5 f;cases p with
 |dat d=>
  simp only at f;obtain⟨k,f⟩:=K9 f;cases f;refine h.t O g s n H o _ _ S u λv j i m=>q v j i ?_;exact Dt.lf (S.a0D i λb z=>.inr (ot z)) m k
 |own l=>
  simp only at f;obtain⟨k,f⟩:=K9 f;cases f;refine h.t O g s n H o _ _ S u λv j i m=>q v j i ?_;obtain⟨a,y,x,A,B,r⟩:=m;refine⟨a,y,x,A,B,E9.lf (S.a0D i λb z=>?_) r k⟩
  rcases List.mem_cons.mp z with z|z
  exact .inl (by rw[z];exact F2);exact .inr (ot z)
 |ob w X=>exact nE f⟩
noncomputable def R7(f:Str)(p:PF):List (Str×PF)->List (Str×PF)
 | []=>[(f,p)]
 |(g,x)::r=>if g=f then(g,p)::r else(g,x)::R7 f p r
def J3(f:Str):List (Str×PF)->Option PF
 | []=>J
 |(g,x)::r=>if g=f then U x else J3 f r
inductive wc(K:A6)(Hv H:Hp):V->PF->List Addr->Prop
 |dat {x d}:Dt K Hv x d->wc K Hv H x (.dat d) []
 |own {a xs l}:H a=U (.lst xs)->E9 K Hv xs l->wc K Hv H (.ref a) (.own l) [a]
 |dct {a kvs es}:H a=U (.dK kvs)->Ij K Hv kvs es->wc K Hv H (.ref a) (.dct es) [a]
section
variable{K:A6}
def T5.cons{Hv:Hp}{H:Hp}{R:List Addr}{Rf:List Addr}{fv:List (Str×V)}{fs:List (Str×PF)}{y:V}{p:PF}{n:Str}(h:wc K Hv H y p Rf)(d:∀b∈Rf,b∉R)(t:T5 K Hv H fv fs R):T5 K Hv H ((n,y)::fv) ((n,p)::fs) (Rf++R):=by
 cases h with
 |dat h=>exact .dat h t
 |own c a=>exact .own c a (d _ F2) t
 |dct c a=>exact .dct c a (d _ F2) t
def T5.put{f:Str}(t:T5 K m o k i4 O)(h:wc K m o Y j8 j4)(d:∀b∈j4,b∉O):∃R',T5 K m o (dB f Y k) (R7 f j8 i4) R'/\∀b∈R',b∈j4\/b∈O:=by
 induction t with
 |nil=>
  refine⟨j4++[],T5.cons h (λb _=>by simp) .nil,λb e=>.inl (by simpa using e)⟩
 | @dat n x v k i4 O s t j=>
  obtain⟨R',i,g⟩:=j d;rw[dB,R7];by_cases c:n=f;rw[r9 c,r9 c];exact⟨j4++O,T5.cons h d t,λb e=>List.mem_append.mp e⟩;rw[s9 c,s9 c];exact⟨R',.dat s i,g⟩
 | @own n a u l k i4 O R H q t j=>
  obtain⟨R',i,g⟩:=j λb e z=>d b e (E7 _ z);rw[dB,R7];by_cases c:n=f;rw[r9 c,r9 c];exact⟨j4++O,T5.cons h (λb e z=>d b e (E7 _ z)) t,λb e=>(List.mem_append.mp e).imp id (E7 _)⟩
  . rw[s9 c,s9 c];refine⟨a::R',.own R H (λz=>?_) i,λb e=>?_⟩
    . rcases g a z with z|z
      exact d a z F2;exact q z
    . rcases List.mem_cons.mp e with rfl|e
      exact .inr F2;exact(g b e).imp id (E7 _)
 | @dct n a r w k i4 O R H q t j=>
  obtain⟨R',i,g⟩:=j λb e z=>d b e (E7 _ z);rw[dB,R7];by_cases c:n=f;rw[r9 c,r9 c];exact⟨j4++O,T5.cons h (λb e z=>d b e (E7 _ z)) t,λb e=>(List.mem_append.mp e).imp id (E7 _)⟩
  . rw[s9 c,s9 c];refine⟨a::R',.dct R H (λz=>?_) i,λb e=>?_⟩
    . rcases g a z with z|z
      exact d a z F2;exact q z
    . rcases List.mem_cons.mp e with rfl|e
      exact .inr F2;exact(g b e).imp id (E7 _)
def jB:gr u ((b7,Y)::j5)=if b7=u then U Y else gr u j5:=by
 rw[pQ];by_cases c:b7=u;subst c;simp
 . have a:(u==b7)=U':=by simpa using λz=>c z.symm
   rw[a,s9 c]
set_option tactic.hygienic true in
def T5.a2l(t:T5 K m o j5 i4 O)(h:J3 u i4=J):j5.lookup u=J:=by
 induction t with
 |nil=>rfl
 | dat hd t ih => rw [J3] at h; rw [jB]; split at h; · exact nS h
                  rename_i c;rw[s9 c];exact ih h
 | own h1 h2 h3 t ih => rw [J3] at h; rw [jB]; split at h; · exact nS h
                        rename_i c;rw[s9 c];exact ih h
 | dct h1 h2 h3 t ih => rw [J3] at h; rw [jB]; split at h; · exact nS h
                        rename_i c;rw[s9 c];exact ih h
def T5.look(t:T5 K m o w i4 O)(h:J3 u i4=U j8):∃x Rf,w.lookup u=U x/\wc K m o x j8 Rf/\(∀b∈Rf,b∈O) /\
  ∀{Hv' H':Hp}{H:PF},w9 m Hv'->(∀b∈O,b∉Rf->∀R,o b=U R->H' b=U R)->wc K Hv' H' x H Rf->T5 K Hv' H' w (R7 u H i4) O:=by
 induction t with
 |nil=>exact nE h
 | @dat n x d w i4 O C t s=>
  rw[J3]at h;rw[jB];by_cases c:n=u;rw[r9 c]at h⊢;cases h;refine⟨x,[],rfl,.dat C,λb g=>absurd g F5,λ{Hv' H' H} e i k=>?_⟩;rw[R7,r9 c];exact T5.cons k (λb g=>absurd g F5) (t.same e λb g=>i b g F5);rw[s9 c]at h⊢;obtain⟨y,Rf,A,f,q,r⟩:=s h;refine⟨y,Rf,A,f,q,λ{Hv' H' H} e i k=>?_⟩;rw[R7,s9 c];exact .dat (C.same e) (r e i k)
 | @own n a F l w i4 O B v j t s=>
  rw[J3]at h;rw[jB];by_cases c:n=u;rw[r9 c]at h⊢;cases h;refine⟨_,[a],rfl,.own B v,λb g=>by rw[mem_singleton.mp g];exact F2,λ{Hv' H' H} e i k=>?_⟩;rw[R7,r9 c];refine T5.cons k (λb g=>by rw[mem_singleton.mp g];exact j) (t.same e λb g=>i b (E7 _ g) λz=>?_);rw[mem_singleton.mp z]at g;exact j g;rw[s9 c]at h⊢;obtain⟨y,Rf,A,f,q,r⟩:=s h;refine⟨y,Rf,A,f,λb g=>E7 _ (q b g),λ{Hv' H' H} e i k=>?_⟩;rw[R7,s9 c];exact .own (i a F2 (λz=>j (q a z)) _ B) (v.same e) j (r e (λb g=>i b (E7 _ g)) k)
 | @dct n a D E w i4 O B v j t s=>
  rw[J3]at h;rw[jB];by_cases c:n=u;rw[r9 c]at h⊢;cases h;refine⟨_,[a],rfl,.dct B v,λb g=>by rw[mem_singleton.mp g];exact F2,λ{Hv' H' H} e i k=>?_⟩;rw[R7,r9 c];refine T5.cons k (λb g=>by rw[mem_singleton.mp g];exact j) (t.same e λb g=>i b (E7 _ g) λz=>?_);rw[mem_singleton.mp z]at g;exact j g;rw[s9 c]at h⊢;obtain⟨y,Rf,A,f,q,r⟩:=s h;refine⟨y,Rf,A,f,λb g=>E7 _ (q b g),λ{Hv' H' H} e i k=>?_⟩;rw[R7,s9 c];exact .dct (i a F2 (λz=>j (q a z)) _ B) (v.same e) j (r e (λb g=>i b (E7 _ g)) k)
end
noncomputable def hZ(nm:Str)(i:Nat)(ds:Ds):Option (Option Addr×List (Str×PF)):=match ds[i]? with
 |some (U (.ob w (.ins n fs)))=>if n=nm then U (w,fs)else J
 |_=>J
def dC(h:hZ u N y=U (k7,i4)):y[N]?=U (U (.ob k7 (.ins u i4))):=by
 unfold hZ at h;split at h
 . simp_all
 exact nE h
def Gf:PF->Option f9
 | .dat d=>U d
 |_=>J
def uP:PF->Option (List f9)
 | .own l=>U l
 |_=>J
def Vv(h:Gf j8=U i3):j8=.dat i3:=by cases j8<;>cases h;rfl
def xU(h:uP j8=U M):j8=.own M:=by cases j8<;>cases h;rfl
def P9(nm:Str)(i:Nat)(f:Str):DV:=λds=>(hZ nm i ds).bind λx=>(J3 f x.2).bind λp=>(Gf p).bind λd=>U (.dat d)
def jU(nm:Str)(i:Nat)(f:Str)(Fb:DV):DV:=λds=>(hZ nm i ds).bind λx=>(J3 f x.2).bind λp=>(uP p).bind λl=>(Fb ds).bind λk=>K6 (.list l) k.d
section
def Th(kk:c.K=g)(T:jr g u z)(n:cU g z b7)(h:PE c e (S3 N))(A:autoParam (Bj c e b7) w4):PX c I (.Attribute e b7 p) (Bm g (S3 N) b7) (P9 u N b7):=by
 subst kk;exact⟨uO h A,by
  intro O X D i H F pv Q S a q;obtain⟨⟨w,fs⟩,s,a⟩:=t5 a;obtain⟨K,l,a⟩:=t5 a;obtain⟨d,t,a⟩:=t5 a;cases a;have C:=Vv t;subst C;obtain⟨v,R,k,_,_,f,j,m,E,rfl,o,r,L⟩:=S.slot N _ (dC s);have B:=T.eq o;subst B;obtain⟨x,G,y,b,_⟩:=L.look l;cases b with
  |dat b=>exact⟨_,k,v,f,j,m,x,rfl,r,T.cl,n,y,q x H (w9.refl H) (b.same jC)⟩⟩
set_option tactic.hygienic true in
def Ym(kk:c.K=g)(T:jr g u z)(n:cU g z b7)(h:PE c e (S3 N))(A:PX c I r G D)(s:autoParam (Bj c e b7) w4)(hs:autoParam (rL r) xg):PX c I (.Subscript (.Attribute e b7 E) r p) (tU (Jr g) (Bm g (S3 N) b7) G) (jU u N b7 D):=by
 subst kk;exact⟨DT zg (uO h s) A.p hs,by
  intro O nm i σ H Y pv Q S b q;obtain⟨⟨w,fs⟩,h1,b⟩:=t5 b;obtain⟨tb,V,b⟩:=t5 b;obtain⟨l,K,b⟩:=t5 b;obtain⟨k,m,f⟩:=t5 b;have e3:=xU K;subst e3;obtain⟨v,R,L,_,hR,C',C,W,R',rfl,Fb,c2,F⟩:=S.slot N _ (dC h1);have ec:=T.eq Fb;subst ec;obtain⟨x,Rf,l1,l2,l3,l4⟩:=F.look V;cases l2 with
  |own P t=>
   rename_i a Z;refine⟨_,L,v,C',C,W,_,rfl,c2,T.cl,n,l1,A.t O nm i σ H Y k _ S m λy o fr M=>?_⟩
   have B:=M.dt S.dm;generalize k.d=kk at f B;cases B with
   |int j=>
    have X:=f;obtain⟨d,h5,X⟩:=t5 X;cases X;obtain⟨v,K,m⟩:=t.aA h5;exact .inl ⟨a,Z,j,v,rfl,rfl,O2.of (fr _ _ P),K,q v o fr (Dt.same (jC.trans (Q7 fr)) m)⟩
   |_=>exact nE f⟩
end
section
variable{K:A6}
set_option tactic.hygienic true in
def DS.adopt(S:DS K O m q B o y)(H:w9 o d8)(i:Nat)(r:∀b∈j4,o b=J)(x:∀b∈j4,∃u:Cl,d8 b=U u.1):
  DS K O m (j4.map U++q) B d8 y/\∀c:Nat->List Addr,(∀i b,b∈c i->U b∈q)->(∀i j b,b∈c i->b∈c j->i=j)->(∀(i:Nat) (pv:PV),y[i]?=U (U pv)->cT K O q o B[i]? (c i) pv) ->
   ∃a:Nat->List Addr,(∀i b,b∈a i->U b∈j4.map U++q)/\(∀i j b,b∈a i->b∈a j->i=j)/\(∀(i:Nat) (pv:PV),y[i]?=U (U pv)->cT K O (j4.map U++q) d8 B[i]? (a i) pv)/\(∀b∈j4,b∈a i)/\∀b∈c i,b∈a i:=by
 have s:∀b∈j4,U b∉q:=λb d z=>by obtain⟨_,σ,z⟩:=S.new b z;rw[r b d]at z;exact nE z
 have l:∀c:Nat->List Addr,(∀i b,b∈c i->U b∈q)->(∀i j b,b∈c i->b∈c j->i=j)->(∀i pv,y[i]?=U (U pv)->cT K O q o B[i]? (c i) pv) ->
   ∃a:Nat->List Addr,(∀i b,b∈a i->U b∈j4.map U++q)/\(∀i j b,b∈a i->b∈a j->i=j)/\(∀i pv,y[i]?=U (U pv)->cT K O (j4.map U++q) d8 B[i]? (a i) pv)/\(∀b∈j4,b∈a i)/\∀b∈c i,b∈a i:=λc f h p=>by
  refine⟨λj=>if j=i then j4++c j else c j,λj b d=>?_,λj k b g e=>?_,λj pv t=>(p j pv t).CJ (mw H r) (λb _ σ z=>H _ _ z) λb z=>?_,λb d=>by dsimp only;rw[r9 rfl];exact T1 _ d,λb d=>by dsimp only;rw[r9 rfl];exact N1 _ d⟩
  . dsimp only at d;split at d
    . rcases List.mem_append.mp d with z|z
      exact T1 _ (mem_map.mpr ⟨b,z,rfl⟩);exact N1 _ (f j b z)
    exact N1 _ (f j b d)
  . dsimp only at g e;split at g
    . rename_i n;split at e;rename_i R;rw[n,R]
      . rcases List.mem_append.mp g with z|z
        exact absurd (f k b e) (s b z);exact h j k b z e
    . split at e
      . rcases List.mem_append.mp e with z|z
        exact absurd (f j b g) (s b z);exact h j k b g z
      exact h j k b g e
  dsimp only;split;exact N1 _ z;exact z
 obtain⟨c,f,h,p⟩:=S.jx;obtain⟨a,v,k2,w,_⟩:=l c f h p;refine⟨⟨S.ls,S.same.trans H,λb d=>?_,S.fT,a,v,k2,w⟩,l⟩
 rcases List.mem_append.mp d with z|z
 obtain⟨A,n,R⟩:=mem_map.mp z;cases R;exact⟨S.same.free (r b n),x b n⟩;exact⟨(S.new b z).1,let ⟨σ,z⟩:=(S.new b z).2;⟨σ,H _ _ z⟩⟩
end
noncomputable def iS:PV->Option PF
 | .dat d=>U (.dat d)
 | .own l=>U (.own l)
 | .ob _ (.dct es)=>U (.dct es)
 |_=>J
def jX(pv:PV):Option PF:=U (.dat pv.d)
def Z5(nm:Str)(i:Nat)(f:Str)(kp:PV->Option PF)(F:DV):DO:=λds=>(F ds).bind λpv=>(kp pv).bind λp=>(hZ nm i ds).bind λx=>if x.2.length<900 then U (.next (ds.set i (U (.ob x.1 (.ins nm (R7 f p x.2))))))else J
def T5.len(h:T5 g m o j5 i4 O):j5.length=i4.length:=by
 induction h with
 |nil=>rfl
 |dat _ _ a=>simp_all
 |own _ _ _ _ a=>simp_all
 |dct _ _ _ _ a=>simp_all
section
def JU(D:sA m q O)(r:RX g O q m o Y i5)(h:iS i5=U j8\/jX i5=U j8):∃Rf,(∀b∈Rf,m b=J)/\(∀b∈Rf,∃u:Cl,o b=U u.1)/\wc g (D1 o (Rf.map U++q) O) o Y j8 Rf:=by
 rcases h with h|h
 . cases i5 with
   |dat d=>cases h;exact⟨[],λb e=>absurd e F5,λb e=>absurd e F5,.dat r⟩
   |own l=>
    cases h;obtain⟨a,k,rfl,n,K,r⟩:=r;refine⟨[a],λb e=>?_,λb e=>?_,.own K r⟩;rw[mem_singleton.mp e];exact n;rw[mem_singleton.mp e];exact⟨Cl.l k,K⟩
   |ob w c=>
    cases c with
    |dct f=>
     cases h;obtain⟨a,R,rfl,_,K,i,rfl,j,H⟩:=r;refine⟨[a],K,λb e=>?_,.dct j H⟩;rw[mem_singleton.mp e];exact⟨Cl.d i,j⟩
    |ins _ _=>exact nE h
    |seq _ _=>exact nE h
 cases h;exact⟨[],λb e=>absurd e F5,λb e=>absurd e F5,.dat (r.dt D)⟩
def TB{f:Str}{kp:PV->Option PF}(T:jr c.K b7 z)(n:cU c.K z f)(h:PE c r (S3 N))(hk:∀pv K,kp pv=U K->iS pv=U K\/jX pv=U K)(Y:PX c Uf e G D)(hs:autoParam (bG e (U (.Attribute r f E)) p.line c.env=pure U') w4):T3 c (.Assign [.Attribute r f E] e p) (a0X c.K (S3 N) G f) (Z5 b7 N f kp D):=⟨a1D h Y.p hs,by
 intro O g as σ H ds C o S a q;obtain⟨pv,h1,a⟩:=t5 a;obtain⟨K,h2,a⟩:=t5 a;obtain⟨⟨w,fs⟩,I,a⟩:=t5 a;obtain⟨hl,a⟩:=K9 a;cases a;refine Y.t O g as σ H ds pv _ S h1 λy H1 s r1=>?_
 obtain⟨Rf,M,k2,k3⟩:=JU (S.dm) r1 (hk pv K h2);obtain⟨S1,ad⟩:=S.adopt s N M k2;obtain⟨rg,i,B,l⟩:=S.jx;obtain⟨rg',g1,g2,W,g4,g5⟩:=ad rg i B l;obtain⟨v,R,A,ew,hR,L,x,Z,R',rfl,V,F,c3⟩:=W N _ (dC I);have ec:=T.eq V;subst ec;obtain⟨v0,R0,j,ew0,Q,C0,dx0,fv0,R0',rfl,c10,P,d⟩:=l N _ (dC I);rw[A]at j;cases j;have k:=s _ _ P;rw[F]at k;cases k;have dj:∀b∈Rf,b∉R0':=λb X t=>by obtain⟨u,_,t⟩:=d.at b t;rw[M b X]at t;exact nE t
 obtain⟨R2,p1,p2⟩:=(d.same (mw s M) λb _ r t=>s _ _ t).put (f:=f) k3 dj;refine⟨_,A,v,L,x,Z,rfl,F,T.cl,n,by rw[d.len];exact nI,q (Rf.map U++as) σ _ ?_⟩
 have nv:∀b∈R2,b≠v:=λb X t=>by subst t;obtain⟨u,m,t⟩:=p1.at b X;rw[F]at t;cases t;rcases m with ⟨_,m⟩|⟨_,m⟩<;>cases m
 have hv:=hR v F2;refine S1.DM (u:=Cl.i L x (dB f y Z)) (dC I) g1 g2 W hv λsm=>⟨v,v::R2,A,ew,λb X=>?_,L,x,_,R2,rfl,V,Q5,p1.same sm λb X r t=>by rw[L8 (nv b X)];exact t⟩
 rcases List.mem_cons.mp X with rfl|X
 exact hv
 . rcases p2 b X with t|t
   exact g4 b t
   . exact g5 b (Q b (E7 _ t))⟩
def cN(nm:Str)(i:Nat)(f:Str)(Fk Fv:DV):DO:=λds=>(Fv ds).bind λpv=>(Fk ds).bind λk=>(hZ nm i ds).bind λx=>(J3 f x.2).bind λp=>(uP p).bind λl=>match k.d with
 | .int k=>(gh l.length k).bind λj=>U (.next (ds.set i (U (.ob x.1 (.ins nm (R7 f (.own (l.set j pv.d)) x.2))))))
 |_=>J
def nX(nm:Str)(i:Nat)(f:Str)(F:DV):DO:=λds=>(F ds).bind λpv=>(hZ nm i ds).bind λx=>(J3 f x.2).bind λp=>(uP p).bind λl=>if l.length<1000000 then U (.next (ds.set i (U (.ob x.1 (.ins nm (R7 f (.own (l++[pv.d])) x.2))))))else J
def DS.Wq{f:Str}{t:PF}{u:Cl}(S:DS g O m q B o y)(hd:y[N]?=U (U (.ob k7 (.ins b7 i4))))(I:J3 f i4=U j8)(s:B[N]?=U (U (.ref T)))(l:o T=U (.ins c7 g8 j5))(i:j5.lookup f=U (.ref z))(v:∀d,j8≠.dat d)(X:∀{Hv':Hp},w9 (D1 o q O) Hv'->wc g Hv' (upd o z u.1) (.ref z) t [z]):DS g O m q B (upd o z u.1) (y.set N (U (.ob k7 (.ins b7 (R7 f t i4))))):=by
 obtain⟨rg,E,G,x⟩:=S.jx;obtain⟨v0,R0,c,H,h,Z,C,M,e,rfl,n,K,j⟩:=x N _ hd;rw[s]at c;cases c;rw[l]at K;cases K;obtain⟨x0,R,A,P,Q,F⟩:=j.look I;rw[i]at A;cases A;have L:R=[z]:=by
  cases P with
  |dat _=>exact absurd rfl (v _)
  |own _ _=>rfl
  |dct _ _=>rfl
 subst L;have p:=Q z F2;have Y:T≠z:=λa=>by subst a;obtain⟨u',k,a⟩:=j.at T p;rw[l]at a;cases a;rcases k with ⟨_,k⟩|⟨_,k⟩<;>cases k
 refine S.DM hd E G x (h z (E7 _ p)) λsm=>⟨T,T::e,s,H,h,c7,g8,j5,e,rfl,n,by rw[L8 Y];exact l,F sm (λb hb D w a=>?_) (X sm)⟩;rw[L8 (λa=>D (by rw[a];exact F2))];exact a
set_option tactic.hygienic true in
def Tz{f:Str} (T:jr c.K b7 z) (n:cU c.K z f) (ho:PE c r (S3 N)) (Z:PX c Uf c8 G d5) (I:PX c Uf e c6 D) (y:autoParam (Bj c r f) w4) (ha:autoParam (∀v,assign (.Subscript (.Attribute r f E) c8 d3) c.env v=(do
   let ov <- holding [v] (eval (.Attribute r f E) c.env)
   let iv <- holding [v,ov] (eval c8 c.env)
   mI d3
   holding [v,ov,iv] (setItem ov iv v)
   release [v,ov,iv] [])) iz)
  (hs:autoParam (Aj [.Subscript (.Attribute r f E) c8 d3] e p.line c.env=pure U') w4) (hw:autoParam (Ai [.Subscript (.Attribute r f E) c8 d3] e c.env=pure J) w4)
  (h1:autoParam ((kr [.Subscript (.Attribute r f E) c8 d3] c.env).map (·.2)=[assign (.Subscript (.Attribute r f E) c8 d3) c.env]) w4) :
  T3 c (.Assign [.Subscript (.Attribute r f E) c8 d3] e p) (oG c6 (Ml (Bm c.K (S3 N) f) G DQ)) (cN b7 N f d5 D):=⟨EG I.p (EM (uO ho y) Z.p set_list ha) hs hw h1,by
 intro O g B b H L F o S X q;obtain⟨pv,e1,X⟩:=t5 X;obtain⟨kv,e2,X⟩:=t5 X;obtain⟨⟨w,fs⟩,P,X⟩:=t5 X;obtain⟨k,Q,X⟩:=t5 X;obtain⟨l,e5,h⟩:=t5 X;have e6:=xU e5;subst e6;split at h
 . rename_i kk A;obtain⟨j,e7,h⟩:=t5 h;cases h;refine I.t O g B b H L pv _ S e1 λv H1 s1 r1=>?_
   have s:=S.grow s1;obtain⟨v0,R,V,_,hR,C',dx,fv,R',rfl,c1,M,c3⟩:=s.slot N _ (dC P);have ec:=T.eq c1;subst ec;obtain⟨x,Rf,Y,l2,l3,l4⟩:=c3.look Q;cases l2 with
   |own y1 W=>
    rename_i a xs;refine⟨_,V,v0,C',dx,fv,_,rfl,M,T.cl,n,Y,?_⟩;refine Z.t O g B b H1 L kv _ s e2 λw' H2 m r2=>?_;have i:=r2.dt s.dm;rw[A]at i;cases i;refine⟨a,xs,kk,j,rfl,rfl,m _ _ y1,by rw[W.length];exact e7,q B b _ ?_⟩;exact(s.grow m).Wq (u:=Cl.l _) (dC P) Q V (m _ _ M) Y (λd C=>by cases C) λsm=>.own Q5 (((W.same (Q7 m)).set j ((r1.grow m).dt S.dm)).same sm)
 . exact nE h⟩
set_option tactic.hygienic true in
def TC{f:Str}{cpos:Pos}(T:jr c.K b7 z)(n:cU c.K z f)(ho:PE c r (S3 N))(B:PX c Uf e G D)(A:autoParam (Bj c r f) w4)(bm:autoParam (Ip c (.Attribute r f E) "append" d3 e [] cpos) rK)(hs:autoParam (bG (.Call (.Attribute (.Attribute r f E) "append" d3) [e] [] cpos) J p.line c.env=pure U') w4):
  T3 c (.Expr (.Call (.Attribute (.Attribute r f E) "append" d3) [e] [] cpos) p) (sF (Eo c.K "list" Bv (Bm c.K (S3 N) f) (jI G qF))) (nX b7 N f D):=
 ⟨ow (wC tJ RH RG CO (uO ho A) (fK B.p oP bm.s) bm) hs,by
 intro O j X W H ds F i S h q;obtain⟨pv,e1,h⟩:=t5 h;obtain⟨⟨w,fs⟩,o,h⟩:=t5 h;obtain⟨b,I,h⟩:=t5 h;obtain⟨l,e5,y⟩:=t5 h;have e6:=xU e5;subst e6;obtain⟨hl,y⟩:=K9 y;cases y;obtain⟨v0,R,L,_,hR,C',Z,fv,R',rfl,Y,g,c3⟩:=S.slot N _ (dC o);have ec:=T.eq Y;subst ec;obtain⟨x,Rf,V,l2,l3,l4⟩:=c3.look I;cases l2 with
 |own P M=>
  rename_i a Q;refine⟨_,L,v0,C',Z,fv,_,rfl,g,T.cl,n,V,.inl ⟨rfl,Q,O2.of P⟩,?_⟩;refine B.t O j X W H ds pv _ S e1 λv H1 s r1=>?_
  have:=M.length;refine⟨a,Q,v,rfl,rfl,s _ _ P,O1 C4 (qf G8),q X W _ ?_⟩;exact(S.grow s).Wq (u:=Cl.l _) (dC o) I L (s _ _ g) V (λd C=>by cases C) λsm=>.own Q5 (((M.same (Q7 s)).append (.cons (r1.dt S.dm) .nil)).same sm)⟩
end
def mm(K:A6)(f:List PV->Option (PV×Ds)):Sp:=λvs H Q _=>∃(O:List Addr) (F6:Hp) (as:As) (args:List PV) (pv:PV) (ds':Ds),
 DS K O F6 as (vs.map U) H (args.map U)/\f args=U (pv,ds')/\∀as' Hm H' v,DS K O F6 as' (vs.map U) Hm ds'->w9 Hm H'->RX K O as' Hm H' v pv->Q v H'
noncomputable def eB(t:Nat->Addr):Nat->List PV->List PV
 |_,[]=>[]
 |i,.ob _ c::r=>.ob (U (t i)) c::eB t (i+1) r
 |i,x::r=>x::eB t (i+1) r
noncomputable def V7(t:Nat->Addr):Nat->List PV->Ds->Ds
 |_,[],_=>[]
 |i,.ob _ _::a,U (.ob w c)::r=>(if w=U (t i)then U (.ob J c)else J)::V7 t (i+1) a r
 |i,_::a,_::r=>J::V7 t (i+1) a r
 |i,_::a,[]=>J::V7 t (i+1) a []
def nr(args:List PV)(t:Nat->Addr):Out->Option (PV×Ds)
 | .retO pv ds=>U (pv,V7 t 0 args ds)
 | .next ds=>U (.dat .none,V7 t 0 args ds)
 |_=>J
def rF(n N:Nat)(G:DO):List PV->Option (PV×Ds):=λargs=>if args.length=n then
 (open Classical in if h:∃r,∀t,(G ((eB t 0 args).map U++F7 (N-n) J)).bind (nr args t)=U r then U h.choose else J)else J
def pa{r:PV×Ds}(b:m4.length=d2)(h:∀t,(a8 ((eB t 0 m4).map U++F7 (N-d2) J)).bind (nr m4 t)=U r):rF d2 N a8 m4=U r:=by
 delta rF;rw[r9 b];have a:∃r,∀t,(a8 ((eB t 0 m4).map U++F7 (N-d2) J)).bind (nr m4 t)=U r:=⟨r,h⟩;rw[dif_pos a];have:=a.choose_spec λ_=>0;rw[h λ_=>0]at this;exact this.symm
set_option tactic.hygienic true in
def Kd{r:PV×Ds}(h:rF d2 N a8 m4=U r):m4.length=d2/\∀t,(a8 ((eB t 0 m4).map U++F7 (N-d2) J)).bind (nr m4 t)=U r:=by
 unfold rF at h;split at h;rename_i a;split at h;rename_i b;cases h;exact⟨a,b.choose_spec⟩;exact nE h;exact nE h
theorem En(t:Nat->Addr):∀(args:List PV) (i k:Nat),(eB t i args)[k]?=(args[k]?).map λpv=>match pv with
  | .ob _ c=>.ob (U (t (i+k))) c
  |pv=>pv
 | [],i,k=>by simp[eB]
 |x::r,i,0=>by cases x<;>simp[eB]
 |x::r,i,k+1=>by
  have:=En t r (i+1) k;rw[show i+1+k=i+(k+1)from HH _ _ _]at this
  cases x<;>(assumption)
set_option tactic.hygienic true in
theorem yi(t:Nat->Addr):∀(args:List PV) (i k:Nat) (ds:Ds) (pv:PV),(V7 t i args ds)[k]?=U (U pv)->∃c w b,pv=.ob J c/\args[k]?=U (.ob w b)/\ds[k]?=U (U (.ob (U (t (i+k))) c))
 | [],i,k,ds,pv,h=>by simp[V7]at h
 |x::a,i,0,[],pv,h=>by cases x<;>simp[V7]at h
 |x::a,i,k+1,[],pv,h=>by
  have d:(V7 t (i+1) a [])[k]?=U (U pv):=by cases x<;>simpa [V7]using h
  obtain⟨c,w,b,_,_,h⟩:=yi t a (i+1) k [] pv d;simp at h
 |x::a,i,0,y::r,pv,h=>by
  cases x with
  |ob e b=>
   cases y with
   |none=>simp[V7]at h
   |some y=>
    cases y with
    |ob w c=>
     simp only[V7]at h;split at h;rename_i j;cases h;exact⟨c,e,b,rfl,rfl,by simp[j]⟩;cases h
    |dat _=>simp[V7]at h
    |own _=>simp[V7]at h
  |dat _=>simp[V7]at h
  |own _=>simp[V7]at h
 |x::a,i,k+1,y::r,pv,h=>by
  have d:(V7 t (i+1) a r)[k]?=U (U pv):=by
   cases x with
   |ob e b=>
    cases y with
    |none=>assumption
    |some y=>cases y<;>simpa [V7]using h
   |dat _=>assumption
   |own _=>assumption
  obtain⟨c,w,b,f,g,l⟩:=yi t a (i+1) k r pv d;exact⟨c,w,b,f,by assumption,by rw[tI,l,show i+1+k=i+(k+1)from HH _ _ _]⟩
theorem lD(t:Nat->Addr):∀(args:List PV) (i:Nat) (ds:Ds),(V7 t i args ds).length=args.length
 | [],_,_=>by simp[V7]
 |x::a,i,[]=>by cases x<;>simp[V7,lD t a]
 |x::a,i,y::r=>by
  cases x with
  |ob w c=>
   cases y with
   |none=>simp[V7,lD t a]
   |some y=>cases y<;>simp[V7,lD t a]
  |dat _=>simp[V7,lD t a]
  |own _=>simp[V7,lD t a]
section
variable{K:A6}
def DS.slots(S:DS K O m q B o y){b:St}{ds':Ds}(l:b.length=ds'.length)(h:∀(i:Nat) (pv:PV),ds'[i]?=U (U pv)->∃a,y[i]?=U (U a)/\∀c,cT K O q o B[i]? c a->cT K O q o b[i]? c pv):DS K O m q b o ds':=by
 obtain⟨c,j,e,k⟩:=S.jx;refine⟨l,S.same,S.new,S.fT,c,j,e,λi pv f=>?_⟩;obtain⟨a,d,g⟩:=h i pv f;exact g _ (k i a d)
end
section
variable{w:G6}{K:A6}{mg:Str->Option t7}
def addrOf:Option V->Addr
 |some (.ref a)=>a
 |_=>(0:Nat)
set_option tactic.hygienic true in
def DS.a0Q{N:List Str}(S:DS K O m q (L.map U) o (m4.map U)):
  DS K O m q (L2.start N L) o ((eB (λi=>addrOf L[i]?) 0 m4).map U++F7 (N.length-m4.length) J):=by
 have H:L.length=m4.length:=by have:=S.ls;simpa using this
 have lt:(eB (λi=>addrOf L[i]?) 0 m4).length=m4.length:=by
  have:∀a i t,(eB t i a).length=a.length:=by
   intro a;induction a with
   |nil=>intro i t;rfl
   |cons x r p=>intro i t;cases x<;>simp[eB,p]
  exact this _ _ _
 refine S.slots (by delta L2.start;simp[lt,H]) λi pv b=>?_;rw[Rh]at b;split at b
 . rename_i A;rw[M9,En,Option.map_map]at b;have f:i<m4.length:=by simpa [lt]using A
   have e:i<L.length:=by simp_all
   rw[L6 f]at b;have k:(L2.start N L)[i]?=(L.map U)[i]?:=by delta L2.start;rw[kl (by simpa using e)]
   have s:(m4.map U)[i]?=U (U m4[i]):=by rw[M9,L6 f];rfl
   refine⟨m4[i],s,λy h=>?_⟩
   rw[k];simp only[rY,Function.comp,QM]at b;generalize m4[i]=x at b h;cases x with
   |dat d=>simp only at b;rw[<-b];exact h
   |own l=>simp only at b;rw[<-b];exact h
   |ob w c=>
    rw[<-b];obtain⟨v,R,g,u,z,n⟩:=h;refine⟨v,R,g,.inr ?_,z,n⟩;rw[M9]at g;rw[L6 e]at g;have j:L[i]=.ref v:=by simpa using g
    rw[rQ,L6 e,j];rfl
 have:=qt b;simp[QU]at this
set_option tactic.hygienic true in
def vY.okO{N:List Str} (F:vY K u b7 j3 z j9) (S:lL N b3 (O3 j3)) (hN:b3.length<=N.length) (P:∀(m:t7) (A:aY) (outer:List Env) (s:A0) (H:Hp) (E:XK),S5 d2 (A.deeper (gp b7 (O3 j3) (hz s) z m)) ->
   ∃t,pA (qH um a9 w K mg b4 N b7 (O3 j3) z m A outer s H E).CN (cI j3) t a8):ie a9 w K mg b4 um (d2+1) z j9 b3 (mm K (rF b3.length N.length a8)):=by
 have ln:∀g H Q E,mm K (rF b3.length N.length a8) g H Q E->g.length=b3.length:=λg H Q E h=>by obtain⟨O,d,as,q,pv,Z,D,I,X⟩:=h;have:=D.ls;have hl:=(Kd I).1;simp at this;simp[*]
 refine F.ok S ln λm A outer s H g Q E hr h=>?_
 obtain⟨O,d,as,q,pv,Z,D,I,X⟩:=h;obtain⟨t,ht⟩:=P m A outer s H E hr;refine⟨t,ht.p,?_⟩;obtain⟨hl,I⟩:=Kd I;have W:=I λi=>addrOf g[i]?
 obtain⟨o,W,C⟩:=t5 W;have S1:=DS.a0Q (N:=N) D;rw[hl]at S1;have:g.length=b3.length:=by have:=D.ls;simp at this;simp[*]
 have L:∀a l T b,DS K O d a l T b->DS K O d a (g.map U) T (V7 (λi=>addrOf g[i]?) 0 q b):=λa l T b S2=>by
  refine S2.slots (by rw[lD,F9];simp[*]) λi pv hd=>?_;obtain⟨c,w0,c0,rfl,h4,h5⟩:=yi _ _ _ _ _ _ hd;refine⟨_,h5,λrg hs=>?_⟩
  obtain⟨v,R,z1,z2,z3,z4⟩:=hs;refine⟨v,R,?_,.inl rfl,z3,z4⟩;have n:addrOf g[0+i]?=v:=by
   rcases z2 with x|x
   exact nS x;exact W5 x
  rw[rQ]at n;obtain⟨v',_,B,_⟩:=D.slot i (.ob w0 c0) (by rw[M9,h4];rfl)
  rw[B];rw[M9]at B;cases e:g[i]? with
  |none=>rw[e]at B;exact nE B
  |some u=>
   rw[e]at B n;have y1':u=.ref v':=by simpa using B
   rw[y1']at n;have Y:v'=v:=n;rw[Y]
 refine ht.t O d as (L2.start N g) H _ _ o S1 W ?_;cases o with
 |next b=>cases C;exact λa l V S'=>X a V V _ (L _ _ _ _ S') (w9.refl _) Dt.non
 |retO pv' b=>cases C;exact λa l T V v S' s r=>X a T V v (L _ _ _ _ S') s r
 |ret pv'=>exact nE C
 |brk b=>exact nE C
 |cont b=>exact nE C
 |up u=>exact nE C
end
inductive AV where
 |d (x:f9)
 |s (i:Nat)
variable{n9:Ds->Option (List AV)}
inductive Dp(K:A6)(Hv:Hp)(σ:St):List V->List AV->Prop
 |nil:Dp K Hv σ [] []
 |d {v x vs l}:Dt K Hv v x->Dp K Hv σ vs l->Dp K Hv σ (v::vs) (.d x::l)
 |s {v i vs l}:σ[i]?=U (U v)->Dp K Hv σ vs l->Dp K Hv σ (v::vs) (.s i::l)
def TAO(K:A6)(t:TA)(F:Ds->Option (List AV)):Prop:=
 ∀(O:List Addr) (F6:Hp) (as:As) (σ:St) (H:Hp) (ds:Ds) (l:List AV) (Q:List V->Hp->Prop),DS K O F6 as σ H ds->F ds=U l->(∀vs H',w9 H H'->Dp K (D1 H' as O) σ vs l->Q vs H')->t σ H Q
structure vr(X:Cx)(es:List Expr)(t:TA)(F:Ds->Option (List AV)):Prop where
 p:PA X es t
 t:TAO X.K t F
noncomputable def fN:Ds->Option (List AV):=λ_=>U []
noncomputable def Q6(F:DV)(G:Ds->Option (List AV)):Ds->Option (List AV):=λds=>(F ds).bind λx=>(G ds).bind λl=>U (.d x.d::l)
noncomputable def iR(i:Nat)(G:Ds->Option (List AV)):Ds->Option (List AV):=λds=>match ds[i]? with
 |some (U (.ob _ _))=>(G ds).bind λl=>U (.s i::l)
 |_=>J
section
def YZ:vr c [] qF fN:=⟨oP,by intro O a d e H X l Q S b q;cases b;exact q [] H (w9.refl H) .nil⟩
def Ur(h:PX c Uf e G D)(k:vr c Z P n9)(hs:autoParam (hI c e Z) w4):vr c (e::Z) (jI G P) (Q6 D n9):=⟨fK h.p k.p hs,by
 intro O a j f H i l Q S b q;obtain⟨x,s,b⟩:=t5 b;obtain⟨m,y,b⟩:=t5 b;cases b;refine h.t O a j f H i x _ S s λv n g u=>?_;refine k.t O a j f n i m _ (S.grow g) y λo w X r=>?_
 exact q (v::o) w (g.trans X) (.d ((u.grow X).dt (S.dm)) r)⟩
set_option tactic.hygienic true in
def Uq(i:Nat)(h:PE c e (S3 i))(k:vr c Z P n9)(hs:autoParam (hI c e Z) w4):vr c (e::Z) (jI (S3 i) P) (iR i n9):=⟨fK h k.p hs,by
 intro O b y n H u l Q S a q;unfold iR at a;split at a;rename_i w X f;obtain⟨m,r,a⟩:=t5 a;cases a;obtain⟨v,R,d,_⟩:=S.slot i _ f;refine⟨_,d,?_⟩;refine k.t O b y n H u m _ S r λg x j o=>?_;exact q (_::g) x j (.s d o)
 . exact nE a⟩
end
noncomputable def tF(ds:Ds):List AV->Option (List PV)
 | []=>U []
 | .d x::l=>(tF ds l).bind λr=>U (.dat x::r)
 | .s i::l=>match ds[i]? with
  |some (U (.ob _ c))=>(tF ds l).bind λr=>U (.ob J c::r)
  |_=>J
noncomputable def W6:List AV->List Nat
 | []=>[]
 | .d _::l=>W6 l
 | .s i::l=>i::W6 l
noncomputable def LH:Option PV->Option (Option PV)->Option PV
 |some (.ob _ c),U (U (.ob w _))=>U (.ob w c)
 |_,_=>J
set_option tactic.hygienic true in
def OK{x:Option PV}{o:Option (Option PV)}(h:LH x o=U i5):∃w c b a,o=U (U (.ob w a))/\x=U (.ob b c)/\i5=.ob w c:=by
 unfold LH at h;split at h;rename_i b c w a;cases h;exact⟨w,c,b,a,rfl,rfl,rfl⟩;exact nE h
def hW:List AV->Ds->Ds->Ds
 | .s i::l,x::r,ds=>hW l r (ds.set i (LH x ds[i]?))
 | .d _::l,_::r,ds=>hW l r ds
 |_,_,ds=>ds
noncomputable def jN:List AV->Nat->Option Nat
 | [],_=>J
 | .d _::l,j=>(jN l j).map (· + 1)
 | .s i::l,j=>if i=j then U 0 else(jN l j).map (· + 1)
set_option tactic.hygienic true in
theorem mq:∀{l:List AV}{j k:Nat},jN l j=U k->l[k]?=U (.s j)
 | [],j,k,h=>nE h
 | .d x::l,j,k,h=>by simp only[jN,HW]at h;obtain⟨m,a,rfl⟩:=h;rw[tI];exact mq a
 | .s i::l,j,k,h=>by
  simp only[jN]at h;split at h;rename_i e;cases h;rw[e];rfl;simp only[HW]at h;obtain⟨m,a,rfl⟩:=h;rw[tI];exact mq a
theorem cL:∀{l:List AV}{j:Nat},j∈W6 l ↔ ∃k:Nat,l[k]?=U (AV.s j)
 | [],j=>by simp[W6]
 | .d x::l,j=>by
  rw[W6,cL];constructor;rintro⟨k,h⟩;exact⟨k+1,by assumption⟩
  . rintro⟨k,h⟩;cases k with
    |zero=>simp at h
    |succ k=>exact⟨k,by assumption⟩
 | .s i::l,j=>by
  rw[W6,bu,cL];constructor;rintro(h|⟨k,h⟩);exact⟨0,by rw[h];rfl⟩;exact⟨k+1,by assumption⟩
  . rintro⟨k,h⟩;cases k with
    |zero=>
     have a:i=j:=by simpa using h
     exact .inl a.symm
    |succ k=>exact .inr ⟨k,by assumption⟩
theorem lu:∀{l:List AV}{j k:Nat},(W6 l).Nodup->l[k]?=U (.s j)->jN l j=U k
 | [],j,k,_,h=>by simp at h
 | .d x::l,j,k,n,h=>by
  cases k with
  |zero=>simp at h
  |succ k=>
   simp only[jN,lu (l:=l) n h,rY]
 | .s i::l,j,k,n,h=>by
  rw[W6,Qx]at n;cases k with
  |zero=>
   have b:i=j:=by simpa using h
   simp[jN,b]
  |succ k=>
   have a:i≠j:=λz=>n.1 (cL.mpr ⟨k,by rw[z];exact h⟩);simp only[jN,s9 a,lu n.2 h,rY]
set_option tactic.hygienic true in
def a3i{l:List AV}(o:Dp g m B L l)(h:tF y l=U m4):L.length=l.length/\m4.length=l.length/\∀(k:Nat) (pv:PV),m4[k]?=U pv ->
  (∃x v,l[k]?=U (AV.d x)/\pv=.dat x/\L[k]?=U v/\Dt g m v x)\/∃i w c v,l[k]?=U (AV.s i)/\y[i]?=U (U (.ob w c))/\pv=.ob J c/\L[k]?=U v/\B[i]?=U (U v):=by
 induction o generalizing m4 with
 |nil=>
  cases h;exact⟨rfl,rfl,λk pv h=>nE h⟩
 |d e t i=>
  obtain⟨r,f,h⟩:=t5 h;cases h;obtain⟨b,K,a⟩:=i f;refine⟨C2 (· + 1) b,C2 (· + 1) K,λk pv h=>?_⟩
  cases k with
  |zero=>exact .inl ⟨_,_,rfl,(W5 h).symm,rfl,e⟩
  |succ k=>exact a k pv h
 |s e t i=>
  rw[tF]at h;split at h
  . rename_i w c n;obtain⟨r,f,h⟩:=t5 h;cases h;obtain⟨b,K,a⟩:=i f;refine⟨C2 (· + 1) b,C2 (· + 1) K,λk pv h=>?_⟩
    cases k with
    |zero=>exact .inr ⟨_,w,c,_,rfl,n,(W5 h).symm,rfl,e⟩
    |succ k=>exact a k pv h
  exact nE h
theorem xR:∀{l:List AV}{ds' ds:Ds},(hW l ds' ds).length=ds.length
 | [],_,_=>by simp[hW]
 | .d _::l,x::r,ds=>by rw[hW];exact xR
 | .d _::l,[],ds=>by simp[hW]
 | .s i::l,[],ds=>by simp[hW]
 | .s i::l,x::r,ds=>by rw[hW,xR,vL]
theorem xS:∀{l:List AV}{ds' ds:Ds}{j:Nat}{pv:PV},(W6 l).Nodup->ds'.length=l.length->(hW l ds' ds)[j]?=U (U pv) ->
  (j∉W6 l/\ds[j]?=U (U pv))\/∃(k:Nat) (w:Option Addr) (c:OD) (f:Option Addr) (e:OD),l[k]?=U (AV.s j)/\ds[j]?=U (U (.ob w e))/\ds'[k]?=U (U (.ob f c))/\pv=.ob w c
 | [],_,ds,j,pv,_,_,h=>.inl ⟨by simp[W6],by assumption⟩
 | .d x::l,[],ds,j,pv,n,hl,h=>by simp at hl
 | .s x::l,[],ds,j,pv,n,hl,h=>by simp at hl
 | .d x::l,y::r,ds,j,pv,n,hl,h=>by
  rcases xS (l:=l) n (by simpa using hl) h with h|⟨k,w,c,f,e,g,b,o,m⟩
  exact .inl h;exact .inr ⟨k+1,w,c,f,e,by assumption,b,by assumption,m⟩
 | .s i::l,y::r,ds,j,pv,n,hl,h=>by
  rw[W6,Qx]at n;rcases xS n.2 (by simpa using hl) h with ⟨g,b⟩|⟨k,v,q,f,e,g,b,o,m⟩
  by_cases a:i=j;subst a;rw[AD,r9 rfl]at b;obtain⟨_,b⟩:=K9 b;obtain⟨w,c,f,e,t,p,u⟩:=OK (W5 b);exact .inr ⟨0,w,c,f,e,rfl,t,by rw[p];rfl,u⟩;rw[iW a]at b;exact .inl ⟨by rw[W6,bu];exact λz=>z.elim (λz=>a z.symm) g,b⟩;have a:i≠j:=λz=>n.1 (cL.mpr ⟨k,by rw[z];exact g⟩);rw[iW a]at b;exact .inr ⟨k+1,v,q,f,e,by assumption,b,by assumption,m⟩
def Pu(h:∀b,(b∈O\/U b∈q)↔(b∈j4\/U b∈j1)):D1 m q O=D1 m j1 j4:=by
 funext b
 delta D1
 simp_all
section
variable{K:A6}
set_option tactic.hygienic true in
def DS.Xj(S:DS K O m q B o y){l:List AV}(ha:Dp K (D1 o q O) B L l)(hp:tF y l=U m4)(hn:(W6 l).Nodup):
  ∃Oc Hc ac,DS K Oc Hc ac (L.map U) o (m4.map U)/\∀f X ds',DS K Oc Hc f (L.map U) X ds'->∃as2,DS K O m as2 B X (hW l ds' y)/\∀H' v pv,w9 X H'->RX K Oc f X H' v pv->RX K O as2 X H' v pv:=by
 obtain⟨rg,r1,r2,r3⟩:=S.jx;obtain⟨l1,l2,l3⟩:=a3i ha hp;have C:∀b,b∈(W6 l).flatMap rg ↔ ∃i∈W6 l,b∈rg i:=λb=>mem_flatMap;generalize hR:(W6 l).flatMap rg=RI at C;generalize hT:(q.filterMap id).filter (λb=>decide (b∉RI))=F6
 have n:∀b,b∈F6↔U b∈q/\b∉RI:=λb=>by rw[<-hT,mem_filter,HI,pT];simp
 have g:∀b,b∈RI->U b∈q:=λb F=>by obtain⟨i,_,h⟩:=(C b).mp F;exact r1 i b h
 have ds:∀(R:List Addr) b,U b∈R.map U↔b∈R:=λR b=>by simp
 have G:∀b σ,D1 o (RI.map U) [] b=U σ↔b∉RI/\o b=U σ:=λb σ=>by rw[G5,ds];simp
 have e0:∀o,D1 o (RI.map U) (O++F6)=D1 o q O:=λo=>Pu λb=>by
  rw[ds,kz,n];constructor;rintro((h|⟨h,_⟩)|h);exact .inl h;exact .inr h;exact .inr (g b h);rintro(h|h);exact .inl (.inl h);by_cases c:b∈RI;exact .inr c;exact .inl (.inr ⟨h,c⟩)
 refine⟨O++F6,D1 o (RI.map U) [],RI.map U,⟨?_,D9,λa h=>?_,λa h=>?_,λk=>match l[k]? with|some (.s i)=>rg i|_=>[],λk b h=>?_,λk k' b h A=>?_,λk pv h=>?_⟩,?_⟩;simp[l1,l2];rw[ds]at h;exact⟨by delta D1;rw[r9 (.inr ((ds _ _).mpr h))],(S.new a (g a h)).2⟩
 . rcases List.mem_append.mp h with h|h
   obtain⟨σ,z⟩:=S.fT a h;exact⟨σ,(G a σ).mpr ⟨λI=>S.nO (g a I) h,S.same _ _ z⟩⟩;obtain⟨H,p⟩:=(n a).mp h;obtain⟨_,u,z⟩:=S.new a H;exact⟨_,(G a _).mpr ⟨p,z⟩⟩
 dsimp only at h;split at h;rename_i i M;rw[ds,C];exact⟨i,cL.mpr ⟨k,M⟩,h⟩;simp at h;dsimp only at h A;split at h;rename_i i M;split at A;rename_i i' hi';have:=r2 i i' b h A;subst this;have q1:=lu hn M;rw[lu hn hi']at q1;exact(W5 q1).symm;simp at A;simp at h
 . rw[M9]at h;cases t:m4[k]? with
   |none=>rw[t]at h;exact nE h
   |some pv0=>
    rw[t]at h;have A:pv0=pv:=by simpa using h
    subst A;rcases l3 k pv0 t with ⟨x,v,D,rfl,z3,z4⟩|⟨i,w,c,v,D,z2,rfl,z3,z4⟩
    exact⟨v,by rw[M9,z3];rfl,by rw[e0];exact z4⟩
    . dsimp only;rw[D];obtain⟨v',R,Q,y2,Y,Z⟩:=r3 i _ z2;rw[z4]at Q;have W:v=.ref v':=by simpa using Q
      subst W;exact⟨v',R,by rw[M9,z3];rfl,.inl rfl,Y,by rw[e0];exact Z⟩
 intro f X ds' P;obtain⟨rg',q1,q2,q3⟩:=P.jx;have hl':ds'.length=l.length:=by have:=P.ls;simp at this;lia
 have na:∀b,U b∈f->b∉O/\b∉F6/\m b=J:=λb F=>by
  have z:=(P.new b F).1;refine⟨λI=>?_,λI=>?_,?_⟩;obtain⟨σ,as⟩:=S.fT b I;rw[(G b σ).mpr ⟨λq'=>S.nO (g b q') I,S.same _ _ as⟩]at z;exact nS z;obtain⟨H,p⟩:=(n b).mp I;obtain⟨_,u,as⟩:=S.new b H;rw[(G b _).mpr ⟨p,as⟩]at z;exact nS z
  . cases as:m b with
    |none=>rfl
    |some σ=>
     rw[(G b σ).mpr ⟨λq'=>?_,S.same _ _ as⟩]at z;exact nS z;rw[(S.new b (g b q')).1]at as;exact nE as
 have e1:∀o xs,D1 o (xs++f) (O++F6)=D1 o (xs++(f++F6.map U)) O:=λo xs=>Pu λb=>by
  rw[kz,kz,kz,kz,ds];constructor;rintro((h|h)|h|h);exact .inl h;exact .inr (.inr (.inr h));exact .inr (.inl h);exact .inr (.inr (.inl h));rintro(h|h|h|h);exact .inl (.inl h);exact .inr (.inl h);exact .inr (.inr h);exact .inl (.inr h)
 have e2:∀o:Hp,D1 o f (O++F6)=D1 o (f++F6.map U) O:=λo=>e1 o []
 have sm:w9 (D1 o q O) (D1 X (f++F6.map U) O):=gj λb σ H p T=>by
  have F:=λz=>p (g b z);refine⟨H,λz=>?_,P.same _ _ ((G b σ).mpr ⟨F,T⟩)⟩
  rcases List.mem_append.mp z with z|z
  have:=(P.new b z).1;rw[(G b σ).mpr ⟨F,T⟩]at this;exact nS this;exact p ((n b).mp ((ds _ _).mp z)).1
 refine⟨f++F6.map U,⟨by rw[xR];exact S.ls,λb σ h=>P.same _ _ ((G b σ).mpr ⟨λq'=>?_,S.same _ _ h⟩),λb h=>?_,S.fT,λj=>match jN l j with|some k=>rg' k|none=>rg j,λj b h=>?_,λj N b h A=>?_,λj pv h=>?_⟩,λH' v pv s r=>?_⟩;rw[(S.new b (g b q')).1]at h;exact nE h
 . rcases List.mem_append.mp h with h|h
   exact⟨(na b h).2.2,(P.new b h).2⟩;obtain⟨H,p⟩:=(n b).mp ((ds _ _).mp h);obtain⟨z,u,as⟩:=S.new b H;exact⟨z,u,P.same _ _ ((G b _).mpr ⟨p,as⟩)⟩
 dsimp only at h;split at h;exact T1 _ (q1 _ b h);rename_i hj;refine N1 _ ((ds _ _).mpr ((n b).mpr ⟨r1 j b h,λz=>?_⟩));obtain⟨i,M,z⟩:=(C b).mp z;have:=r2 i j b z h;subst this;obtain⟨k,t⟩:=cL.mp M;rw[lu hn t]at hj;exact nS hj
 . have no:∀(j N k),jN l j=U k->jN l N=J->b∈rg' k->b∈rg N->False:=λj N k hj hj' F hb'=>by
     have z:=q1 k b F;have:b∉RI:=λz=>by obtain⟨i,M,z⟩:=(C b).mp z;have:=r2 i N b z hb';subst this;obtain⟨k,t⟩:=cL.mp M;rw[lu hn t]at hj';exact nS hj'
     exact(na b z).2.1 ((n b).mpr ⟨r1 N b hb',this⟩)
   dsimp only at h A;split at h;rename_i k t;split at A;rename_i k' E;have:=q2 k k' b h A;subst this;have D:=mq t;rw[mq E]at D;cases D;rfl;rename_i E;exact(no j N k t E h A).elim;rename_i t;split at A;rename_i k' E;exact(no N j k' E t A h).elim;exact r2 j N b h A
 . rcases xS hn hl' h with ⟨H,p⟩|⟨k,w,c,w0,c0,H,p,T,rfl⟩
   . have:jN l j=J:=by
       cases z:jN l j with
       |none=>rfl
       |some k=>exact absurd (cL.mpr ⟨k,mq z⟩) H
     dsimp only;rw[this];refine(r3 j pv p).CJ sm (λb F σ z=>P.same _ _ ((G b σ).mpr ⟨λI=>?_,z⟩)) λb z=>z;obtain⟨i,M,as⟩:=(C b).mp I;have e:=r2 i j b as F;subst e;exact H M
   . dsimp only;rw[lu hn H];obtain⟨v',R,Q,y2,Y,Z⟩:=q3 k _ T;obtain⟨v0,R0,x1,x2,_⟩:=r3 j _ p;have t:k<m4.length:=by rw[l2];exact(List.getElem?_eq_some_iff.mp H).1
     rcases l3 k _ (L6 t)with ⟨x,v,D,_⟩|⟨i,w',c',v,D,z2,z3,z4,z5⟩
     rw[H]at D;cases D
     . rw[H]at D;cases D;rw[M9,z4]at Q;have W:v=.ref v':=by simpa using Q
       subst W;rw[z5]at x1;have x1':v'=v0:=by simpa using x1
       subst x1';exact⟨v',R,z5,x2,Y,by rw[<-e2];exact Z⟩
 . cases pv with
   |dat d=>
    have r':Dt K (D1 H' f (O++F6)) v d:=r;rw[e2]at r';exact r'
   |own l=>
    obtain⟨a,xs,Q,y2,Y,Z⟩:=r;refine⟨a,xs,Q,y2,Y,?_⟩;have:=e1 H' [U a];rw[show(U a::(f++F6.map U))=[U a]++(f++F6.map U)from rfl,<-this];exact Z
   |ob w c=>
    obtain⟨σ,R,Q,y2,Y,Z⟩:=r;refine⟨σ,R,Q,y2,Y,?_⟩;rw[<-e1 H' (R.map U)];exact Z
end
def TXO(K:A6)(te:TE)(F:Ds->Option (PV×Ds)):Prop:=
 ∀(O:List Addr) (F6:Hp) (as:As) (σ:St) (H:Hp) (ds:Ds) (pv:PV) (ds':Ds) (Q:VK),DS K O F6 as σ H ds->F ds=U (pv,ds')->(∀as' Hm H' v,DS K O F6 as' σ Hm ds'->w9 Hm H'->RX K O as' Hm H' v pv->Q v H')->te σ H Q
structure Qq(X:Cx)(e:Expr)(te:TE)(F:Ds->Option (PV×Ds)):Prop where
 p:PE X e te
 t:TXO X.K te F
def jW(f:List PV->Option (PV×Ds))(Fl:Ds->Option (List AV)):Ds->Option (PV×Ds):=λds=>(Fl ds).bind λl=>if (W6 l).Nodup then(tF ds l).bind λargs=>(f args).bind λr=>U (r.1,hW l r.2 ds)else J
section
def Sm{f':List PV->Option (PV×Ds)}(z:vr c Z P n9):TXO c.K (yG (mm c.K f') [] m3 P) (jW f' n9):=by
 intro O b I p H s pv o Q S a q;obtain⟨l,D,a⟩:=t5 a;obtain⟨r,a⟩:=K9 a;obtain⟨X,y,a⟩:=t5 a;obtain⟨⟨d,j⟩,w,a⟩:=t5 a;cases a;refine z.t O b I p H s l _ S D λL M m u=>?_;obtain⟨F,A,k,C,back⟩:=(S.grow m).Xj u y r;rw[af];refine⟨F,A,k,X,d,j,C,w,λe i h v G g B=>?_⟩;obtain⟨f,n,x⟩:=back e i j G;exact q f i h v n g (x h v d g B)
def W9(nm m:Str)(i:Nat)(f:List PV->Option (PV×Ds))(Fl:Ds->Option (List AV)):Ds->Option (PV×Ds):=λds=>(hZ nm i ds).bind λx=>match J3 m x.2 with
 |none=>jW f (iR i Fl) ds
 |some _=>J
def Sl{f':List PV->Option (PV×Ds)}(T:jr c.K u z)(I:vr c Z P n9):TXO c.K (sE z b7 (mm c.K f') [] m3 (S3 N) P) (W9 u b7 N f' n9):=by
 intro O X Y F H ds pv ds' Q S a q;obtain⟨⟨w,fs⟩,W,a⟩:=t5 a;have n:=dC W;have b:=a;obtain⟨v,R,m,_,hR,C',dx,A,R',rfl,C,i,x⟩:=S.slot N _ n;have ec:=T.eq C;subst ec;cases hl:J3 b7 fs with
 |some _=>simp_all
 |none=>
  rw[hl]at b;refine⟨_,m,v,dx,A,rfl,i,x.a2l hl,?_⟩;obtain⟨l,h,a⟩:=t5 b;unfold iR at h;rw[n]at h;obtain⟨L,g,f⟩:=t5 h;cases f;obtain⟨hn,a⟩:=K9 a;obtain⟨d,h2,a⟩:=t5 a;obtain⟨⟨e,y⟩,h3,a⟩:=t5 a;cases a;refine I.t O X Y F H ds L _ S g λvs H1 D r1=>?_;obtain⟨V,Hc,B,Sc,back⟩:=(S.grow D).Xj (.s m r1) h2 hn;rw[af];refine⟨V,Hc,B,d,e,y,Sc,h3,λj p o v S' r M=>?_⟩;obtain⟨k,t,G⟩:=back j p y S';exact q k p o v t r (G o v e r M)
noncomputable def R8(F:Ds->Option (PV×Ds)):DO:=λds=>(F ds).bind λr=>U (.next r.2)
noncomputable def my:DO:=λds=>U (.retO (.dat .none) ds)
def NU{FO:Ds->Option (PV×Ds)}(b:Qq c e G FO)(hs:autoParam (bG e J p.line c.env=pure U') w4):T3 c (.Expr e p) (sF G) (R8 FO):=⟨ow b.p hs,by intro O a l f H j D o S h q;obtain⟨⟨pv,X⟩,g,h⟩:=t5 h;cases h;exact b.t O a l f H j pv X _ S g λi m r v k d n=>q _ _ _ (k.grow d)⟩
def NS:T3 c (.Return J p) Wt my:=⟨YH,by intro O a b X H d D o S h q;cases h;exact q b X H H _ S (w9.refl H) Dt.non⟩
noncomputable def LP:PV×Ds->Option OD
 |(.dat .none,U (.ob _ c)::_)=>U c
 |_=>J
set_option tactic.hygienic true in
def OT{r:PV×Ds}{c:OD}(h:LP r=U c):∃w d,r=(.dat .none,U (.ob w c)::d):=by
 unfold LP at h;split at h;rename_i w a d;cases h;exact⟨w,d,rfl⟩;exact nE h
def sY(nm:Str)(f:List PV->Option (PV×Ds))(Fl:DL):DV:=λds=>(Fl ds).bind λl=>(f (.ob J (.ins nm [])::l.map .dat)).bind λr=>(LP r).bind λc=>U (.ob J c)
set_option tactic.hygienic true in
def Yn{f':List PV->Option (PV×Ds)}{CX:Bi}(x:jr c.K u T)(M:Mk c.K T z)(G:ie c.prog c.w c.K c.mg c.base CX N z j9 b3 (mm c.K f'))(hr:S5 (N+1) c.A)(hg:Gl c u)(hm:c.mg u=U (.ref T))(r:Binds c.K j9 b3 [])(hx:Passes CX c m3)(ha:gm c Uf (e::Z) P a2)(hdb:autoParam (mE u) L0)(he:autoParam (hI c e Z) w4)(hpl:autoParam (lj c E Z) w4):
  PX c Uf (.Call (.Name u p) (e::Z) [] E) (Wx T (mm c.K f') [] m3 P) (sY u f' a2):=⟨YT M G hr hg hm r .nil hx ha.p hdb he hpl,by
 intro O D as σ H ds pv Q S m q;obtain⟨l,k,m⟩:=t5 m;obtain⟨r0,h2,m⟩:=t5 m;obtain⟨X,h3,m⟩:=t5 m;cases m;obtain⟨w,dr,rfl⟩:=OT h3;refine ha.t O D as σ H ds l _ S k λvs g Y r1=>λC j hz hdx hne=>?_
 have S1:=S.grow Y;have nas:∀b,U b∈as->∃i,g b=U i:=λb r=>let ⟨_,i,y⟩:=S1.new b r;⟨_,y⟩
 generalize hT:as.filterMap id=RT;have n:∀b,b∈RT↔U b∈as:=λb=>by rw[<-hT,HI];simp
 have I:w9 g (upd g j (.own C)):=w9.new hdx;have B:upd g j (.own C) C=J:=by rw[L8 (λy=>hne y.symm)];exact hz
 have sz:w9 (upd g j (.own C)) (upd (upd g j (.own C)) C (.ins T j [])):=w9.new B;have nz:∀b i,g b=U i->b≠C:=λb i h y=>by rw[y,hz]at h;exact nE h
 refine⟨O++RT,upd g j (.own C),[U C],_,_,_,?_,h2,λas' Hm H' v S' s' r'=>?_⟩
 . have hl:=r1.length;refine⟨by simp[hl],sz,λa h=>?_,λa h=>?_,λN=>if N=0 then[C]else[],λN b h=>?_,λN k' b h L=>?_,λN pv h=>?_⟩
   . have:a=C:=by simpa using h
     subst this;exact⟨B,Cl.i T j [],Q5⟩
   . rcases List.mem_append.mp h with h|h
     obtain⟨i,y⟩:=S1.fT a h;exact⟨i,I _ _ (S1.same _ _ y)⟩;obtain⟨i,y⟩:=nas a ((n a).mp h);exact⟨i,I _ _ y⟩
   dsimp only at h;split at h;rw[mem_singleton.mp h];exact F2;simp at h;dsimp only at h L;split at h;split at L;rename_i s F;rw[s,F];simp at L;simp at h
   . cases N with
     |zero=>
      have L:PV.ob J (OD.ins u [])=pv:=by simpa using h
      rw[<-L];exact⟨C,[C],rfl,.inl rfl,λb r=>r,T,j,[],[],rfl,x.ns,Q5,.nil⟩
     |succ N=>
      simp only[E8,tI,fw,M9,HW,Function.comp,QM]at h;obtain⟨d,h3,rfl⟩:=h;obtain⟨v,y1,V⟩:=r1.get h3;refine⟨v,by simp[y1],V.same (gj λb o s F f=>⟨λy=>?_,λy=>?_,sz _ _ (I _ _ f)⟩)⟩
      . rcases List.mem_append.mp y with y|y
        exact s y;exact F ((n b).mp y)
      . have:b=C:=by simpa using y
        exact nz b o f this
 . obtain⟨v',R,y1,_,V,y3⟩:=S'.slot 0 (.ob w X) rfl;have t:C=v':=by simpa using y1
   subst t;have ev:v=.non:=by cases r';rfl
   refine⟨ev,q _ H' (Y.trans ((I.trans S'.same).trans s')) ⟨C,R,rfl,.inl rfl,λb r=>?_,y3.same (gj λb o s F f=>⟨λy=>s (T1 _ y),λy=>?_,s' _ _ f⟩) λb _ o y=>s' _ _ y⟩⟩;have:=(S'.new b (V b r)).1;exact Y.free (I.free this)
   . rcases List.mem_append.mp y with y|y
     obtain⟨b',q1,q2⟩:=mem_map.mp y;cases q2;exact F (V b q1)
     . exact s (N1 _ ((n b).mpr y))⟩
end
def LN(Fc:DB)(G:DO):Ds->Nat:=λds=>open Classical in if h:∃m,∃o,P1 Fc G m ds=U o then h.choose else 0
set_option tactic.hygienic true in
def Iv:∀{m:Nat}{ds:Ds}{o:Out},P1 a6 a8 m ds=U o->P1 a6 a8 (m+1) ds=U o:=by
 intro l_;induction l_ with
 |zero=>
  intro ds o h;exact nE h
 |succ m ih_=>
  intro ds o h;rw[P1]at h⊢;obtain⟨b,c,h⟩:=t5 h;rw[c];cases b with
  |false=>exact h
  |true=>
   obtain⟨r,d,h⟩:=t5 h;rw[d];cases r with
   |next a=>exact ih_ h
   |cont a=>exact ih_ h
   |brk a=>exact h
   |ret pv=>exact h
   |up x=>exact h
   |retO pv a=>exact h
def Cy{o:Out}(h:P1 a6 a8 N y=U o)(n:Nat):P1 a6 a8 (N+n) y=U o:=by
 induction n with
 |zero=>exact h
 |succ n a=>exact Iv a
def Mj{o:Out}(h:P1 a6 a8 N y=U o):jS (LN a6 a8) a6 a8 y=U o:=by have a:∃N,∃o,P1 a6 a8 N y=U o:=⟨N,o,h⟩;delta jS LN;rw[dif_pos a];obtain⟨d,c⟩:=a.choose_spec;rw[c];have b:=Cy h a.choose;rw[rR]at b;rw[(Cy c N)]at b;exact b
def mul_list{u:Tok}(j:t.heap.IsList z j2.toArray)(g : -(2^63:Int)<=S)(n:S<2^63)(hsz:j2.length*S.toNat<=100000)(h:Q (.ref (hz t)) {t with heap:=t.heap.push {cls:=zX "list",data:=Data.seq (F7 S.toNat j2).flatten.toArray}}):wpAny (model a9 i6) A (aD .Mult (.ref z) (.int S u)) Q b8 t:=by
 obtain⟨⟨e,d,b,f⟩,a,c,k,i⟩:=id j;subst c i;have:j2.toArray.size*S.toNat<=100000:=by omega
 refine wpAny_binaryOp_repeat_ref f5 ⟨_,a,rfl⟩ (λm=>typeIs_int m S u) noFill_list_mul F.fills_int_mul F.slot_int_rmul repeat_list F.slot_int_index.lookup
  (ko F.slot_int_rmul (typeIs_int t S u) F.entry_int_rmul (F.args_int_rmul_2 _ _) (lm_int_rmul_list_any S u z j2.toArray k d f)
   ⟨a,rfl,⟨_,a,rfl⟩,ko F.slot_list_mul ⟨_,a,rfl⟩ F.entry_list_mul (F.args_list_mul_2 _ _)
    (lm_list_mul_any z j2.toArray k d f S u (by simp[Ii];exact⟨u4,u4⟩) t9 (by simp[Ie,J4];exact nI))
    ⟨a,?_⟩⟩)
 rw[listMul_foldl_if];exact h
def Lc(K:A6):R2:=λx y H Q=>∃a xs j,x=.ref a/\y=.int j/\O2 K H a xs/\(-(2^62)<j/\j<2^62)/\xs.length*j.toNat<=100000/\∀p,H p=J->Q (.ref p) (upd H p (.lst (F7 j.toNat xs).flatten))
def Sh(h:Vals L j2):∀n,Vals (F7 n L).flatten (F7 n j2).flatten:=by
 intro l_;induction l_ with
 |zero=>
  exact .nil
 |succ n ih_=>
  exact h.append (ih_)
def Zc:Y9 c (aD .Mult) (Lc c.K):=by
 intro b s k H x y v u Q I g f h;obtain⟨a,n,j,rfl,rfl,i,l,X,q⟩:=h;cases g;obtain⟨t,rfl⟩:=f;obtain⟨d,r,e,m⟩:=I.list i;refine mul_list e.isList t9 t9 (by rw[<-r.length];exact X) ?_;refine⟨.ref _,_,I.a2u (Sh r _) ?_,rfl,q _ I.fresh⟩;rw[List.length_flatten,QT,List.sum_replicate_nat,vG];exact B7 X (qf f5)
noncomputable def fR:f9->f9->Option PV
 | .list l,.int j=>if (0<=j/\j.toNat<=100000)/\l.length*j.toNat<=100000 then U (.own (F7 j.toNat l).flatten)else J
 |_,_=>J
def ZP(h:E9 g m L M):∀n,E9 g m (F7 n L).flatten (F7 n M).flatten:=by
 intro l_;induction l_ with
 |zero=>
  exact .nil
 |succ n ih_=>
  exact h.append (ih_)
set_option tactic.hygienic true in
def a0k:fG g (Lc g) fR:=by
 intro O o H x y d e pv Q D k i c q;cases k with
 |lst h f=>
  cases i with
  |int j=>
   rename_i a n l;have b:(if (0<=j/\j.toNat<=100000)/\l.length*j.toNat<=100000 then U (PV.own (F7 j.toNat l).flatten)else J)=U pv:=c;obtain⟨m,b⟩:=K9 b;cases b;exact⟨a,n,j,rfl,rfl,D9.seq h,by omega,by rw[f.length];exact m.2,λp K=>q _ _ (w9.new K) (oM K (ZP f _))⟩
  |_=>exact nE c
 |_=>exact nE c
def Td(K:A6):R2:=λx y H Q=>(nH λi j=>.bl (decide (i<j))) x y H Q\/a1g K x y H Q
def a2a(a:c.A.units+64<U0):Y9 c (bp .Lt) (Td c.K):=DU.or (a2b t9)
def BN(a b:f9):Option PV:=
 match a with
 | .int i=>match b with
  | .int j=>U (.dat (.bool (decide (i<j))))
  |_=>J
 | .tuple l=>match b with
  | .tuple m=>(intsOf l).bind λx=>(intsOf m).map λy=>.dat (.bool (HT.lexLt x y))
  |_=>J
 |_=>J
def a3E:fG g (Td g) BN:=by
 intro O p H x y d e pv Q D h i a q;cases h with
 |int=>cases i with
  |int=>cases a;exact .inl ⟨_,_,rfl,rfl,q _ H (w9.refl H) (Dt.bl _)⟩
  |_=>cases a
 |tup k n=>cases i with
  |tup b K=>
   have⟨_,u,a⟩:=Option.bind_eq_some_iff.1 a;have⟨_,v,a⟩:=Option.map_eq_some_iff.1 a;cases a;cases n.ints u;cases K.ints v;exact .inr ⟨_,_,_,_,rfl,rfl,D9.hV k,D9.hV b,q _ H (w9.refl H) (Dt.bl _)⟩
  |_=>cases a
 |_=>cases a
def oU(l:List c9):List (Str×c9):=l.map λx=>(mK,x)
def a4f(l:List c9):(oU l).map (·.2)=l:=by delta oU;rw[fw];exact List.map_id l
def T5.pos{n:Str}(t:T5 g m o j5 i4 O):∀{k:Nat},i4[k]?=U (n,.own M) ->
  ∃a xs,j5[k]?=U (n,.ref a)/\o a=U (.lst xs)/\a∈O/\∀{Hv' H':Hp}{C:List f9}{ys:List V},w9 m Hv'->(∀b∈O,b≠a->∀H,o b=U H->H' b=U H)->H' a=U (.lst ys)->E9 g Hv' ys C->T5 g Hv' H' j5 (i4.set k (n,.own C)) O:=by
 induction t with
 |nil=>intro k h;simp at h
 | @dat y x d j5 i4 O F t q=>
  intro k h;cases k with
  |zero=>simp at h
  |succ k=>
   obtain⟨a,xs,u,s,f,r⟩:=q (by simpa using h);exact⟨a,xs,by simpa using u,s,f,λe c j K=>.dat (F.same e) (r e c j K)⟩
 | @own y w B E j5 i4 O v A i t q=>
  intro k h;cases k with
  |zero=>
   have G:(y,PF.own E)=(n,PF.own M):=by simpa using h
   cases G;exact⟨w,B,rfl,v,F2,λe c j K=>.own j K i (t.same e λb p=>c b (E7 _ p) λz=>i (z▸p))⟩
  |succ k=>
   obtain⟨a,xs,u,s,f,r⟩:=q (by simpa using h);exact⟨a,xs,by simpa using u,s,E7 _ f,λe c j K=>.own (c w F2 (λz=>i (z▸f)) _ v) (A.same e) i (r e (λb p=>c b (E7 _ p)) j K)⟩
 | @dct y w D I j5 i4 O v A i t q=>
  intro k h;cases k with
  |zero=>simp at h
  |succ k=>
   obtain⟨a,xs,u,s,f,r⟩:=q (by simpa using h);exact⟨a,xs,by simpa using u,s,E7 _ f,λe c j K=>.dct (c w F2 (λz=>i (z▸f)) _ v) (A.same e) i (r e (λb p=>c b (E7 _ p)) j K)⟩
section
variable{j}
end
def T5.snoc(h:wc g m o Y j8 O)(t:T5 g m o j5 i4 j4)(d:∀b∈O,b∉j4):∃R',T5 g m o (j5++[(u,Y)]) (i4++[(u,j8)]) R'/\∀b,b∈R'↔b∈O\/b∈j4:=by
 induction t with
 |nil=>exact⟨O++[],T5.cons h (λb _=>by simp) .nil,λb=>by simp⟩
 |dat q t f=>
  obtain⟨R',e,c⟩:=f d;exact⟨R',.dat q e,c⟩
 | @own H a s l j5 i4 j4 i k j t f=>
  obtain⟨R',e,c⟩:=f λb K z=>d b K (E7 _ z);refine⟨a::R',.own i k (λz=>?_) e,λb=>?_⟩
  . rcases(c a).mp z with z|z
    exact d a z F2;exact j z
  rw[bu,bu,c];constructor;rintro(z|z|z);exact .inr (.inl z);exact .inl z;exact .inr (.inr z);rintro(z|z|z);exact .inr (.inl z);exact .inl z;exact .inr (.inr z)
 | @dct H a r n j5 i4 j4 i k j t f=>
  obtain⟨R',e,c⟩:=f λb K z=>d b K (E7 _ z);refine⟨a::R',.dct i k (λz=>?_) e,λb=>?_⟩
  . rcases(c a).mp z with z|z
    exact d a z F2;exact j z
  rw[bu,bu,c];constructor;rintro(z|z|z);exact .inr (.inl z);exact .inl z;exact .inr (.inr z);rintro(z|z|z);exact .inr (.inl z);exact .inl z;exact .inr (.inr z)
def zG(gt:f9->Option (List f9))(Fe:DV)(ds:Ds):List f9->Option (List PF)
 | []=>U []
 |x::r=>(gt x).bind λbs=>(Fe (U8 bs++ds)).bind λy=>(iS y).bind λp=>(zG gt Fe ds r).bind λl=>U (p::l)
def rH(Fi:DL)(gt:f9->Option (List f9))(Fe:DV):DV:=λds=>(Fi ds).bind λitems=>if items.length<=1000000 then(zG gt Fe ds items).bind λl=>U (.ob J (.seq Uf (oU l)))else J
def JZ(h:∀b,U b∈q↔U b∈j1):D1 m q O=D1 m j1 O:=by
 funext b
 delta D1
 simp_all
def Tq(hc:c.calm=Uf)(hk:mC c.N d6 c.env.scope d9=Uf)(hb:tgN r=b3)(V:Xr c.K b3.length j7 o1)(hi:qs c Uf r c8 j6 a2)(go:Ik b3.length j7)(hg:∀cl C fp s H pins,PG (ph c b3 d6 d9 cl C fp s H pins) r j7)(he:∀cl C fp s H pins,PX (ph c b3 d6 d9 cl C fp s H pins) Uf e c6 D)(hs:autoParam (Xw c c8) iz):Ky c (.ListComp e [⟨r,c8,[],0⟩] d9 p) (sG b3 j6 j7 KS c6) (rH a2 o1 D):=Im.x ⟨hc,Qm hk,hi.p,go,hg,λ_ _ _ _ _ _=>EK,λ_ _ _ _ _ _=>(he _ _ _ _ _ _).p,hs⟩ (by
 intro O k j σ H ds pv Q S v q;obtain⟨a,h1,v⟩:=t5 v;obtain⟨hn,v⟩:=K9 v;obtain⟨l,h2,v⟩:=t5 v;cases v;refine hi.t O k j σ H ds a _ S h1 λJff H1 P it=>?_;have S1:=S.grow P;refine⟨a.length,λi ys E=>i<=a.length/\w9 H1 E/\∃R T l2,T5 c.K (D1 E (R.map U++j) O) E (oU ys) (oU T) R/\(∀b∈R,H1 b=J)/\zG o1 D ds (a.drop i)=U l2/\T++l2=l,qf hn,⟨iH _,w9.refl _,[],[],l,.nil,λb X=>absurd X F5,h2,rfl⟩,?_⟩
 rintro i ys E ⟨hi',w,R,T,l2,d1,N,f,Y⟩;have Z:∀b∈R,∃u:Cl,E b=U u.1:=λb X=>by
  obtain⟨u,z|z,y⟩:=d1.at b X;exact⟨⟨u,.inl z⟩,y⟩;exact⟨⟨u,.inr (.inl z)⟩,y⟩
 obtain⟨S2,_⟩:=S1.adopt w 0 N Z;obtain⟨go',st',yl'⟩:=it E (D9.trans w) i;by_cases G:i<a.length
 . refine .inr ⟨go' G,G,λx n y=>?_⟩
   obtain⟨h,d,ed,dt⟩:=yl' x n y G;have dx:=dt (R.map U++j) (λb X=>⟨by
     rcases List.mem_append.mp X with z|z
     . obtain⟨b',z1,I⟩:=mem_map.mp z;cases I;delta D1;rw[N b z1];split<;>rfl
     . delta D1;rw[r9 (.inr z)],let ⟨_,z⟩:=(S2.new b X).2;⟨_,z⟩⟩) λb X=>by
    obtain⟨o,z⟩:=S.fT b X;refine⟨o,G5.mpr ⟨by simp,λI=>?_,S1.same _ _ z⟩⟩;rw[(S.new b I).1]at z;exact nE z
   have ed':a.drop i=d::a.drop (i+1):=by
    rw[sv G];have:a[i]=d:=by have z:=L6 G;rw[ed]at z;exact(W5 z).symm
    rw[this]
   rw[ed']at f;obtain⟨F,h3,f⟩:=t5 f;obtain⟨yv,h5,f⟩:=t5 f;obtain⟨g,h7,f⟩:=t5 f;obtain⟨l3,h6,f⟩:=t5 f;cases f;refine V O (R.map U++j) n x d σ F _ dx h3 λvs dv lv=>?_;have S4:=(S2.grow h).pre dv;refine((he [] 0 [] c.X5 c.F6 []).t) O k _ _ n _ yv _ S4 h5 λu M e6 r6=>?_
   obtain⟨Rf,k1,k2,k3⟩:=JU (S4.dm) r6 (.inl h7);have hh:∀W,D1 W (Rf.map U++(F7 F.length J++(R.map U++j))) O=D1 W (Rf.map U++(R.map U++j)) O:=λW=>JZ λb=>by
    simp only[kz];constructor;rintro(z|z|z);exact .inl z;exact absurd z ou;exact .inr z;rintro(z|z);exact .inl z;exact .inr (.inr z)
   have k3':wc c.K (D1 M (Rf.map U++(R.map U++j)) O) M u g Rf:=by rw[<-hh];exact k3
   have dj:∀b∈Rf,b∉R:=λb X z=>by obtain⟨o,y⟩:=Z b z;have:=h _ _ y;rw[k1 b X]at this;exact nE this
   obtain⟨R',f1,f2⟩:=T5.snoc k3' (d1.same (mw (h.trans e6) λb X=>h.free (k1 b X)) λb X o z=>e6 _ _ (h _ _ z)) dj;refine⟨G,(w.trans h).trans e6,R',T++[g],l3,?_,λb X=>?_,h6,by rw[<-Y];simp⟩
   . have:D1 M (Rf.map U++(R.map U++j)) O=D1 M (R'.map U++j) O:=JZ λb=>by
       have m:∀(L:List Addr),U b∈L.map U↔b∈L:=λL=>by simp
       simp only[kz,m,f2];constructor;rintro(z|z|z);exact .inl (.inl z);exact .inl (.inr z);exact .inr z;rintro((z|z)|z);exact .inl z;exact .inr (.inl z);exact .inr (.inr z)
     rw[<-this];unfold oU at f1⊢;rw[W4,W4];exact f1
   . rcases(f2 b).mp X with z|z
     exact w.free (h.free (k1 b z));exact N b z
 . have hi2:i=a.length:=by lia
   subst hi2;rw[Hs]at f;cases f;rw[af]at Y;subst Y;refine .inl ⟨st' G8,λg t=>?_⟩;refine q _ _ ((P.trans w).trans (w9.new t)) ⟨g,g::R,rfl,.inl rfl,λb X=>?_,oU ys,R,rfl,λz=>?_,by rw[a4f];exact Q5,d1.same (gj λb o z1 I z3=>⟨z1,λz=>?_,w9.new t _ _ z3⟩) λb _ o z=>w9.new t _ _ z⟩
   . rcases List.mem_cons.mp X with rfl|X
     exact P.free (w.free t);exact P.free (N b X)
   obtain⟨u,y⟩:=Z g z;rw[t]at y;exact nE y
   . rcases List.mem_cons.mp z with z|z
     cases z;rw[t]at z3;exact nE z3
     . exact I z)
def DS.wr(S:DS g O m q B o y)(hd:y[N]?=U (U (.ob k7 (.seq Uf i4))))(l:i4[d2]?=U (b7,.own M)):
  ∃v vs a xs,B[N]?=U (U (.ref v))/\o v=U (.lst vs)/\vs[d2]?=U (.ref a)/\vs.length=i4.length/\o a=U (.lst xs)/\E9 g (D1 o q O) xs M/\∀{A:Hp}{ys:List V}{H:List f9},w9 o A->E9 g (D1 A q O) ys H->DS g O m q B (upd A a (.lst ys)) (y.set N (U (.ob k7 (.seq Uf (i4.set d2 (b7,.own H)))))):=by
 have c:∀{d:List (Str×V)}{a:Addr},d[d2]?=U (b7,.ref a)->(d.map (·.2))[d2]?=U (.ref a):=λ{d a} z=>by rw[M9,z];rfl
 have L:∀{G:Hp}{d:List (Str×V)}{i4:List (Str×PF)}{R:List Addr}{d2:Nat}{a:Addr}{xs:List V}{M:List f9},T5 g G o d i4 R->i4[d2]?=U (b7,.own M)->d[d2]?=U (b7,.ref a)->o a=U (.lst xs)->E9 g G xs M:=by
  intro G d i4 R d2 a xs M h;induction h generalizing d2 with
  |nil=>intro z;simp at z
  |dat hd t j=>
   intro e c f;cases d2 with
   |zero=>simp at e
   |succ d2=>exact j (by simpa using e) (by simpa using c) f
  |own X s x t j=>
   intro e c f;cases d2 with
   |zero=>
    obtain⟨_,rfl⟩:=e;obtain⟨_,rfl⟩:=c;rw[X]at f;cases f;exact s
   |succ d2=>exact j (by simpa using e) (by simpa using c) f
  |dct X s x t j=>
   intro e c f;cases d2 with
   |zero=>simp at e
   |succ d2=>exact j (by simpa using e) (by simpa using c) f
 obtain⟨v,R,n,ew,hR,d,R',rfl,nv,s,x⟩:=S.slot N _ hd;obtain⟨a,xs,I,p2,p3,_⟩:=x.pos l;refine⟨v,d.map (·.2),a,xs,n,s,c I,by rw[F9,x.len],p2,L x l I p2,λ{A ys H} P dy=>?_⟩
 have Y:=S.grow P;obtain⟨rg,r1,r2,Q⟩:=Y.jx;obtain⟨v',R2,i,E,w,k,r,rfl,K,p,F⟩:=Q N _ hd;rw[n]at i;cases i;have T:=P _ _ s;rw[p]at T;obtain⟨C,xs',q1,q2,Z,q4⟩:=F.pos l;have ea:C=a:=by have z:=c q1;rw[HO.lst.inj (W5 T),c I]at z;cases z;rfl
 subst ea;have ne:v≠C:=λz=>K (z▸Z);exact Y.DM (u:=Cl.l ys) hd r1 r2 Q (w C (E7 _ Z)) λsm=>⟨v,v::r,n,E,w,k,r,rfl,K,by rw[L8 ne];exact p,q4 sm (λb _ nb D z=>by rw[L8 nb];exact z) Q5 (dy.same sm)⟩
def Bz(i:Nat)(k:Int)(ds:Ds):Option (Option Addr×List (Str×PF)×Str×Nat×List f9):=match ds[i]? with
 |some (U (.ob w (.seq Uf fs)))=>(gh fs.length k).bind λr=>match fs[r]? with
  |some (n,.own l)=>U (w,fs,n,r,l)
  |_=>J
 |_=>J
set_option tactic.hygienic true in
def Uu(h:Bz N S y=U (k7,i4,u,d2,M)):y[N]?=U (U (.ob k7 (.seq Uf i4)))/\gh i4.length S=U d2/\i4[d2]?=U (u,.own M):=by
 unfold Bz at h;split at h;rename_i f c b;obtain⟨g,d,h⟩:=t5 h;split at h;rename_i e j a;cases h;exact⟨b,d,a⟩;exact nE h;exact nE h
def wW(i:Nat)(Fr Fk Fv:DV):DO:=λds=>(Fv ds).bind λpv=>(Fr ds).bind λr=>(Fk ds).bind λk=>match r.d,k.d with
 | .int r,.int k=>(Bz i r ds).bind λx=>(gh x.2.2.2.2.length k).bind λj=>U (.next (ds.set i (U (.ob x.1 (.seq Uf (x.2.1.set x.2.2.2.1 (x.2.2.1,.own (x.2.2.2.2.set j pv.d))))))))
 |_,_=>J
section
set_option tactic.hygienic true in
def Tw{k:Expr}{tk:TE}{F:DV} (ho:PE c c8 (S3 N)) (t:PX c Uf r c6 D) (M:PX c Uf k tk d5) (L:PX c Uf e G F) (hx:autoParam (rL r) xg) (ha:autoParam (∀v,assign (.Subscript (.Subscript c8 r d3) k E) c.env v=(do
   let f <- holding [v] (eval (.Subscript c8 r d3) c.env)
   let iv <- holding [v,f] (eval k c.env)
   mI E
   holding [v,f,iv] (setItem f iv v)
   release [v,f,iv] [])) iz)
  (hs:autoParam (Aj [.Subscript (.Subscript c8 r d3) k E] e p.line c.env=pure U') w4) (K:autoParam (Ai [.Subscript (.Subscript c8 r d3) k E] e c.env=pure J) w4)
  (h1:autoParam ((kr [.Subscript (.Subscript c8 r d3) k E] c.env).map (·.2)=[assign (.Subscript (.Subscript c8 r d3) k E) c.env]) w4) :
  T3 c (.Assign [.Subscript (.Subscript c8 r d3) k E] e p) (oG G (Ml (tU (Jr c.K) (S3 N) c6) tk DQ)) (wW N D d5 F):=⟨EG L.p (EM (DT zg ho t.p hx) M.p set_list ha) hs K h1,by
 intro O X s h H B i q0 S b q;obtain⟨pv,e1,b⟩:=t5 b;obtain⟨rv,Q,b⟩:=t5 b;obtain⟨kv,e3,b⟩:=t5 b;split at b;rename_i rr kk z u;obtain⟨⟨w,fs,n,r',l⟩,Y,b⟩:=t5 b;obtain⟨j,e5,b⟩:=t5 b;cases b;obtain⟨hd,A,x⟩:=Uu Y;refine L.t O X s h H B pv _ S e1 λv T R r1=>?_;have g:=S.grow R;obtain⟨f,P,a,W,z1,z2,z3,V,z5,I,wr⟩:=g.wr hd x;refine⟨_,z1,?_⟩;refine t.t O X s h T B rv _ g Q λy H2 d r2=>?_;have C:=r2.dt g.dm;rw[z]at C;cases C;refine .inl ⟨f,P,rr,.ref a,rfl,rfl,O2.of (d _ _ z2),by delta aA;rw[V,A];exact z3,?_⟩;refine M.t O X s h H2 B kv _ (g.grow d) e3 λy' H3 m Z=>?_;have o:=Z.dt (g.grow d).dm;rw[u]at o;cases o;refine⟨a,W,kk,j,rfl,rfl,m _ _ (d _ _ z5),by rw[I.length];exact e5,q s h _ ?_⟩;exact wr (d.trans m) ((I.same (Q7 (d.trans m))).set j ((r1.grow (d.trans m)).dt S.dm))
 . exact nE b⟩
end
def xp(k:ReadsAll b4 j2 M O)(e:M[N]?=U i3):∃v bs,j2[N]?=U v/\Reads b4 v i3 bs:=by
 induction M generalizing j2 O N with
 |nil=>exact nE e
 |cons _ _ i=>cases k with
  |cons r t=>cases N with
   |zero=>cases e;exact⟨_,_,rfl,r⟩
   |succ N=>exact(i t e :)
def Jt(K:A6):V->List V->Hp->VK->Prop:=λx vs H Q=>∃(p:Addr) (xs:List V) (l:List f9) (y:V) (d:f9) (j:Nat),x=.ref p/\vs=[y]/\O2 K H p xs/\E9 K H xs l/\Dt K H y d/\gP l=Uf/\d.canLay0=Uf/\d.depth<=10/\l.length<=1000000/\(l.findIdx? λe=>aw e d)=U j/\Q (.int j) H
def zK(h:gP M=Uf):∀{m:Nat}{e:f9},M[m]?=U e->e.canLay0=Uf:=by
 induction M with
 |nil=>intro m e z;simp at z
 |cons x M a=>
  rw[gP,pP]at h;intro m e z;cases m with
  |zero=>simp at z;rw[<-z];exact h.1
  |succ m=>exact a h.2 (by simpa using z)
def OR(hu:c.A.units+64<U0):Xu c "list.index" (Jt c.K):=by
 intro L s σ H x vs v us Q I rx rv h;obtain⟨p,xs,l,y,d,j,rfl,rfl,hq,D,hy,z,C,c3,hz,R,q⟩:=h;cases rx;obtain⟨u,rfl,ru⟩:=vals1 rv;obtain⟨b,N,S,_⟩:=I.list hq;obtain⟨as,M⟩:=I.readsAll D N z;obtain⟨bs,rb⟩:=I.reads hy ru C;obtain⟨⟨cls,P,G,sl⟩,O,V,n,hd⟩:=id S.isList;subst V hd;have g:b.length=l.length:=by rw[<-N.length,D.length]
 obtain⟨W,h2,h3⟩:=List.findIdx?_eq_some_iff_getElem.mp R
 classical
 let e:=λv=>decide (∃a o,Reads s.heap v a o/\a.canLay0=Uf/\aw a d=Uf)
 have w:∀(m:Nat) f,e b[m]=aw (l[m]'t9) d:=λm f=>by
  have X:m<l.length:=by simp_all
  have B:=L6 X;obtain⟨Y,o,i,k⟩:=xp M B;rw[L6 f]at i;cases i;cases hb:aw l[m] d with
  |true=>exact cy ⟨_,_,k,(zK z B),hb⟩
  |false=>
   refine ay λ⟨a,T,Z,z4,E⟩=>?_;rw[(Z.unique _ _ k).1,hb]at E;exact nT E
 refine ko AO ⟨_,O,rfl⟩ RF (RJ _ _)
  (RE p b.toArray n P sl u e j (by simpa [g]using W) t9 ?_ ?_) ⟨O,λy' t=>?_,?_⟩
 show e b[j]=Uf;rw[w];exact h2;intro m f r;show e b[m]=U';rw[w m bI];simpa using h3 m r
 . obtain⟨m,f,rfl⟩:=List.getElem_of_mem (by simpa using t)
   have X:m<l.length:=by lia
   obtain⟨Y,o,i,k⟩:=xp M (L6 X);rw[L6 f]at i;cases i;rw[w m f];exact SeqAt.eqAt_reads _ _ _ _ _ _ _ _ k rb (zK z (L6 X)) C (by lia)
 exact⟨.int _,H,I.tok _,⟨_,rfl⟩,q⟩
noncomputable def BY:f9->FV
 | .list l,[d]=>if gP l=Uf/\d.canLay0=Uf/\d.depth<=10/\l.length<=1000000 then(l.findIdx? λe=>aw e d).bind λj=>U (.dat (.int (j:Nat)))else J
 |_,_=>J
def Itv(K:A6)(a:Addr)(n:Nat):It:=
 ⟨λi H=>∃xs,O2 K H a xs/\xs.length=n/\i<n,λi H x H'=>H'=H/\∀xs,O2 K H a xs->xs.length=n->xs[n-1-i]?=U x,λi _=>n<=i⟩
def So(a it:Addr)(n:Nat):Turn a9 i6 g e (Itv g a n) [it] it (λi h=>h.IsRevIter it a (((n-i:Nat):Int)-1)) where
 mem:=H9
 obj:=λi h f b j=>by
  have w:b=it:=by simpa using j
  subst w;obtain⟨o,w,c,d⟩:=f;exact⟨o,w,λv z=>by simp_all⟩
 keep:=λi h r f k=>f.at λo w=>k it H9 o w
 item:=by
  intro X N F L G i P s O H E I q f x;subst N F L;obtain⟨M,hq,hn,hi⟩:=x;obtain⟨its,Z,p,hz⟩:=I.list hq;have Q:M[n-1-i]?=U (M[n-1-i]'t9):=L6 _;obtain⟨u,R,Y⟩:=Z.get Q;obtain⟨C,y,f2,B,A,D⟩:=q it H9;have l:s.heap.IsRevIter it a ((n-1-i:Nat)):=by rw[show((n-1-i:Nat):Int)=((n-i:Nat))-1 by lia];exact f
  refine wpAny_pyNext_rev_item l p.isList (by simpa using R) λr m S=>?_;have V:Inv X P O H {s with heap:=r}:=I.turned (λb o j w=>(S.2 b j).trans w) C y B A D
  have t:r.IsRevIter it a (((n-(i+1):Nat))-1):=by rw[show n-(i+1)=n-1-i by lia];exact m
  obtain⟨o,w,c,d⟩:=id m;exact⟨u,rfl,Ea w c d f5 ⟨_,H,V,Y,⟨rfl,λys hy _=>by rw[I.yb hy hq];exact Q⟩,t,λb j=>(q b j).1⟩⟩
 done:=by
  intro X N F L G i P s O H E I q f x;have:n<=i:=x;obtain⟨C,y,f2,B,A,D⟩:=q it H9;have l:s.heap.IsRevIter it a (-1):=by rw[show(-1:Int)=((n-i:Nat))-1 by simp[*]];exact f
  exact wpAny_pyNext_rev_end (I.ok.hd G) l λr T=>⟨rfl,I.turned (λb o j w=>T b o j w) C y B A D⟩
 self:=λ_ _ _ _ _ f h=>Rc f h
def a2M(K:A6)(ta:TA):TI:=λσ H R=>ta σ H λvs H1=>∃a xs,vs=[.ref a]/\O2 K H1 a xs/\R (Itv K a xs.length) H1
def a1I(t:Gl c "reversed")(m:c.mg "reversed" = J)(n:PA c [r] P)(hs:autoParam (Q9 [r] c.env=[(U',eval r c.env)]) w4):PI c e (.Call (.Name "reversed" p) [r] [] E) (a2M c.K P):=by
 intro X s u H R I h;refine Call_ (iq I t m PyProof.Rows.boot_reversed (qv (K0 (n E X s u H _ I h) λB f ⟨C,k,d,j,z⟩=>?_) hs rfl))
 obtain⟨b,l,x,hq,q⟩:=z;subst x;cases j with
 |cons a A=>
  cases A;cases a;obtain⟨y,v,w,D⟩:=d.list hq;refine call_reversed_list w.isList (Rc ⟨_,Y8 _ rfl,rfl,rfl⟩ ?_);refine⟨f.heap.objs.size,[f.heap.objs.size],_,_,k,rfl,d.kept λb o x=>N3 _ x,So b _ l.length,⟨_,Y8 _ rfl,rfl,?_⟩,λb i=>?_,q⟩;simp[revObj,v.length]
  . have x:b=f.heap.objs.size:=by simpa using i
    subst x;exact d.ye G8 (d.L3.fresh G8)
noncomputable def Bs:List f9->Option (List f9)
 | [.list l]=>U l.reverse
 |_=>J
set_option tactic.hygienic true in
def YQ{K':A6}{o:TA}(M:c.K=K')(G:Gl c "reversed")(F:c.mg "reversed" = J)(m:gm c I [r] o a2)(hs:autoParam (Q9 [r] c.env=[(U',eval r c.env)]) w4):qs c I e (.Call (.Name "reversed" p) [r] [] E) (a2M K' o) (F3 Bs a2):=by
 subst M;refine⟨a1I G F m.p hs,?_⟩;intro O f A L H t j R S X q;obtain⟨l,C,X⟩:=t5 X;refine m.t O f A L H t l _ S C λZ D T z=>?_;unfold Bs at X;split at X
 . rename_i l';cases X;cases z with
   |cons n V=>
    cases V;cases n with
    |lst g s=>
     rename_i b h;have Q:=s.length;refine⟨b,h,rfl,D9.seq g,q _ D T λY u i=>?_⟩;have a:=u.seq (wR.seq g);rw[AK];refine⟨λk=>⟨h,a,rfl,by simp[*]⟩,λk=>by show h.length<=i;simp[*],λx N y k=>?_⟩;obtain⟨B,y⟩:=y;subst B;obtain⟨d,P,w⟩:=s.get' (y h a rfl);refine⟨w9.refl _,d,?_,λvb v _=>ro w u (w9.refl _) v⟩;rw[Rn k,<-Q];exact P
 exact nE X
abbrev gA(h:Heap)(z TI TO:Addr)(f0:t7)(f1:Bool):Prop:=
 h.get? z=U {cls:=.type "zip",dict:=J,data:=.fields #[f0,.bool f1,.bool U',.ref TI,.ref TO],slots:=#[]}
section
variable{prog:N9}{w:G6}
def Se{M:Model}{E:Option Obj->A0->Prop}(h:E (t.heap.get? z) t):wpAny M A (loadIfAlive z) E Q t:=λ_ _ _=>h
def yQ{E:Bool->A0->Prop}(hz:gA t.heap z c7 g8 (aB T) I)(b:∃o,t.heap.get? T=U o)(d:∀h',gA h' z c7 g8 (aB T) Uf->pI z t.heap h'->E U' {t with heap:=h'}):wpAny (model prog w) A (Builtin.SmallTypes.ownedTupleIsFree (.ref z)) E Q t:=by
 obtain⟨o,b⟩:=b;refine u9 (ax hz rfl rfl ?_);show wpAny _ _ (loadIfAlive T >>= _) _ _ _
 refine u9 (Se ?_);rw[b];refine u9 (ax hz rfl rfl ?_);cases I with
 |true=>exact B9 (d _ hz (Heap.SameBut.refl ..))
 |false=>exact u9 (pW hz H9 λh' a c=>B9 (d h' a c))
def MK{l:Addr}{ys:Array t7} (D:iF z c7 g8 i8 i9 j0 l) (hz:gA t.heap z c7 g8 (aB T) I) (P:∃o,t.heap.get? T=U o) (n:X2 t.heap c7 (.ref i8) (.ref i9)) (M:t.heap.IsListIter i8 j0 N) (s:t.heap.IsListIter i9 l d2) (p:t.heap.IsList j0 b6) (B:t.heap.IsList l ys) (L:b6[N]?=U b5) (O:ys[d2]?=U i7) (H:∀h',gA h' z c7 g8 (aB T) Uf->h'.IsListIter i8 j0 (N + 1)->h'.IsListIter i9 l (d2 + 1)->X2 h' t.heap.objs.size b5 i7->h'.objs.size=t.heap.objs.size + 1 ->
   (∀c o,c≠z->c≠i8->c≠i9->t.heap.get? c=U o->h'.get? c=U o)->Q (.ref t.heap.objs.size) {t with heap:=h'}) :
  wpAny (model prog w) A (Builtin.«zip.__next__» ⟨[.ref z],[]⟩) (λu s'=>∃v,u=.done (.ret v)/\Q v s') b8 t:=by
 show wpAny _ _ (field (.ref z) 2 >>= _) _ _ _;refine u9 (ax hz rfl rfl ?_);refine u9 (ax hz rfl rfl ?_);refine u9 (kg n rfl ?_);refine u9 (yQ hz P λG i a=>?_);refine u9 ?_;refine u9 (u9 (gz ?_));refine u9 (HY (M.extBut a.extBut D.i1z) (p.extBut a.extBut D.l1z) L λF j b=>B9 ?_);refine B9 ?_;refine u9 (u9 (gz ?_));refine u9 (HY ((s.extBut a.extBut D.i2z).extBut b.extBut D.i12.symm) ((B.extBut a.extBut D.l2z).extBut b.extBut D.l2i1) O λf h d=>B9 ?_);refine B9 (B9 ?_);show wpAny _ _ (newTuple [b5,i7] >>= _) _ _ _
 refine u9 (wpAny_newTuple (B9 ⟨_,rfl,?_⟩));have g:f.objs.size=t.heap.objs.size:=by rw[d.1,b.1,a.1]
 have m:∀c o,c≠z->c≠i8->c≠i9->t.heap.get? c=U o->f.get? c=U o:=λc o C E q e=>d.extBut _ _ q (b.extBut _ _ E (a.extBut _ _ C e));have k:X2 (f.push {cls:=.type "tuple",data:=.seq #[b5,i7]}) f.objs.size b5 i7:=Y8 _ rfl;rw[g]at k;rw[g];exact H _ (N3 _ (d.extBut _ _ D.i2z.symm (b.extBut _ _ D.i1z.symm i))) ((j.extBut d.extBut D.i12).at λo e=>N3 _ e) (h.at λo e=>N3 _ e) k (by rw[iV,g]) λc o C E q e=>N3 _ (m c o C E q e)
def Ir{p:Addr}{E:Fin->A0->Prop}(u:A.handled=J)(D:iF z c7 g8 i8 i9 j0 p)(hz:gA t.heap z c7 g8 (aB T) I)(q:∃o,t.heap.get? T=U o)(f:X2 t.heap c7 (.ref i8) (.ref i9))(r:t.heap.IsListIter i8 j0 N)(h:t.heap.IsList j0 b6)(m:b6[N]?=J)(s:∀h' e,(∀c o,c≠z->c≠i8->t.heap.get? c=U o->h'.get? c=U o)->(∃o,h'.get? e=U o/\o.cls=.type "StopIteration")->Q (.ref e) {t with heap:=h'}):
  wpAny (model prog w) A (Builtin.«zip.__next__» ⟨[.ref z],[]⟩) E Q t:=by
 show wpAny _ _ (field (.ref z) 2 >>= _) _ _ _;refine u9 (ax hz rfl rfl ?_);refine u9 (ax hz rfl rfl ?_);refine u9 (kg f rfl ?_);refine u9 (yQ hz q λk g a=>?_);refine u9 ?_;refine u9 (u9 (gz ?_));refine u9 (Rq u (r.extBut a.extBut D.i1z) (h.extBut a.extBut D.l1z) m λd e b v=>?_);exact s d e (λc o y n x=>b _ _ n (a.extBut _ _ y x)) v
def LL{b:Addr}{ys:Array t7}{x y:t7} (D:iF z c7 g8 i8 i9 j0 b) (hz:gA t.heap z c7 g8 (aB T) I) (v:∃o,t.heap.get? T=U o) (e:X2 t.heap c7 (.ref i8) (.ref i9)) (n:t.heap.IsListIter i8 j0 N) (j:t.heap.IsListIter i9 b d2) (f:t.heap.IsList j0 b6) (h:t.heap.IsList b ys) (l:b6[N]?=U x) (u:ys[d2]?=U y) (i:∀h',gA h' z c7 g8 (aB T) Uf->h'.IsListIter i8 j0 (N + 1)->h'.IsListIter i9 b (d2 + 1)->X2 h' t.heap.objs.size x y->h'.objs.size=t.heap.objs.size + 1 ->
   (∀c o,c≠z->c≠i8->c≠i9->t.heap.get? c=U o->h'.get? c=U o)->k8 (U (.ref t.heap.objs.size)) {t with heap:=h'}):wpAny (model prog w) A (pB (.ref z)) k8 Q t:=by
 have a:t.TypeIs (.ref z) "zip":=⟨_,hz,rfl⟩;exact u9 (rV (oe a mP
  (kD mP a Az
   (MK D hz v e n j f h l u λh' E m q B p r=>B9 (i h' E m q B p r)) (AE _))))
def Ff{n:Addr}(r:A.handled=J)(D:iF z c7 g8 i8 i9 j0 n)(hz:gA t.heap z c7 g8 (aB T) I)(p:∃o,t.heap.get? T=U o)(b:X2 t.heap c7 (.ref i8) (.ref i9))(q:t.heap.IsListIter i8 j0 N)(d:t.heap.IsList j0 b6)(m:b6[N]?=J)(j:∀h',(∀c o,c≠z->c≠i8->t.heap.get? c=U o->h'.get? c=U o)->k8 J {t with heap:=h'}):wpAny (model prog w) A (pB (.ref z)) k8 Q t:=by
 have a:t.TypeIs (.ref z) "zip":=⟨_,hz,rfl⟩;refine u9 (rV (oe a mP
  (kD mP a Az (Ir r D hz p b q d m λh' e i E=>?_) (AE _))))
 obtain⟨o,k,h⟩:=E;refine u9 (Hu ⟨o,k,h⟩ GX ?_);exact B9 (j _ i)
end
def xG:vz (.type "zip") "__getattr__" = pure J:=by rw[typeLookup_type,Rm];kernel_rfl
def RY:vz (.type "zip") "keys" = pure J:=by rw[typeLookup_type,Rm];kernel_rfl
def Gd:entryFor table "zip.__getattribute__" = U Builtin.«object.__getattribute__»:=
 entryFor_alias (id':="object.__getattribute__") (by kernel_rfl) M8 M8 (by kernel_rfl)
def US(z TI TO:Addr)(h:t7)(f:Bool)(name:Str)(u:Tok)(c:vz (.type "zip") name=pure J)(a:(["__module__","__name__","__qualname__","__doc__","__annotations__"]:List Str).contains name=U')(hsz:name.length+100<=J4:=by size_fits):
  Meets (Builtin.«object.__getattribute__» ⟨[.ref z,.str name u],[]⟩) (λA R s=>gA s.heap z TI TO h f/\raisesAttr (.ref z) name A R s):=
 Meets.of_wp λe w A R s b=>by
  obtain⟨j,g,d,i,l⟩:=s;obtain⟨k,b⟩:=b;repeat (any_goals (first|assumption|wp_step))
  simp only[a];repeat (any_goals (first|assumption|wp_step))
  exact wpAny_raiseAttrError b.1 b.2 (attrMsg_fits M8 hsz)
section
variable{prog:N9}{w:G6}
def Iq(j:gA t.heap z T c7 b5 I)(l:A.handled=J)(h:∀h' f,(∀b o,t.heap.get? b=U o->h'.get? b=U o)->k8 J {t with heap:=h',toks:=f}):wpAny (model prog w) A (getAttr? (.ref z) "keys") k8 Q t:=by
 obtain⟨n,g,d,f,p⟩:=t;have i:∀c,(⟨n,g,d,c,p⟩:A0).TypeIs (.ref z) "zip":=λ_=>⟨_,j,rfl⟩
 have:=sub_AttributeError;have:=F.slot_zip_getattribute.lookup;have:=F.slot_zip_getattribute.bind (.ref z);have:=xG;repeat (any_goals (first|assumption|exact i _|((with_reducible show wpAny _ _ (call (Value.builtin "zip.__getattribute__") _ _) _ _ _);refine ko F.slot_zip_getattribute (i _) Gd (F.args_zip_getattribute_2 _ _) (US z T c7 b5 _ "keys" _ RY M8) ⟨j,l,λh' c e a=>?_⟩)|wp_step))
 obtain⟨q,E,r⟩:=a.there;show wpAny _ _ (getattributeRaised _ _ _ _ _ _ _) _ _ _
 repeat (any_goals (first|assumption|wp_step))
 exact h _ _ a.keeps
end
set_option backward.match.sparseCases true
def lx:plainId "dict.update.loop" = Uf:=by decide +kernel
def lE:entryFor table "dict.update.loop" = U Builtin.«dict.update.loop»:=entryFor_of_fast (by kernel_rfl)
section
variable{prog:N9}{w:G6}{κ:Type}[DecidableEq κ]{knd:HeapKind prog w κ}
def uF{X:List (κ×Addr×t7)}(d:(X.map (·.1)).Nodup){x:κ×Addr×t7}(b:X[N]?=U x):storedH (X.take N) x.1 x.2.1 x.2.2=X.take (N+1):=by
 have e:atKey (X.take N) x.1=J:=atKey_none_of_get λi p a=>by
  rw[QS]at a;obtain⟨f,a⟩:=K9 a;have:=idxH_unique d a b
  simp_all
 rw[storedH_new e];obtain⟨c,rfl⟩:=List.getElem?_eq_some_iff.mp b;rw[List.take_succ,L6 c];rfl
def Em{A:aY}{E:t7->A0->Prop}{s:A0}{d T z:Addr}{x:κ×Addr×t7}{a:List (κ×Addr×t7)}{i:Int}{res:t7}{Q:Fin->A0->Prop}(j:knd.room A)(f:X2 s.heap T (.ref x.2.1) x.2.2)(m:knd.is s.heap x.1 x.2.1)(hd:s.heap.DictOfH knd d a)(hsz:a.length<=J4)(g:∀h' h,h'.DictOfH knd d (storedH a x.1 x.2.1 x.2.2)->pI d s.heap h'->Q (.again (.builtin "dict.update.loop" ⟨[.ref d,.ref z,aB (i+1),res],[]⟩)) {s with heap:=h',toks:=h}):
  wpAny (model prog w) A (holding [.ref T] (do
   let pair <- (Builtin.Dict.pairItems (.ref T)).tryCatch λe=>do
    if !(<- isInstance e (.type "TypeError"))then throw e
    rule "dict.update.element-no-sequence"
    raiseError "TypeError" s!"cannot convert dictionary update sequence element #{i} to a sequence"
   match pair with
   | [k,v]=>holding [k,v] (dictSet d k v)
   |l=>
    rule "dict.update.element-length"
    raiseError "ValueError" s!"dictionary update sequence element #{i} has length {l.length}; 2 is required") >>= λ_=>again (.builtin "dict.update.loop" ⟨[.ref d,.ref z,aB (i+1),res],[]⟩)) Q E s:=by refine u9 (gz (u9 (wpAny_tryCatch ?_)));refine u9 (vH ⟨_,f,rfl⟩ ?_);refine u9 (kg f rfl (B9 ?_));refine gz (wpAny_dictSet_heap j m hd λh' b c=>B9 (g h' _ b c))
structure Zs(knd:HeapKind prog w κ)(h0:Heap)(X:List (κ×Addr×t7))(z TI TO i1 i2 l1 l2 d:Addr):Prop where
 D:iF z TI TO i1 i2 l1 l2
 dz:d≠z
 Kl:d≠i1
 PU:d≠i2
 dTI:d≠TI
 dTO:d≠TO
 pTI:X2 h0 TI (.ref i1) (.ref i2)
 pl1:h0.IsList l1 (X.map λx=>bH x.2.1).toArray
 pl2:h0.IsList l2 (X.map λx=>x.2.2).toArray
 key:∀x∈X,∃o,h0.get? x.2.1=U o/\∀h:Heap,h.get? x.2.1=U o->knd.is h x.1 x.2.1
 ka:∀x∈X,x.2.1≠z/\x.2.1≠TO/\x.2.1≠i1/\x.2.1≠i2/\x.2.1≠d
 l1d:l1≠d
 l2d:l2≠d
 nd:(X.map (·.1)).Nodup
 sz:X.length<=J4
def Kp(z TO i1 i2 d:Addr)(h h':Heap):Prop:=∀c o,c≠z->c≠TO->c≠i1->c≠i2->c≠d->h.get? c=U o->h'.get? c=U o
def Sj{X:List (κ×Addr×t7)}{d:Addr}(hu:knd.room A.in1)(hh:A.in1.handled=J)(Z:Zs knd b4 X z T c7 g8 i8 i9 j0 d):
  ∀(k j:Nat) (s:A0) (i:Int) (G:Addr) (f1:Bool),X.length-j=k->j<=X.length->Kp z c7 g8 i8 d b4 s.heap->gA s.heap z T c7 (aB G) f1->(∃o,s.heap.get? G=U o)->G≠z/\G≠g8/\G≠i8/\G≠d->d<(hz s) ->
   s.heap.IsListIter g8 i9 j->s.heap.IsListIter i8 j0 j->s.heap.DictOfH knd d (X.take j) ->
   (∀h' tk,h'.DictOfH knd d X->Kp z c7 g8 i8 d s.heap h'->m7 (.ok (.ret b5)) {s with heap:=h',toks:=tk}) ->
   codeAny (model prog w) A (.builtin "dict.update.loop" ⟨[.ref d,.ref z,aB i,b5],[]⟩) m7 s:=by
 have F:∀{h:Heap},Kp z c7 g8 i8 d b4 h->X2 h T (.ref g8) (.ref i8):=λk=>k _ _ Z.D.TIz Z.D.TITO Z.D.TIi1 Z.D.TIi2 Z.dTI.symm Z.pTI;have I:∀{h:Heap},Kp z c7 g8 i8 d b4 h->h.IsList i9 (X.map λx=>bH x.2.1).toArray:=λk=>Z.pl1.at λo e=>k _ _ Z.D.l1z Z.D.l1TO Z.D.l1i1 Z.D.l1i2 Z.l1d e;have kl2:∀{h:Heap},Kp z c7 g8 i8 d b4 h->h.IsList j0 (X.map λx=>x.2.2).toArray:=λk=>Z.pl2.at λo e=>k _ _ Z.D.l2z Z.D.l2TO Z.D.l2i1 Z.D.l2i2 Z.l2d e
 intro k;induction k with
 |zero=>
  intro j s i G f1 hk hj t hz B b N h1 h2 hd hR;have e:j=X.length:=by lia
  subst e;refine Hf lE ?_;refine u9 (Ff hh Z.D hz B (F t) h1 (I t) F5 λh' q=>?_);refine u9 (B9 (B9 (hR h' s.toks ?_ λc o m C l r p e=>q c o m l e)));rw[QE]at hd;obtain⟨o,es,ep,e1,e2,e3,e4,e5,e6⟩:=hd;exact⟨o,es,ep,q _ _ Z.dz Z.Kl e1,e2,e3,e4,λx g=>by obtain⟨o',H,q2⟩:=Z.key x g;obtain⟨n,u,E,L,O⟩:=Z.ka x g;exact q2 _ (q _ _ n E (t _ _ n u E L O H)),e6⟩
 |succ k ih=>
  intro j s i G f1 hk hj t hz B b N h1 h2 hd hR;have f:j<X.length:=by omega
  have g:=L6 f;refine Hf lE ?_;refine u9 (LL Z.D hz B (F t) h1 h2 (I t) (kl2 t) (x:=.ref X[j].2.1) (y:=X[j].2.2) (by simp[f]) (by simp[f]) λh1' z1 b1 b2 p1 eZ q=>?_);have K:=sh f;have v:=λc o m C l r p e=>q c o m l r (t c o m C l r p e)
  have hd1:h1'.DictOfH knd d (X.take j):=by
   obtain⟨o,es,ep,e1,e2,e3,e4,e5,e6⟩:=hd;exact⟨o,es,ep,q _ _ Z.dz Z.Kl Z.PU e1,e2,e3,e4,λx g=>by have g:=Rb g;obtain⟨o',H,q2⟩:=Z.key x g;obtain⟨n,u,E,L,O⟩:=Z.ka x g;exact q2 _ (v _ _ n u E L O H),e6⟩
  refine Em hu p1 ?_ hd1 (by rw[sj];have:=Z.sz;lia) λh2' tk M a=>?_;obtain⟨o',H,q2⟩:=Z.key _ K;obtain⟨n,u,E,L,O⟩:=Z.ka _ K;exact q2 _ (v _ _ n u E L O H);rw[uF Z.nd g]at M;refine⟨GR lx _,ih (j+1) _ (i+1) G Uf t9 f ?_ ?_ ?_ b ?_ ?_ ?_ M λh' tk' n u=>hR h' tk' n ?_⟩;exact λc o m C l r p e=>a.extBut _ _ p (v c o m C l r p e);exact a.extBut _ _ Z.dz.symm z1;obtain⟨o,B⟩:=B;exact⟨o,a.extBut _ _ b.2.2.2 (q _ _ b.1 b.2.1 b.2.2.1 B)⟩;show d<h2'.objs.size;rw[a.1,eZ];exact vS N;exact b1.extBut a.extBut Z.Kl.symm;exact b2.extBut a.extBut Z.PU.symm;exact λc o m C l r p e=>u c o m C l r p (a.extBut _ _ p (q c o m l r e))
def MT{X:List (κ×Addr×t7)}{d:Addr}(hu:knd.room A.in1)(hh:A.in1.handled=J)(Z:Zs knd b4 X z T c7 g8 i8 i9 j0 d){res:t7}(F:Kp z c7 g8 i8 d b4 t.heap)(hz:IsZip t.heap z T c7 .none)(E:X2 t.heap c7 b5 i7)(L:t.heap.IsListIter g8 i9 0)(h2:t.heap.IsListIter i8 j0 0)(hd:t.heap.DictOfH knd d [])(hR:∀h' tk,h'.DictOfH knd d X->Kp z c7 g8 i8 d t.heap h'->m7 (.ok (.ret res)) {t with heap:=h',toks:=tk}):
  codeAny (model prog w) A (.builtin "dict.update.loop" ⟨[.ref d,.ref z,aB 0,res],[]⟩) m7 t:=by
 have B:=F _ _ Z.D.TIz Z.D.TITO Z.D.TIi1 Z.D.TIi2 Z.dTI.symm Z.pTI;have p:=Z.pl1.at λo e=>F _ _ Z.D.l1z Z.D.l1TO Z.D.l1i1 Z.D.l1i2 Z.l1d e;have C:=Z.pl2.at λo e=>F _ _ Z.D.l2z Z.D.l2TO Z.D.l2i1 Z.D.l2i2 Z.l2d e
 have m:d<t.heap.objs.size:=by obtain⟨o,_,_,e,_⟩:=hd;exact J8 e
 refine Hf lE ?_;by_cases hX:X=[];subst hX;refine u9 (wpAny_pyNext_zip_end hh Z.D hz B E L h2 p C (.inl rfl) λh' n=>?_);refine u9 (B9 (B9 (hR h' t.toks ?_ λc o k h i j l e=>n c o k h i j e)));obtain⟨o,M,ep,e1,e2,e3,I,e5,e6⟩:=hd;exact⟨o,M,ep,n _ _ Z.dz Z.dTO Z.Kl Z.PU e1,e2,e3,I,λx q=>by simp at q,e6⟩
 . have g:=List.length_pos_iff.mpr hX;have q:=L6 g;have r:=sh g;refine u9 (wpAny_pyNext_zip_item Z.D hz B E L h2 p C (x:=.ref X[0].2.1) (y:=X[0].2.2) (by simp[g]) (by simp[g]) λG z1 t1 b1 b2 p1 eZ n=>?_);have u:=λc o k h i j l e=>n c o k h i j (F c o k h i j l e)
   have hd1:G.DictOfH knd d (X.take 0):=by obtain⟨o,M,ep,e1,e2,e3,I,e5,e6⟩:=hd;exact⟨o,M,ep,n _ _ Z.dz Z.dTO Z.Kl Z.PU e1,e2,e3,I,λx q=>by simp at q,e6⟩
   refine Em hu p1 ?_ hd1 (iH _) λh2' tk v f=>?_;obtain⟨o',q1,q2⟩:=Z.key _ r;obtain⟨K,H,a3,a4,a5⟩:=Z.ka _ r;exact q2 _ (u _ _ K H a3 a4 a5 q1);rw[uF Z.nd q]at v;have lt:∀{c:Addr}{o:Obj},t.heap.get? c=U o->t.heap.objs.size≠c:=λe=>gx (J8 e);refine⟨GR lx _,Sj hu hh Z (X.length-1) 1 _ (0+1) t.heap.objs.size U' rfl g ?_ ?_ ?_ ⟨lt hz,?_,?_,gx m⟩ ?_ ?_ ?_ v λh' N K H=>hR h' N K ?_⟩;exact λc o k h i j l e=>f.extBut _ _ l (u c o k h i j l e);exact f.extBut _ _ Z.dz.symm z1;exact⟨_,f.extBut _ _ (gx m) p1⟩;obtain⟨s,e⟩:=L;exact lt e.1;obtain⟨s,e⟩:=h2;exact lt e.1;show d<h2'.objs.size;rw[f.1,eZ];exact vS m;exact b1.extBut f.extBut Z.Kl.symm;exact b2.extBut f.extBut Z.PU.symm;exact λc o k h i j l e=>H c o k h i j l (f.extBut _ _ l (n c o k h i j e))
def DI{X:List (κ×Addr×t7)}(O:knd.room A.in1.in1)(n:A.in1.in1.handled=J)(Z:Zs knd t.heap X z T c7 g8 i8 i9 j0 t.heap.objs.size)(hz:IsZip t.heap z T c7 .none)(l:X2 t.heap c7 b5 i7)(L:t.heap.IsListIter g8 i9 0)(C:t.heap.IsListIter i8 j0 0)(h:∀h' p,h'.DictOfH knd t.heap.objs.size X->Kp z c7 g8 i8 t.heap.objs.size t.heap h'->Q (.ref t.heap.objs.size) {t with heap:=h',toks:=p}):
  wpAny (model prog w) A (call (.type "dict") [.ref z]) Q b8 t:=by
 refine callType_codes (Q₁:=λobj i=>obj=.ref t.heap.objs.size/\i={t with heap:=t.heap.push {cls:=.type "dict",data:=.dict #[]}}) F.kt_called_dict (F.kt_typeCall_dict_1 _) F.entry_dict_init (kt_code_dict_new _ ⟨rfl,rfl⟩) ?_;rintro obj i ⟨rfl,rfl⟩;have d:(t.heap.push {cls:=.type "dict",data:=.dict #[]}).DictOfH knd t.heap.objs.size []:=Heap.DictOfH.new t.heap;have f:∀{c:Addr}{o:Obj},t.heap.get? c=U o->(t.heap.push {cls:=.type "dict",data:=.dict #[]}).get? c=U o:=λe=>N3 _ e;refine⟨d.typeIs,F.args_dict_init_2 _ _,?_⟩;refine u9 ?_;refine u9 (wpAny_notOrdered_dict d.typeIs ?_);refine B9 ?_;refine u9 (vH ⟨_,f hz,rfl⟩ ?_);refine u9 (Iq (f hz) n λh' p g=>?_);refine u9 (pG ?_);refine u9 (Ht (g _ _ (f hz)) (B9 ?_));refine⟨GR lx _,MT O n Z (λc o _ _ _ _ _ e=>g _ _ (f e)) (g _ _ (f hz)) (g _ _ (f l)) (L.at λo e=>g _ _ (f e)) (C.at λo e=>g _ _ (f e)) ?_ λk j D E=>⟨rfl,h k j D λc o N v B K u e=>E c o N v B K u (g _ _ (f e))⟩⟩;obtain⟨o,M,P,H,r,R,y,S,G⟩:=d;exact⟨o,M,P,g _ _ H,r,R,y,λx I=>by simp at I,G⟩
set_option backward.match.sparseCases false
end
noncomputable def asK:f9->Option Key
 | .int i=>U (.inl i)
 | .str x=>U (.inr x)
 |_=>J
def lJ:List f9->Option (List Key)
 | []=>U []
 |d::r=>(asK d).bind λk=>(lJ r).bind λks=>U (k::ks)
def qq:f9->Option (List Key)
 | .dict [(.list l,.none)]=>lJ l
 |_=>J
def mD:List f9->Option (List (List Key))
 | []=>U []
 |d::r=>(qq d).bind λk=>(mD r).bind λks=>U (k::ks)
def pj(k:List Key):lJ (k.map jR)=U k:=by
 induction k with
 |nil=>rfl
 |cons a k h=>cases a<;>exact C2 (Ab · λs=>U (_::s)) h
theorem E9.lJ{K:A6}{H:Hp}{l:List f9}:∀{vs:List V}{k:List Key},E9 K H vs l->L2.lJ l=U k->vs=k.map kV:=by
 induction l with
 |nil=>intro _ _ h e;cases h;cases e;rfl
 |cons d l i=>
  intro _ _ h e;cases h with
  |cons h t=>
  obtain⟨a,b,e⟩:=t5 e;obtain⟨d,c,e⟩:=t5 e;cases e;rw[i t c];cases h<;>first|(cases b;rfl)|exact nE b
theorem Dt.qq{K:A6}{H:Hp}{v:V}{d:f9}{k:List Key}(h:Dt K H v d)(e:L2.qq d=U k):∃a,v=.ref a/\H a=U (.tup (k.map kV)):=by
 cases h with
 |key h=>
  cases(pj _).symm.trans e;exact⟨_,rfl,h⟩
 |_=>exact nE e
theorem E9.mD{K:A6}{H:Hp}{l:List f9}:∀{vs:List V}{ks:List (List Key)},E9 K H vs l->L2.mD l=U ks->∃as:List Addr,vs=as.map V.ref/\Paired (λa k=>H a=U (.tup (k.map kV))) as ks:=by
 induction l with
 |nil=>intro _ _ h e;cases h;cases e;exact⟨[],rfl,.nil⟩
 |cons d l i=>
  intro _ _ h e;cases h with
  |cons h t=>
  obtain⟨k,b,e⟩:=t5 e;obtain⟨f,d,e⟩:=t5 e;cases e;obtain⟨a,rfl,g⟩:=h.qq b;obtain⟨as,rfl,c⟩:=i t d;exact⟨a::as,rfl,.cons g c⟩
def Y5(Fl:DL):DV:=λds=>(Fl ds).bind λl=>(lJ l).bind λk=>if l.length<=1000000 then U (.dat (W7 k))else J
def Yl{x1}(h:gm c I Z P a2):PX c I (.Tuple Z x1 p) (Sw P) (Y5 a2):=⟨Oh h.p,by
 intro O b n f H s pv Q S a q;obtain⟨l,o,a⟩:=t5 a;obtain⟨k,m,a⟩:=t5 a;obtain⟨j,a⟩:=K9 a;cases a;refine h.t O b n f H s l _ S o λv u e r=>⟨by rw[r.length];exact qf j,λX d=>q _ _ (e.trans (w9.new d)) ?_⟩
 obtain⟨g,i⟩:=(S.grow e).dm.fresh d;rw[r.lJ m];exact Dt.key (G5.mpr ⟨g,i,Q5⟩)⟩
noncomputable def un:f9->f9
 | .dict [(.list l,.none)]=>.tuple l
 |d=>d
theorem Cn{K:A6}{H:Hp}:∀k:List Key,E9 K H (k.map kV) (k.map jR)
 | []=>.nil
 | .inl i::k=>.cons (.int i) (Cn k)
 | .inr i::k=>.cons (.str i) (Cn k)
theorem Dt.un{K:A6}{H:Hp}{v:V}{d:f9}(h:Dt K H v d):Dt K H v (un d):=by
 cases h with
 |key h=>exact .tup (ae.of h) (Cn _)
 |non=>exact .non
 |bl b=>exact .bl b
 |int i=>exact .int i
 |str x=>exact .str x
 |tup h t=>exact .tup h t
 |lst h t=>exact .lst h t
 |exc c n e a t=>exact .exc c n e a t
 |fn h=>exact .fn h
 |ins e a f t=>exact .ins e a f t
 |dct e a t=>exact .dct e a t
 |dtt e a f t=>exact .dtt e a f t
theorem E9.un{K:A6}{H:Hp}{vs:List V}{l:List f9}(h:E9 K H vs l):E9 K H vs (l.map L2.un):=by
 induction l generalizing vs with
 |nil=>exact h
 |cons _ _ i=>cases h with
  |cons a t=>exact .cons a.un (i t)
def x3(ks:List (List Key))(as:List Addr)(vs:List t7)(g:as.length=ks.length)(h:vs.length=ks.length):
  (ks.zip (as.zip vs)).map (λx=>x.1)=ks/\(ks.zip (as.zip vs)).map (λx=>bH x.2.1)=as.map bH/\(ks.zip (as.zip vs)).map (λx=>x.2.2)=vs/\(ks.zip (as.zip vs)).length=ks.length:=by
 induction ks generalizing as vs with
 |nil=>exact⟨rfl,by cases as<;>trivial,by cases vs<;>trivial,rfl⟩
 |cons k ks i=>cases as with
  |nil=>cases g
  |cons a as=>cases vs with
   |nil=>cases h
   |cons v vs=>
    obtain⟨b,e,d,c⟩:=i as vs (Ad g) (Ad h);exact⟨C2 (k::·) b,C2 (_::·) e,C2 (v::·) d,C2 (· + 1) c⟩
def a0t(vs:List t7)(p:Paired q9 O r4):∀x∈r4.zip (O.zip vs),q9 x.2.1 x.1:=by
 induction p generalizing vs with
 |nil=>intro _ h;cases h
 |cons r t i=>cases vs with
  |nil=>intro _ h;cases h
  |cons v vs=>
   intro x h;rcases List.mem_cons.1 h with rfl|h
   exact r;exact i vs x h
def Xz{S:Addr->List Key->Prop}(f:∀a k,q9 a k->S a k)(p:Paired q9 O r4)(v:Vals L j2)(h:L.length=r4.length):
  Paired (λ(p:List Key×V) (q:List Key×Addr×t7)=>p.1=q.1/\S q.2.1 p.1/\RelV p.2 q.2.2) (r4.zip L) (r4.zip (O.zip j2)):=by
 induction p generalizing L j2 with
 |nil=>exact .nil
 |cons r t i=>cases v with
  |nil=>cases h
  |cons a b=>exact .cons ⟨rfl,f _ _ r,a⟩ (i b (Ad h))
def MR:∀{as:List Addr}{us:List t7},Vals (as.map V.ref) us->us=as.map bH:=by
 intro l_;induction l_ with
 |nil=>
  intro _ r;cases r;rfl
 |cons a as ih_=>
  intro _ r;cases r with
  |cons h t=>rw[E8,<-ih_ t];exact C2 (·::_) h
def Ln{b:Type}{R:c9->b->Prop}{l:List c9}{m:List b}(h:Paired R l m):l.length=m.length:=by
 induction h with
 |nil=>rfl
 |cons _ _ i=>exact C2 (· + 1) i
def EE(K:A6):List V->Hp->VK->Prop:=λvs H Q=>∃(p1 p2:Addr) (as:List Addr) (ys:List V) (ks:List (List Key)),vs=[.ref p1,.ref p2]/\O2 K H p1 (as.map V.ref)/\O2 K H p2 ys /\
 Paired (λa k=>H a=U (.tup (k.map kV))) as ks/\ks.Nodup/\ys.length=ks.length/\∀p,H p=J->Q (.ref p) (upd H p (.dT (ks.zip ys)))
def Mz{Q:VK}(hu:c.A.units+2<U0)(hh:c.A.handled=J)(I:Inv c b9 B m t)(rv:Vals L j2)(h:EE c.K L m Q):
  wpAny (model c.prog c.w) c.A (call (.type "zip") j2) (λz s1=>wpAny (model c.prog c.w) c.A (call (.type "dict") [z]) (EP c b9 B Q) c.xe s1) c.xe t:=by
 obtain⟨Y,T,O,ys,C,rfl,hs1,W,hk,hn,R,q⟩:=h;cases rv with
 |cons r1 rr=>
 cases rr with
 |cons r2 rr=>
 cases rr;cases r1;cases r2;obtain⟨its1,ri1,s,z1⟩:=I.list hs1;obtain⟨d,G,H,z2⟩:=I.list W;have e1:=MR ri1;subst e1;have la:=Ln hk;have lv:d.length=C.length:=by rw[<-G.length,R]
 obtain⟨x1,x2,x3',x4⟩:=x3 C O d la lv;have E:∀x∈C.zip (O.zip d),∃o,t.heap.get? x.2.1=U o/\∀h:Heap,h.get? x.2.1=U o->(pF (bh c.prog c.w)).is h x.1 x.2.1:=λx y=>by
  have y:=a0t d hk x y;obtain⟨_,its,r,o,v,F,n,g3⟩:=(show aP c.prog c.w m t.heap x.2.1 (.tup (x.1.map kV))from I.L3 _ _ y);exact⟨o,v,λh e=>⟨o,its.toArray,n,e,F,g3,by simpa using CW r⟩⟩
 have N:Y<t.heap.objs.size:=by obtain⟨o,e,_⟩:=s.isList;exact J8 e
 have M:T<t.heap.objs.size:=by obtain⟨o,e,_⟩:=H.isList;exact J8 e
 have ls:∀{X:Nat} j,X<t.heap.objs.size->X≠t.heap.objs.size+j:=λj h=>by exact S8 (O1 u4 (kE _ _))
 have l:∀{X:Nat},X<t.heap.objs.size->X≠t.heap.objs.size:=λh=>by exact S8 u4
 have g:∀{i j:Nat},i≠j->t.heap.objs.size+i≠t.heap.objs.size+j:=λh=>by simp[*]
 have w:∀{j:Nat},j≠0->t.heap.objs.size≠t.heap.objs.size+j:=λh=>by simp[*]
 refine call_zip_2 s.isList H.isList λσ hz CZ Ka i1 i2 p P=>?_
 have D:iF (t.heap.objs.size+4) (t.heap.objs.size+2) (t.heap.objs.size+3) t.heap.objs.size (t.heap.objs.size+1) Y T:=
  ⟨g f5,g f5,w f5,g f5,g f5,(w f5).symm,g f5,(w f5).symm,g f5,w f5,ls _ N,ls _ N,l N,ls _ N,ls _ M,ls _ M,l M,ls _ M⟩
 have Z:Zs (pF (bh c.prog c.w)) σ (C.zip (O.zip d)) (t.heap.objs.size+4) (t.heap.objs.size+2) (t.heap.objs.size+3) t.heap.objs.size (t.heap.objs.size+1) Y T σ.objs.size:=by
  rw[p];refine⟨D,g f5,(w f5).symm,g f5,g f5,g f5,CZ,?_,?_,λx y=>?_,λx y=>?_,ls _ N,ls _ M,?_,?_⟩;rw[x2];exact s.isList.at λo e=>P _ _ e;rw[x3'];exact H.isList.at λo e=>P _ _ e;obtain⟨o,v,F⟩:=E x y;exact⟨o,P _ _ v,F⟩;obtain⟨o,v,_⟩:=E x y;have:=J8 v;exact⟨ls _ this,ls _ this,l this,ls _ this,ls _ this⟩;rw[x1];exact hn;rw[x4,<-la];simpa using z1
 refine DI (show c.A.in1.in1.units<U0 from hu) hh Z hz Ka i1 i2 λh' tk hd kp=>?_
 have keep:∀b u,t.heap.get? b=U u->h'.get? b=U u:=λb u e=>by have:=J8 e;exact kp b u (ls _ this) (ls _ this) (l this) (ls _ this) (by show b≠σ.objs.size;rw[p];exact ls _ this) (P _ _ e)
 have hp:t.heap.objs.size<=σ.objs.size:=by rw[p];simp[*]
 have f:=I.L3.fresh hp;refine⟨.ref σ.objs.size,_,I.laid keep hp ?_,rfl,q _ f⟩;obtain⟨o,es,ep,v,F,g3,g4,g5,g6⟩:=hd;refine⟨?_,?_,C.zip (O.zip d),Xz (S:=λa k=>upd m σ.objs.size (HO.dT (C.zip ys)) a=U (HO.tup (List.map kV k))) (λa k e=>?_) hk G R,o,es,ep,v,F,g3,g4,g6⟩;rw[List.length_zip,R,Nat.min_self,<-R];exact z2;have:=I.big;exact beq_eq_false_iff_ne.mpr (gx (O1 this hp));rw[L8 (aN e f)];exact e
def Um{X:Pos}(m:c.A.units+2<U0)(b:c.A.handled=J)(u:Gl c "dict")(y:c.mg "dict" = J)(x:fW "dict" = U (.type "dict"))(g:Gl c "zip")(l:c.mg "zip" = J)(k:fW "zip" = U (.type "zip"))(o:PA c [e,r] P)(v:autoParam (Q9 [.Call (.Name "zip" E) [e,r] [] X] c.env=(U',eval (.Call (.Name "zip" E) [e,r] [] X) c.env)::Q9 [] c.env) w4)(j:autoParam (lj c d3 []) w4)(i:autoParam (hI c e [r]) w4)(d:autoParam (lj c X [r]) w4)(F:autoParam (gq d3 (Q9 [] c.env)=[]) w4):
  PE c (.Call (.Name "dict" p) [.Call (.Name "zip" E) [e,r] [] X] [] d3) (CD (EE c.K) P):=by
 intro a s B H Q I h;refine so (iq I u y x ?_ f5 f5);refine qv ?_ v j;refine AH (so (iq I g l k ?_ f5 f5));refine qv (K0 (o X a s B H _ I h) λM G ⟨L,D,C,q,n⟩=>?_) i d;exact K0 (Mz m b C q n) λz t w=>HA w
def a2y{H2:Hp}{a:Bool}(S:DS g O m q B o y)(e:w9 o d8)(k:w9 d8 H2):∀b H,D1 d8 (aS I q) O b=U H->¬Cell H->D1 H2 (aS a q) O b=U H:=by
 intro b H K l;obtain⟨i,_,f⟩:=G5.mp K;refine G5.mpr ⟨i,λz=>?_,k _ _ f⟩;obtain⟨_,u,h⟩:=S.new b (ot z);have:=e _ _ h;rw[f]at this;have d:=u.2;rw[<-W5 this]at d;exact l d
def Xf:FV
 | [.list a,.list b]=>(mD a).bind λks=>if ks.Nodup/\b.length=ks.length/\mF b=Uf then U (.dat (Cm ks b))else J
 |_=>J
def zC(Fl:DL):DV:=λds=>(Fl ds).bind Xf
set_option tactic.hygienic true in
def Tn{K':A6}{X:Pos}(R:c.K=K')(hu:c.A.units+2<U0)(B:c.A.handled=J)(y:Gl c "dict")(L:c.mg "dict" = J)(Y:fW "dict" = U (.type "dict"))(m:Gl c "zip")(u:c.mg "zip" = J)(s:fW "zip" = U (.type "zip"))(w:gm c U' [e,r] P a2)(i:autoParam (Q9 [.Call (.Name "zip" E) [e,r] [] X] c.env=(U',eval (.Call (.Name "zip" E) [e,r] [] X) c.env)::Q9 [] c.env) w4)(g:autoParam (lj c d3 []) w4)(k:autoParam (hI c e [r]) w4)(f:autoParam (lj c X [r]) w4)(hn:autoParam (gq d3 (Q9 [] c.env)=[]) w4):
  PX c I (.Call (.Name "dict" p) [.Call (.Name "zip" E) [e,r] [] X] [] d3) (CD (EE K') P) (zC a2):=by
 subst R;refine⟨Um hu B y L Y m u s w.p i g k f hn,?_⟩;intro O b as V H ds pv Q S d q;obtain⟨l,h1,d⟩:=t5 d;refine w.t O b as V H ds l _ S h1 λvs H1 j N=>?_;unfold Xf at d;split at d
 . rename_i la lb;obtain⟨D,h2,d⟩:=t5 d;obtain⟨F,d⟩:=K9 d;obtain⟨T,z,Z⟩:=F;cases d;cases N with
   |cons o h=>
   cases h with
   |cons t h=>
   cases h;cases o with
   |lst a G=>
   cases t with
   |lst C v=>
   obtain⟨bs,rfl,M⟩:=(G.same D9).mD h2;have x:=v.length;refine⟨_,_,bs,_,D,rfl,D9.seq a,D9.seq C,M,T,x.trans z,λp n=>q _ _ (j.trans (w9.new n)) ?_⟩;obtain⟨o,t⟩:=(S.grow j).dm.fresh n;exact Dt.dtt (G5.mpr ⟨o,t,Q5⟩) (x.trans z).symm rfl (E9.lf (a2y S j (w9.new n)) v Z)
 exact nE d
def vn:List f9->Option (List (List Key))
 | []=>U []
 | .tuple l::r=>(lJ l).bind λk=>(vn r).bind λks=>U (k::ks)
 |_=>J
def zL(ks:List (List Key)):vn (ks.map λk=>.tuple (k.map jR))=U ks:=by
 induction ks with
 |nil=>rfl
 |cons k s h=>
  change (lJ _).bind _=_;rw[pj];exact C2 (Ab · λs=>U (k::s)) h
def nq(d:f9)(k:List Key):Option (Option f9):=match d with
 | .dict [(.list l,.list vs)]=>(vn l).bind λks=>U (((ks.zip vs).find? λp=>decide (p.1=k)).map (·.2))
 |_=>J
theorem Jc{K:A6}{H:Hp}(k:List Key):∀{ks:List (List Key)}{vs:List V}{l:List f9},E9 K H vs l ->
  (ll (ks.zip vs) k=J/\((ks.zip l).find? λp=>decide (p.1=k)).map (·.2)=J)\/∃v d,ll (ks.zip vs) k=U v/\((ks.zip l).find? λp=>decide (p.1=k)).map (·.2)=U d/\Dt K H v d
 | [],_,_,_=>.inl ⟨rfl,rfl⟩
 |_::_,_,_,.nil=>.inl ⟨rfl,rfl⟩
 |k'::ks,_,_,.cons (x:=x) (d:=d) h t=>by
  by_cases e:k'=k;exact .inr ⟨x,d,xI e,by simp[e],h⟩;rw[lW,lW,xJ e,Qw];simp only[ay e];exact Jc k t
set_option tactic.hygienic true in
theorem Dt.nq{K:A6}{H:Hp}{x:V}{d:f9}{k:List Key}{r:Option f9}(h:Dt K H x d)(e:L2.nq d k=U r):
  ∃a b,x=.ref a/\H a=U (.dT b)/\((ll b k=J/\r=J)\/∃v d',ll b k=U v/\r=U d'/\Dt K H v d'):=by
 cases h with
 |dtt c g f t=>
  rename_i a b i j l;change (vn _).bind _=_ at e;rw[zL]at e;replace e:=W5 e;refine⟨a,b,rfl,c,?_⟩;rw[f,<-e];exact Jc k t
 |dct c g t=>exact nE e
 |key h=>exact nE e
 |_=>exact nE e
def jV(Fo Fi:DV):DV:=λds=>(Fo ds).bind λx=>(Fi ds).bind λy=>(qq y.d).bind λk=>(nq x.d k).bind λr=>r.bind λd=>U (.dat d)
def jE(Fo Fi Fx:DV):DV:=λds=>(Fo ds).bind λx=>(Fi ds).bind λy=>(Fx ds).bind λz=>(qq y.d).bind λk=>(nq x.d k).bind λr=>U (.dat (r.getD z.d))
def To(F:c.A.units+1<U0)(m:PX c I e G D)(l:PX c I r c6 d5)(hs:autoParam (VY r) xg):PX c I (.Subscript e r p) (Wy G c6) (jV D d5):=⟨YV F m.p l.p hs,by
 intro O i w n H u pv Q S X q;obtain⟨x,L,X⟩:=t5 X;obtain⟨y,M,X⟩:=t5 X;obtain⟨k,o,X⟩:=t5 X;obtain⟨t,B,X⟩:=t5 X;obtain⟨d,g,X⟩:=t5 X;cases X;refine m.t O i w n H u x _ S L λv C j P=>?_;refine l.t O i w n C u y _ (S.grow j) M λT R s A=>?_
 obtain⟨b,rfl,E⟩:=(A.dt (S.grow j).dm).qq o;obtain⟨a,h,rfl,z,f⟩:=((P.grow s).dt S.dm).nq B;rcases f with ⟨_,f⟩|⟨W,V,f,N,K⟩
 . simp_all
 . rw[N]at g;cases g;exact⟨a,W,rfl,.inr ⟨h,k,b,.inl (G5.mp z).2.2,rfl,(G5.mp E).2.2,f.symm⟩,q _ _ (j.trans s) K⟩⟩
def NL{tx:TE}{Fx:DV}(V:c.A.units+1<U0)(o:PX c I e G D)(fr:PX c I r c6 d5)(F:PX c I c8 tx Fx)(m:M2 c e "get" p r c8 E:=by exact⟨rfl,rfl,rfl,rfl⟩):PX c I (.Call (.Attribute e "get" p) [r,c8] [] E) (Nj G c6 tx) (jE D d5 Fx):=⟨Uo V o.p fr.p F.p m,by
 intro O X C s H w pv Q S d q;obtain⟨x,h1,d⟩:=t5 d;obtain⟨y,h2,d⟩:=t5 d;obtain⟨z,B,d⟩:=t5 d;obtain⟨k,Y,d⟩:=t5 d;obtain⟨f,K,d⟩:=t5 d;cases d;refine o.t O X C s H w x _ S h1 λv R h M=>?_;obtain⟨a,u,rfl,N,_⟩:=(M.dt S.dm).nq K;refine⟨a,rfl,.inr ⟨u,.inl (G5.mp N).2.2⟩,?_⟩;refine fr.t O X C s R w y _ (S.grow h) h2 λv2 Z l W=>?_;refine F.t O X C s Z w z _ ((S.grow h).grow l) B λv3 H3 n P=>?_
 obtain⟨b,rfl,L⟩:=((W.grow n).dt (S.grow h).dm).qq Y;obtain⟨a',g,i,t,j⟩:=(((M.grow l).grow n).dt S.dm).nq K;cases i;rcases j with ⟨j,A⟩|⟨T,d',j,A,g4⟩
 refine⟨J,.inr ⟨g,k,b,.inl (G5.mp t).2.2,rfl,(G5.mp L).2.2,j.symm⟩,q _ _ ((h.trans l).trans n) ?_⟩;rw[A];exact(P.dt ((S.grow h).grow l).dm)
 . refine⟨U T,.inr ⟨g,k,b,.inl (G5.mp t).2.2,rfl,(G5.mp L).2.2,j.symm⟩,q _ _ ((h.trans l).trans n) ?_⟩;rw[A];exact g4⟩
def lB:f9->FV
 | .list l,[d]=>BY (.list (l.map un)) [un d]
 |_,_=>J
set_option tactic.hygienic true in
def NK{K':A6}(V:c.A.units+64<U0)(N:c.K=K')(u:PX c I r G D)(B:gm c I [e] P a2)(bm:autoParam (Ip c r "index" p e [] E) rK):
  PX c I (.Call (.Attribute r "index" p) [e] [] E) (Eo K' "list" (Jt K') G P) (sX lB D a2):=by
 subst N;refine⟨wC tJ AO RB (OR V) u.p B.p bm,?_⟩;intro O g X z H y pv Q S b q;obtain⟨x,h1,b⟩:=t5 b;obtain⟨l,h2,b⟩:=t5 b;refine u.t O g X z H y x _ S h1 λv R C r1=>?_;have w:=r1.dt S.dm;generalize x.d=xd at b w;unfold lB at b;split at b
 . rename_i M d;obtain⟨n,b⟩:=K9 b;obtain⟨j,L,b⟩:=t5 b;cases b;cases w with
   |lst m ht=>
    rename_i a T;refine⟨.inl ⟨rfl,_,D9.seq m⟩,?_⟩;refine B.t O g X z R y _ _ (S.grow C) h2 λvs Z s Y=>?_
    cases Y with
    |cons o t=>
     cases t;exact⟨a,T,M.map un,_,un d,j,rfl,rfl,s.seq (D9.seq m),((ht.same D9).same s).un,(o.same D9).un,n.1,n.2.1,n.2.2.1,n.2.2.2,L,q _ Z (C.trans s) (Dt.int _)⟩
 exact nE b
def S5.u1(r:S5 N A):A.units+1<U0:=by have:=r.un;lia
def S5.u2(r:S5 N A):A.units+2<U0:=by have:=r.un;lia
end L2
namespace Sx
variable{n j m:Nat}{p s x:Int}{w f:Nat->Int}{Z:Bool}{Y X:Nat->Nat}{S:Nat->Nat->Int}
def sm:Nat->(Nat->Int)->Int
 | 0,_=>0
 |n+1,f=>sm n f+f n
def C1(h:∀i,i<n->f i=w i):sm n f=sm n w:=by
 induction n with
 |zero=>rfl
 |succ n a=>rw[sm,sm,a λi b=>h i fF,h n C4]
def jw(h:∀i,i<n->f i=0):sm n f=0:=by
 induction n with
 |zero=>rfl
 |succ n a=>rw[sm,a λi b=>h i fF,h n C4];rfl
def jK(n:Nat)(f g:Nat->Int):sm n (λi=>f i+g i)=sm n f+sm n g:=by
 induction n with
 |zero=>rfl
 |succ n a=>rw[sm,sm,sm,a];lia
def M4(n:Nat)(a:Int)(f:Nat->Int):sm n (λi=>a*f i)=a*sm n f:=by
 induction n with
 |zero=>rw[sm,sm,X4]
 |succ n b=>rw[sm,sm,b,dX]
def Jh(n:Nat)(a:Int)(f:Nat->Int):sm n (λi=>f i*a)=sm n f*a:=by rw[K7,<-M4];exact C1 λi _=>K7 _ _
def X7{k:Nat}(a:k<n)(h:∀i,i<n->i≠k->f i=0):sm n f=f k:=by
 induction n with
 |zero=>simp_all
 |succ n d=>
  rw[sm];by_cases c:k=n;subst c;rw[jw λi b=>h i fF (S8 u4)];simp[*];rw[d (pV (mS u4) u4) λi b a=>h i fF a,h n C4 λz=>c z.symm];simp[*]
def a0S(a:j+1<n)(h:∀i,i<n->i≠j->i≠j+1->f i=0):sm n f=f j+f (j+1):=by
 induction n with
 |zero=>simp_all
 |succ n g=>
  rw[sm];by_cases c:j+1=n;subst c;rw[X7 C4 λi b a=>h i fF a (S8 u4)];rw[g (pV (mS u4) u4) λi b d e=>h i fF d e,h n C4 t9 λz=>c z.symm];simp[*]
def qQ(n m:Nat)(f:Nat->Nat->Int):sm n (λi=>sm m λj=>f i j)=sm m λj=>sm n λi=>f i j:=by
 induction n with
 |zero=>rw[sm];exact(jw λ_ _=>rfl).symm
 |succ n a=>
  rw[sm,a,<-jK];rfl
def jJ(n:Nat)(f g:Nat->Int):sm n (λi=>f i-g i)=sm n f-sm n g:=by
 have e:(λi=>f i-g i)=λi=>f i+(-1)*g i:=by funext i;lia
 rw[e,jK,M4];lia
def yH(f:Nat->Int)(a:j<n):sm n f=f j+sm n λi=>if i=j then 0 else f i:=by
 have:sm n f=sm n λi=>(if i=j then f j else 0)+(if i=j then 0 else f i):=C1 λi _=>by
  by_cases c:i=j;rw[r9 c,r9 c,c];simp[*];rw[s9 c,s9 c];simp[*]
 rw[this,jK,X7 a λi _ h=>by rw[s9 h],r9 rfl]
def skip(j c:Nat):Nat:=if c<j then c else c+1
noncomputable def det:Nat->(Nat->Nat->Int)->Int
 | 0,_=>1
 |n+1,M=>sm (n+1) λj=>(-1)^j*M j 0*det n λc r=>M (skip j c) (r+1)
def Yb(a:j<n+1)(b:m<n):skip j m<n+1:=by delta skip;split<;>lia
def Ya:skip j n≠j:=by delta skip;split<;>lia
def ak:∀{n:Nat}{M a:Nat->Nat->Int},(∀c r,c<n->r<n->M c r=a c r)->det n M=det n a:=by
 intro l_;induction l_ with
 |zero=>
  intro _ _ _;exact rfl
 |succ n ih_=>
  intro M a h;refine C1 λj b=>?_;rw[h j 0 b C4,ih_ λc r d e=>h _ _ (Yb b d) C4]
def J9(M:Nat->Nat->Int)(k:Nat)(v:Nat->Int):Nat->Nat->Int:=λc r=>if c=k then v r else M c r
def cj(M:Nat->Nat->Int)(k:Nat)(v:Nat->Int)(r:Nat):J9 M k v k r=v r:=by delta J9;simp
def aT(M:Nat->Nat->Int)(v:Nat->Int)(r:Nat)(h:j≠n):J9 M n v j r=M j r:=by delta J9;rw[s9 h]
def back(j k:Nat):Nat:=if k<j then k else k-1
def CH(h:n≠j):skip j (back j n)=n:=by
 delta back;by_cases c:n<j;rw[r9 c];delta skip;rw[r9 c];rw[s9 c];delta skip;rw[s9 t9];lia
def ZW(a:j<n+1)(b:m<n+1)(h:m≠j):back j m<n:=by delta back;split<;>omega
def SI(h:skip j n=skip j m):n=m:=by unfold skip at h;split at h<;>split at h<;>lia
def xb:∀{n k:Nat} (M:Nat->Nat->Int) (a b:Int) (u v:Nat->Int),k<n->det n (J9 M k λr=>a*u r+b*v r)=a*det n (J9 M k u)+b*det n (J9 M k v):=by
 intro l_;induction l_ with
 |zero=>
  intro k M a b u v h;exact nZ
 |succ n ih_=>
  intro k M a b u v h;rw[det,det,det,<-M4,<-M4,<-jK];refine C1 λj g=>?_;by_cases c:k=j
  . subst c;have e:∀w:Nat->Int,det n (λc r=>J9 M k w (skip k c) (r+1))=det n (λc r=>M (skip k c) (r+1)):=λw=>ak λc r _ _=>aT _ _ _ Ya;rw[e,e,e,cj,cj,cj];generalize (-1)^k=s;rw[dX,vB]
    congr 1
    rw[<-O0,<-O0,<-O0,K7 s a];rw[<-O0,<-O0,<-O0,K7 s b]
  . have e:∀w:Nat->Int,det n (λc r=>J9 M k w (skip j c) (r+1))=det n (J9 (λc r=>M (skip j c) (r+1)) (back j k) λr=>w (r+1)):=λw=>ak λf r _ _=>by
      delta J9;by_cases d:f=back j k;rw[r9 d,d,CH c,r9 rfl];rw[s9 d,s9 λz=>d (SI (by rw[z,CH c]))]
    rw[e,e,e,aT _ _ _ (λz=>c z.symm),aT _ _ _ (λz=>c z.symm),aT _ _ _ (λz=>c z.symm),ih_ _ a b (λr=>u (r+1)) (λr=>v (r+1)) (ZW g h c)];generalize (-1)^j*M j 0=s;rw[dX]
    congr 1
    rw[<-O0,<-O0,K7 s a];rw[<-O0,<-O0,K7 s b]
def Ko:∀{n k:Nat}{M:Nat->Nat->Int},k+1<n->(∀r,r<n->M k r=M (k+1) r)->det n M=0:=by
 intro l_;induction l_ with
 |zero=>
  intro k M h _
  simp_all
 |succ n ih_=>
  intro k M h e;rw[det,a0S h]
  . have b:det n (λc r=>M (skip k c) (r+1))=det n (λc r=>M (skip (k+1) c) (r+1)):=ak λc r _ a=>by
      by_cases d:c=k;subst d;rw[show skip c c=c+1 from by delta skip;rw[s9 C4],show skip (c+1) c=c from by delta skip;rw[r9 C4]];exact(e _ C4).symm;rw[show skip k c=skip (k+1) c from by delta skip;split<;>split<;>lia]
    rw[b,e 0 C4,Int.pow_succ];lia
  . intro j f g i;have:det n (λc r=>M (skip j c) (r+1))=0:=by
     by_cases c:j<k;refine ih_ (k:=k-1) t9 λr a=>?_;rw[show skip j (k-1)=k from by delta skip;rw[s9 bI];lia,show skip j (k-1+1)=k+1 from by delta skip;rw[s9 bI];lia];exact e _ C4;refine ih_ (k:=k) t9 λr a=>?_;rw[show skip j k=k from by delta skip;rw[r9 t9],show skip j (k+1)=k+1 from by delta skip;rw[r9 t9]];exact e _ C4
    simp_all
def oE(M:Nat->Nat->Int)(k:Nat):J9 M k (M k)=M:=by
 funext c r
 delta J9
 simp_all
def MU(M:Nat->Nat->Int)(k:Nat)(u v:Nat->Int):J9 (J9 M k u) k v=J9 M k v:=by
 funext c r
 delta J9
 simp_all
def jb(M:Nat->Nat->Int)(u v:Nat->Int)(h:n≠j):J9 (J9 M n u) j v=J9 (J9 M j v) n u:=by
 funext c r
 delta J9;by_cases a:c=j;rw[r9 a,s9 t9,r9 a];rw[s9 a];by_cases b:c=n;rw[r9 b,r9 b];rw[s9 b,s9 b,s9 a]
def Cq(M:Nat->Nat->Int)(u v:Nat->Int)(h:j<n):det n (J9 M j λr=>u r+v r)=det n (J9 M j u)+det n (J9 M j v):=by have:=xb M 1 1 u v h;simpa using this
def xx(b:m<n)(c:j<n)(a:m≠j)(M:Nat->Nat->Int)(z:∀w,det n (J9 (J9 M m w) j w)=0)(u v:Nat->Int):det n (J9 (J9 M m u) j v) = - det n (J9 (J9 M m v) j u):=by
 have h:=z λr=>u r+v r;rw[Cq _ _ _ c,jb _ _ _ a,jb _ _ _ a,Cq _ _ _ b,Cq _ _ _ b,jb _ _ _ a.symm,jb _ _ _ a.symm,jb _ _ _ a.symm,jb _ _ _ a.symm,z u,z v]at h;lia
def Ge:∀(d:Nat) {n a:Nat}{M:Nat->Nat->Int},a+d+1<n->(∀r,r<n->M a r=M (a+d+1) r)->det n M=0:=by
 intro l_;induction l_ with
 |zero=>
  intro n a M h e;exact Ko h e
 |succ d ih_=>
  intro n a M h e;have b:M=J9 (J9 M (a+d+1) (M (a+d+1))) (a+d+1+1) (M (a+d+1+1)):=by rw[oE,oE]
  rw[b,xx eI bI C4 M (λw=>Ko (k:=a+d+1) bI λr _=>by rw[aT _ _ _ C4,cj,cj])];rw[ih_ eI λr c=>?_];rfl;rw[aT _ _ _ t9,aT _ _ _ t9,aT _ _ _ C4,cj];exact e r c
def tq(f:m<n)(d:j<n)(c:m≠j)(e:∀r,r<n->S m r=S j r):det n S=0:=by
 rcases GJ m j with h|h
 refine Ge (j-m-1) (a:=m) bI λr b=>?_;rw[show m+(j-m-1)+1=j from by omega];exact e r b;refine Ge (m-j-1) (a:=j) bI λr b=>?_;rw[show j+(m-j-1)+1=m from by lia];exact(e r b).symm
def Vt(c:m<n)(b:j<n)(a:m≠j)(M:Nat->Nat->Int)(u v:Nat->Int):det n (J9 (J9 M m u) j v) = - det n (J9 (J9 M m v) j u):=
 xx c b a M (λw=>tq c b a λr _=>by rw[aT _ _ _ a,cj,cj]) u v
def Km(M:Nat->Nat->Int)(h:j<n)(a:Nat->Int)(V:Nat->Nat->Int):∀m,det n (J9 M j λr=>sm m λi=>a i*V i r)=sm m λi=>a i*det n (J9 M j (V i)):=by
 intro l_;induction l_ with
 |zero=>
  have:=xb M 0 0 (λ_=>0) (λ_=>0) h;simp only[cX]at this;exact this
 |succ m ih_=>
  have:=xb M 1 (a m) (λr=>sm m λi=>a i*V i r) (V m) h;simp only[bq]at this;show det n (J9 M j λr=>sm m (λi=>a i*V i r)+a m*V m r)=sm m (λi=>a i*det n (J9 M j (V i)))+a m*det n (J9 M j (V m));rw[this,ih_]
def Kn:∀n,det n (λc r=>if c=r then 1 else 0)=1:=by
 intro l_;induction l_ with
 |zero=>
  exact rfl
 |succ n ih_=>
  rw[det,X7 (k:=0) C4]
  . have e:det n (λc r=>if skip 0 c=r+1 then 1 else 0)=det n (λc r=>if c=r then 1 else 0):=ak λc r _ _=>by
      rw[show skip 0 c=c+1 from by delta skip;rw[s9 C4]];by_cases h:c=r;rw[r9 h,r9 C4];rw[s9 h,s9 C4]
    rw[e,ih_,r9 rfl];rfl
  intro j _ a;rw[s9 a,X4,cX]
def sN:Nat->(Nat->Nat)->Nat
 | 0,_=>0
 |n+1,f=>sN n f+f n
def pN:Nat->(Nat->Nat)->Nat
 | 0,_=>1
 |n+1,f=>pN n f*f n
def Nu(n:Nat)(f:Nat->Int):(sm n f).natAbs<=sN n λi=>(f i).natAbs:=by
 induction n with
 |zero=>exact V1 _
 |succ n a=>
  exact B7 (QL _ _) (Ra a _)
def DN(h:∀i,i<n->Y i<=X i):sN n Y<=sN n X:=by
 induction n with
 |zero=>exact V1 _
 |succ n a=>exact Ao (a λi b=>h i fF) (h n C4)
def a4c(h:∀i,i<n->Y i<=X i):pN n Y<=pN n X:=by
 induction n with
 |zero=>exact V1 _
 |succ n a=>exact An (a λi b=>h i fF) (h n C4)
def Ut(h:∀i,i<n->Y i=X i):pN n Y=pN n X:=by
 induction n with
 |zero=>rfl
 |succ n a=>rw[pN,pN,a λi b=>h i fF,h n C4]
def Yg(n:Nat)(f:Nat->Nat):sN (n+1) f=f 0+sN n λi=>f (i+1):=by
 induction n with
 |zero=>rw[sN,sN,sN];exact rR _ _
 |succ n a=>rw[sN,a,sN];exact Nat.add_assoc _ _ _
def Yh(n a:Nat)(f:Nat->Nat):sN n (λi=>f i*a)=sN n f*a:=by
 induction n with
 |zero=>rw[sN,sN,Nat.zero_mul]
 |succ n b=>rw[sN,sN,b,Nat.add_mul]
def TN(x y:Nat->Nat):∀n,sN (n+1) (λj=>x j*pN n λc=>y (skip j c))<=pN (n+1) λc=>x c+y c:=by
 intro l_;induction l_ with
 |zero=>
  simp[sN,pN]
 |succ n ih_=>
  rw[sN];have a:sN (n+1) (λj=>x j*pN (n+1) λc=>y (skip j c))<=sN (n+1) λj=>(x j*pN n λc=>y (skip j c))*y (n+1):=DN λj f=>by
   rw[pN,show skip j n=n+1 from by delta skip;rw[s9 t9],GQ];exact V1 _
  rw[Yh]at a;have b:pN (n+1) (λc=>y (skip (n+1) c))=pN (n+1) y:=Ut λc e=>by rw[show skip (n+1) c=c from by delta skip;rw[r9 e]]
  have d:pN (n+1) y<=pN (n+1) λc=>x c+y c:=a4c λc _=>by simp[*]
  rw[b];refine B7 (Ra a _) ?_;show _<=(pN (n+1) λc=>x c+y c)*(x (n+1)+y (n+1));rw[Nat.mul_add,rR,vG (x (n+1))];exact Ao (pX _ d) (pX _ (ih_))
def PY:∀(n:Nat) (M:Nat->Nat->Int),(det n M).natAbs<=pN n λc=>sN n λr=>(M c r).natAbs:=by
 intro l_;induction l_ with
 |zero=>
  intro M;simp[det,pN]
 |succ n ih_=>
  intro M;refine B7 (Nu _ _) ?_;have e:(λc=>sN (n+1) λr=>(M c r).natAbs)=λc=>(M c 0).natAbs+sN n λr=>(M c (r+1)).natAbs:=by funext c;rw[Yg]
  rw[e];refine B7 (DN λj a=>?_) (TN (λc=>(M c 0).natAbs) (λc=>sN n λr=>(M c (r+1)).natAbs) n)
  rw[fx,fx];have:((-1)^j).natAbs=1:=by simp
  rw[this,Nat.one_mul];exact Nat.mul_le_mul_left _ (ih_ _)
structure Pb where
 m:Nat
 n:Nat
 A:Nat->Nat->Int
 b:Nat->Int
 u:Nat->Option Int
 c:Nat->Nat->Int
variable{c:Pb}
structure Tb where
 B:Nat->Nat
 full:Nat->Bool
 size:Int
 inv:Nat->Nat->Int
 pr:Nat->Nat->Int
 rt:Nat->Int
variable{b:Tb}
def dot(m:Nat)(x y:Nat->Int):Int:=sm m λr=>x r*y r
def mz{x' y':Nat->Int}(h:∀r,r<m->w r=x' r)(h':∀r,r<m->f r=y' r):dot m w f=dot m x' y':=C1 λr a=>by rw[h r a,h' r a]
def Co(m l:Nat)(x:Nat->Int)(a:Nat->Int)(V:Nat->Nat->Int):dot m x (λr=>sm l λi=>a i*V i r)=sm l λi=>a i*dot m x (V i):=by
 delta dot;have:sm m (λr=>x r*sm l λi=>a i*V i r)=sm m λr=>sm l λi=>a i*(x r*V i r):=C1 λr _=>by rw[<-M4];exact C1 λi _=>by rw[<-O0,<-O0,K7 (x r)]
 rw[this,qQ];exact C1 λi _=>M4 _ _ _
def Kk(m:Nat)(a:Int)(x y:Nat->Int):dot m (λr=>a*x r) y=a*dot m x y:=by delta dot;rw[<-M4];exact C1 λr _=>O0 _ _ _
def ym(m:Nat)(a:Int)(x y:Nat->Int):dot m x (λr=>a*y r)=a*dot m x y:=by delta dot;rw[<-M4];exact C1 λr _=>by rw[<-O0,<-O0,K7 a]
def Ki(m:Nat)(x y z:Nat->Int):dot m x (λr=>y r-z r)=dot m x y-dot m x z:=by delta dot;rw[<-jJ];exact C1 λr _=>Int.mul_sub _ _ _
def unit(q:Nat):Nat->Int:=λp=>if p=q then 1 else 0
def tj(x:Nat->Int)(h:n<m):dot m x (unit n)=x n:=by
 delta dot;rw[X7 h λi _ a=>by delta unit;rw[s9 a,X4]];delta unit;simp
def MQ(x:Nat->Int)(h:n<m):(sm m λq=>x q*unit q n)=x n:=by
 rw[X7 h λi _ a=>by delta unit;rw[s9 (λz=>a z.symm),X4]];delta unit;simp
def MV(h:∀p,p<m->f p=w p):det m (J9 S n f)=det m (J9 S n w):=ak λc r _ a=>by
 delta J9
 simp_all
def Tb.M(P:Pb)(T:Tb):Nat->Nat->Int:=λk=>P.A (T.B k)
structure T4(P:Pb)(T:Tb):Prop where
 bn:∀k,k<P.m->T.B k<P.n
 inj:∀k l,k<P.m->l<P.m->T.B k=T.B l->k=l
 sg:∃s:Int,(s=1\/s = -1)/\s*T.size=det P.m (T.M P)/\∀r,r<P.m->∀x,s*dot P.m (T.inv r) x=det P.m (J9 (T.M P) r x)
 pos:0<T.size
 span:∀p q,p<P.m->q<P.m->sm P.m (λk=>T.inv k q*P.A (T.B k) p)=if p=q then T.size else 0
 pr:∀t q,q<P.m->T.pr t q=sm P.m λk=>P.c t (T.B k)*T.inv k q
def XU(h:s=1\/s = -1):s*s=1:=by rcases h with h|h<;>rw[h]<;>rfl
section
variable{P:Pb}{T:Tb}
def T4.left(L:T4 P T){r:Nat}(b:r<P.m)(g:n<P.m):dot P.m (T.inv r) (P.A (T.B n))=if r=n then T.size else 0:=by
 obtain⟨s,d,e,f⟩:=L.sg;have a:s*dot P.m (T.inv r) (P.A (T.B n))=s*(if r=n then T.size else 0):=by
  rw[(f r b (P.A (T.B n)))];by_cases c:r=n;subst c;rw[r9 rfl,e];exact C2 _ (oE (T.M P) r)
  . rw[s9 c,X4];exact tq b g c λp _=>by
     rw[cj,aT _ _ _ (λz=>c z.symm)];rfl
 have:s*(s*dot P.m (T.inv r) (P.A (T.B n)))=s*(s*(if r=n then T.size else 0)):=by rw[a]
 rw[<-O0,<-O0,XU d,bq,bq]at this;exact this
theorem T4.by(L:T4 P T)(x:Nat->Int)(a:n<P.m):(sm P.m λk=>dot P.m (T.inv k) x*P.A (T.B k) n)=T.size*x n:=by
 have:(sm P.m λk=>dot P.m (T.inv k) x*P.A (T.B k) n)=sm P.m λk=>sm P.m λq=>x q*(T.inv k q*P.A (T.B k) n):=C1 λk _=>by delta dot;rw[<-Jh];exact C1 λq _=>by rw[K7 (T.inv k q),O0]
 rw[this,qQ];have:(sm P.m λq=>sm P.m λk=>x q*(T.inv k q*P.A (T.B k) n))=sm P.m λq=>x q*(if n=q then T.size else 0):=C1 λq hq=>by rw[M4,L.span n q a hq]
 rw[this,X7 a λi _ b=>by rw[s9 (λz=>b z.symm),X4],r9 rfl,K7]
def T4.ratio(L:T4 P T)(u:s=1\/s = -1)(g:∀n,n<P.m->∀x,s*dot P.m (T.inv n) x=det P.m (J9 (T.M P) n x))(c:n<P.m)(f:j<P.m)(b:n≠j)(a x:Nat->Int):
  T.size*(s*det P.m (J9 (J9 (T.M P) j a) n x))=dot P.m (T.inv j) a*dot P.m (T.inv n) x-dot P.m (T.inv n) a*dot P.m (T.inv j) x:=by
 have:T.size*det P.m (J9 (J9 (T.M P) j a) n x)=det P.m (J9 (J9 (T.M P) j a) n λp=>sm P.m λk=>dot P.m (T.inv k) x*P.A (T.B k) p):=by
  have:=xb (J9 (T.M P) j a) T.size 0 x (λ_=>0) c;simp only[vF,cX]at this;rw[<-this];exact MV λp l=>(L.by x l).symm
 have:=Km (J9 (T.M P) j a) c (λk=>dot P.m (T.inv k) x) (λk=>P.A (T.B k)) P.m
 have t:(sm P.m λk=>dot P.m (T.inv k) x*det P.m (J9 (J9 (T.M P) j a) n (P.A (T.B k))))=sm P.m λk=>(if k=n then dot P.m (T.inv n) x*(s*dot P.m (T.inv j) a)else 0)+(if k=j then dot P.m (T.inv j) x*(-(s*dot P.m (T.inv n) a))else 0):=C1 λk o=>by
  by_cases d:k=n
  . subst d;rw[r9 rfl,s9 b,vF,g j f a]
    congr 1
    rw[jb _ _ _ b.symm];exact C2 (λz=>det P.m (J9 z j a)) (oE (T.M P) k)
  . by_cases e:k=j
    . subst e;rw[s9 d,r9 rfl,O8,g n c a]
      congr 1
      rw[Vt f c (λz=>b z.symm) (T.M P) a (P.A (T.B k))]
      congr 1
      exact C2 (λz=>det P.m (J9 z n a)) (oE (T.M P) k)
    rw[s9 d,s9 e];rw[tq o c d λp _=>by rw[aT _ _ _ d,aT _ _ _ e,cj];rfl];simp
 have r:(sm P.m λk=>if k=n then dot P.m (T.inv n) x*(s*dot P.m (T.inv j) a)else 0)=dot P.m (T.inv n) x*(s*dot P.m (T.inv j) a):=by rw[X7 c (λi _ h=>by rw[s9 h]),r9 rfl]
 have q:(sm P.m λk=>if k=j then dot P.m (T.inv j) x*(-(s*dot P.m (T.inv n) a))else 0)=dot P.m (T.inv j) x*(-(s*dot P.m (T.inv n) a)):=by rw[X7 f (λi _ h=>by rw[s9 h]),r9 rfl]
 rw[jK,r,q]at t;grind
def Tb.A3(P:Pb)(T:Tb)(a r:Nat):Int:=dot P.m (T.inv r) (P.A a)
def Tb.rest(P:Pb)(T:Tb)(t a:Nat):Int:=P.c t a*T.size-dot P.m (T.pr t) (P.A a)
structure Gv(P:Pb)(T:Tb)(a l:Nat)(g:Int)(T':Tb):Prop where
 b:∀k,k<P.m->T'.B k=if k=l then a else T.B k
 size:T'.size=g*T.A3 P a l
 il:∀q,q<P.m->T'.inv l q=g*T.inv l q
 ir:∀r q,r<P.m->q<P.m->r≠l->T.size*T'.inv r q=T.inv r q*(g*T.A3 P a l)-g*T.A3 P a r*T.inv l q
 pr:∀t q,q<P.m->T.size*T'.pr t q=T.pr t q*(g*T.A3 P a l)+g*T.rest P t a*T.inv l q
def T4.exact(L:T4 P T){l:Nat}(c:l<P.m)(g:Int):∀r q,r<P.m->q<P.m->r≠l->∃z,T.size*z=T.inv r q*(g*T.A3 P n l)-g*T.A3 P n r*T.inv l q:=λr q d hq b=>by obtain⟨s,h,i,f⟩:=L.sg;have e:=L.ratio h f d c b (P.A n) (unit q);rw[tj _ hq,tj _ hq]at e;refine⟨g*(s*det P.m (J9 (J9 (T.M P) l (P.A n)) r (unit q))),?_⟩;delta Tb.A3;grind
def wz(f:Nat->Int)(h:n<m)(g:Nat->Int):(sm m λk=>if k=n then g k else f k)=g n+(sm m f-f n):=by
 rw[yH _ h,r9 rfl,yH f h];have:(sm m λi=>if i=n then 0 else if i=n then g i else f i)=sm m λi=>if i=n then 0 else f i:=C1 λi _=>by simp_all
 lia
def yO(L:T4 P T)(t:Nat)(x:Nat->Int):dot P.m (T.pr t) x=sm P.m λk=>P.c t (T.B k)*dot P.m (T.inv k) x:=by
 delta dot;have:(sm P.m λr=>T.pr t r*x r)=sm P.m λr=>sm P.m λk=>P.c t (T.B k)*(T.inv k r*x r):=C1 λr a=>by rw[L.pr t r a,<-Jh];exact C1 λk _=>by rw[O0]
 rw[this,qQ];exact C1 λk _=>M4 _ _ _
def FZ(L:T4 P T)(d:j<P.m)(b:Nat->Nat->Int)(il:∀m,m<P.m->b j m=p*T.inv j m)(h:∀r m,r<P.m->m<P.m->r≠j->T.size*b r m=T.inv r m*(p*T.A3 P n j)-p*T.A3 P n r*T.inv j m)(t:Nat)(hq:m<P.m):
  T.size*(sm P.m λk=>P.c t (if k=j then n else T.B k)*b k m)=T.pr t m*(p*T.A3 P n j)+p*T.rest P t n*T.inv j m:=by
 have e:(T.size*sm P.m λk=>P.c t (if k=j then n else T.B k)*b k m)=sm P.m λk=>if k=j then T.size*(P.c t n*(p*T.inv j m))else(p*T.A3 P n j)*(P.c t (T.B k)*T.inv k m)-(p*T.inv j m)*(P.c t (T.B k)*T.A3 P n k):=by
  rw[<-M4];refine C1 λk f=>?_;by_cases c:k=j;subst c;rw[r9 rfl,r9 rfl,il m hq];rw[s9 c,s9 c];grind
 rw[e,wz _ d,jJ,M4,M4,<-L.pr t m hq];have:(sm P.m λk=>P.c t (T.B k)*T.A3 P n k)=dot P.m (T.pr t) (P.A n):=(yO L t (P.A n)).symm;delta Tb.rest;grind
def T4.a2X(L:T4 P T)(c:j<P.m)(g:Int)(t:Nat)(hq:m<P.m):∃z,T.size*z=T.pr t m*(g*T.A3 P n j)+g*T.rest P t n*T.inv j m:=by
 have:∃b:Nat->Nat->Int,(∀m,m<P.m->b j m=g*T.inv j m)/\∀r m,r<P.m->m<P.m->r≠j->T.size*b r m=T.inv r m*(g*T.A3 P n j)-g*T.A3 P n r*T.inv j m:=by
  refine⟨λr m=>if r=j then g*T.inv j m else(T.inv r m*(g*T.A3 P n j)-g*T.A3 P n r*T.inv j m)/T.size,λm _=>by simp,λr m e hq h=>?_⟩;simp only[s9 h];obtain⟨z,f⟩:=L.exact c g r m e hq h;rw[<-f,kj _ (by have:=L.pos;exact L9)]
 obtain⟨b,i,d⟩:=this;exact⟨_,FZ L c b i d t hq⟩
def gJ(h:0<p)(e:p*x=p*s):x=s:=AU L9 e
def T4.turn(L:T4 P T)(N:n<P.n)(F:∀k,k<P.m->T.B k≠n)(u:j<P.m)(v:p=1\/p = -1)(G:0<p*T.A3 P n j)(Uff:Gv P T n j p b):T4 P b:=by
 obtain⟨s,a,Q,C⟩:=L.sg;have H:∀r x,det P.m (J9 (b.M P) r x)=det P.m (J9 (J9 (T.M P) j (P.A n)) r x):=λr x=>ak λc l z _=>by
  delta J9 Tb.M;by_cases i:c=r;rw[r9 i,r9 i];rw[s9 i,s9 i,Uff.b c z];by_cases f:c=j;rw[r9 f,r9 f];rw[s9 f,s9 f]
 have O:det P.m (b.M P)=det P.m (J9 (T.M P) j (P.A n)):=ak λc l z _=>by
  delta J9 Tb.M;rw[Uff.b c z];by_cases f:c=j;rw[r9 f,r9 f];rw[s9 f,s9 f]
 have y:=L.pos;refine⟨λk d=>?_,λk D d h e=>?_,⟨s*p,?_,?_,λr w x=>?_⟩,by rw[Uff.size];exact G,λl q o hq=>?_,λt q hq=>?_⟩;rw[Uff.b k d];split;exact N;exact L.bn k d;rw[Uff.b k d,Uff.b D h]at e;split at e;rename_i i;split at e;rename_i f;rw[i,f];exact absurd e.symm (F D h);split at e;exact absurd e (F k d);exact L.inj k D d h e
 . rcases a with a|a<;>rcases v with v|v<;>rw[a,v]<;>decide
 rw[Uff.size,O,<-C j u (P.A n)];delta Tb.A3;grind
 . rw[H];by_cases c:r=j
   . subst c;rw[MU,<-C r w x];have:dot P.m (b.inv r) x=p*dot P.m (T.inv r) x:=by rw[<-Kk];exact mz (λq hq=>Uff.il q hq) λ_ _=>rfl
     grind
   . have:=L.ratio a C w u c (P.A n) x;refine gJ y ?_;have K:T.size*dot P.m (b.inv r) x=dot P.m (T.inv r) x*(p*T.A3 P n j)-p*T.A3 P n r*dot P.m (T.inv j) x:=by
      rw[<-Kk];have:dot P.m (λq=>T.size*b.inv r q) x=sm P.m λq=>(p*T.A3 P n j)*(T.inv r q*x q)-(p*T.A3 P n r)*(T.inv j q*x q):=C1 λq hq=>by simp only;rw[Uff.ir r q w hq c];grind
      rw[this,jJ,M4,M4];delta dot;rw[K7 (p*T.A3 P n j)]
     have E:T.size*(s*p*dot P.m (b.inv r) x)=s*p*(T.size*dot P.m (b.inv r) x):=by grind
     rw[E,K];delta Tb.A3;grind
 . refine gJ y ?_;have I:(T.size*sm P.m λk=>b.inv k q*P.A (b.B k) l)=sm P.m λk=>if k=j then T.size*(p*T.inv j q*P.A n l)else(p*T.A3 P n j)*(T.inv k q*P.A (T.B k) l)-(p*T.inv j q)*(T.A3 P n k*P.A (T.B k) l):=by
    rw[<-M4];refine C1 λk d=>?_;rw[Uff.b k d];by_cases c:k=j;subst c;rw[r9 rfl,r9 rfl,Uff.il q hq];rw[s9 c,s9 c];have:=Uff.ir k q d hq c;grind
   have E:(sm P.m λk=>T.A3 P n k*P.A (T.B k) l)=T.size*P.A n l:=(L.by (P.A n) o)
   rw[I,wz _ u,jJ,M4,M4,E,L.span l q o hq,Uff.size];split<;>grind
 . refine gJ y ?_;rw[Uff.pr t q hq,<-FZ L u b.inv Uff.il Uff.ir t hq]
   congr 1
   exact C1 λk d=>by rw[Uff.b k d]
end
def uv(P:Pb)(j:Nat):Int:=(P.u j).getD 0
def Tb.am(P:Pb)(T:Tb)(k:Nat):Int:=dot P.m (T.inv k) T.rt
def fsum(P:Pb)(T:Tb)(f:Nat->Int):Int:=sm P.n λj=>if T.full j=Uf then uv P j*f j else 0
def Tb.sg(T:Tb)(a:Nat):Int:=if T.full a=Uf then -1 else 1
def sJ(T:Tb)(a:Nat):(T.full a=Uf/\T.sg a = -1)\/(T.full a=U'/\T.sg a=1):=by delta Tb.sg;simp
structure Ok(P:Pb)(T:Tb):Prop where
 J6:T4 P T
 rt:∀p,p<P.m->T.rt p=P.b p-fsum P T λj=>P.A j p
 fu:∀j,j<P.n->T.full j=Uf->P.u j≠J/\∀k,k<P.m->T.B k≠j
 lo:∀k,k<P.m->0<=T.am P k
 hi:∀k v,k<P.m->P.u (T.B k)=U v->T.am P k<=v*T.size
def qo{T':Tb}(T:n<c.n)(h:∀j,j<c.n->T'.full j=if j=n then !b.full n else b.full j)(f:Nat->Int):fsum c T' f=fsum c b f+b.sg n*(uv c n*f n):=by
 delta fsum;rw[yH _ T,yH (λj=>if b.full j=Uf then uv c j*f j else 0) T,h n T,r9 rfl]
 have:(sm c.n λi=>if i=n then 0 else if T'.full i=Uf then uv c i*f i else 0)=sm c.n λi=>if i=n then 0 else if b.full i=Uf then uv c i*f i else 0:=C1 λi g=>by
  by_cases P:i=n;rw[r9 P,r9 P];rw[s9 P,s9 P,h i g,s9 P]
 rcases sJ b n with ⟨d,e⟩|⟨d,e⟩<;>rw[d,e]<;>simp<;>lia
def qm{T:Tb}(h:∀j,j<c.n->b.full j=T.full j)(f:Nat->Int):fsum c b f=fsum c T f:=C1 λj a=>by rw[h j a]
section
variable{P:Pb}{T T':Tb}
def T4.La(L:T4 P T)(a:n<P.m)(t:Nat):T.rest P t (T.B n)=0:=by
 delta Tb.rest;rw[yO L,X7 a λi b h=>by rw[L.left b a,s9 h,X4],L.left a a,r9 rfl];simp[*]
def T4.L5(L:T4 P T)(h:∀p,p<P.m->s*T.rt p=sm P.m λn=>w n*P.A (T.B n) p)(a:n<P.m):s*T.am P n=T.size*w n:=by
 delta Tb.am;rw[<-ym];have e:dot P.m (T.inv n) (λr=>s*T.rt r)=dot P.m (T.inv n) λr=>sm P.m λi=>w i*P.A (T.B i) r:=mz (λ_ _=>rfl) λr c=>h r c;rw[e,Co,X7 a λi b h=>by rw[L.left a b,s9 (λz=>h z.symm),X4],L.left a a,r9 rfl,K7]
def T4.SV(L:T4 P T)(a:n<P.m):(sm P.m λk=>T.am P k*P.A (T.B k) n)=T.size*T.rt n:=L.by T.rt a
structure vq(P:Pb)(T:Tb)(a:Nat)(top bot:Int):Prop where
 nn:0<=top
 pb:0<bot
 own:∀v,P.u a=U v->top<=v*bot
 dn:∀k,k<P.m->0<T.sg a*T.A3 P a k->top*(T.sg a*T.A3 P a k)<=T.am P k*bot
 up:∀k v,k<P.m->T.sg a*T.A3 P a k<0->P.u (T.B k)=U v->top*(-(T.sg a*T.A3 P a k))<=(v*T.size-T.am P k)*bot
structure MI(P:Pb)(T:Tb)(a:Nat)(T':Tb):Prop where
 b:∀k,k<P.m->T'.B k=T.B k
 size:T'.size=T.size
 inv:∀k q,k<P.m->q<P.m->T'.inv k q=T.inv k q
 pr:∀t q,q<P.m->T'.pr t q=T.pr t q
 full:∀j,j<P.n->T'.full j=if j=a then !T.full a else T.full j
 rt:∀p,p<P.m->T'.rt p=T.rt p-T.sg a*(uv P a*P.A a p)
def T4.same(L:T4 P T)(d:∀k,k<P.m->T'.B k=T.B k)(hs:T'.size=T.size)(f:∀k q,k<P.m->q<P.m->T'.inv k q=T.inv k q)(v:∀t q,q<P.m->T'.pr t q=T.pr t q):T4 P T':=by
 have j:∀c r,c<P.m->r<P.m->T'.M P c r=T.M P c r:=λc r g _=>by delta Tb.M;rw[d c g]
 obtain⟨s,n,o,u⟩:=L.sg;refine⟨λk a=>by rw[d k a];exact L.bn k a,λk l a i e=>L.inj k l a i (by rw[d k a,d l i]at e;exact e),⟨s,n,by rw[hs,o];exact(ak j).symm,λr h x=>?_⟩,by rw[hs];exact L.pos,λp q b hq=>?_,λt q hq=>?_⟩
 . rw[mz (λq hq=>f r q h hq) (λ_ _=>rfl),u r h x]
   exact ak λc p g b=>by
    delta J9;split;rfl;exact(j c p g b).symm
 . rw[hs,<-L.span p q b hq];exact C1 λk a=>by rw[f k q a hq,d k a]
 . rw[v t q hq,L.pr t q hq];exact C1 λk a=>by rw[f k q a hq,d k a]
def Ok.flip(K:Ok P T)(x:n<P.n)(t:∀k,k<P.m->T.B k≠n)(l:P.u n=U p)(S:vq P T n p 1)(F:MI P T n T'):Ok P T'/\∀k,k<P.m->T'.am P k=T.am P k-T.sg n*p*T.A3 P n k:=by
 have h:uv P n=p:=by delta uv;rw[l];rfl
 have am:∀k,k<P.m->T'.am P k=T.am P k-T.sg n*p*T.A3 P n k:=λk d=>by
  delta Tb.am Tb.A3;have e:dot P.m (T'.inv k) T'.rt=dot P.m (T.inv k) λa=>T.rt a-(T.sg n*p)*P.A n a:=mz (λq hq=>F.inv k q d hq) λa f=>by rw[F.rt a f,h,O0]
  rw[e,Ki,ym]
 refine⟨⟨(K.J6.same F.b F.size F.inv F.pr),λa f=>?_,λj o i=>?_,λk d=>?_,λk w d g=>?_⟩,am⟩;rw[F.rt a f,K.rt a f,qo x F.full];lia;rw[F.full j o]at i;by_cases c:j=n;subst c;exact⟨by rw[l];simp,λk d=>by rw[F.b k d];exact t k d⟩;rw[s9 c]at i;obtain⟨r,s⟩:=K.fu j o i;exact⟨r,λk d=>by rw[F.b k d];exact s k d⟩;rw[am k d];have:=K.lo k d;by_cases c:0<T.sg n*T.A3 P n k;have:=(S.dn k d) c;grind;have:=tK S.nn (Int.not_lt.1 u4);lia;rw[F.b k d]at g;rw[am k d,F.size];have:=K.hi k w d g;by_cases c:T.sg n*T.A3 P n k<0;have:=S.up k w d c g;grind;have:=iJ S.nn (Int.not_lt.1 u4);grind
structure Move(P:Pb)(T:Tb)(a l:Nat)(g:Int)(tp:Bool)(T':Tb):Prop where
 tn:Gv P T a l g T'
 full:∀j,j<P.n->T'.full j=if j=a then U' else if j=T.B l then tp else T.full j
 rt:∀p,p<P.m->T'.rt p=T.rt p+(if T.full a=Uf then uv P a*P.A a p else 0)-(if tp=Uf then uv P (T.B l)*P.A (T.B l) p else 0)
structure At(P:Pb)(T:Tb)(a l:Nat)(tp:Bool)(top bot:Int):Prop where
 dn:tp=U'->top=T.am P l/\bot=T.sg a*T.A3 P a l
 up:tp=Uf->top=uv P (T.B l)*T.size-T.am P l/\bot = -(T.sg a*T.A3 P a l)/\P.u (T.B l)≠J
noncomputable def oD(P:Pb)(T:Tb)(a l:Nat)(top bot:Int)(k:Nat):Int:=if k=l then T.size*(if T.full a=Uf then uv P a*bot-top else top)else T.am P k*bot-T.sg a*T.A3 P a k*top
def Nt(m:Nat)(x y:Int)(f g h:Nat->Int):(sm m λk=>(x*f k-y*g k)*h k)=x*(sm m λk=>f k*h k)-y*sm m λk=>g k*h k:=by
 rw[<-M4,<-M4,<-jJ];exact C1 λk _=>by grind
def Ok.BL(K:Ok P T)(t:T4 P T')(b:j<P.m)(A:At P T n j Z s x)(M:Move P T n j p Z T'){k:Nat}(f:k<P.m):(x*T.size)*T'.am P k=T'.size*oD P T n j s x k:=by
 refine t.L5 (λg i=>?_) f
 have e:(sm P.m λk=>oD P T n j s x k*P.A (T'.B k) g)=sm P.m λk=>if k=j then T.size*(if T.full n=Uf then uv P n*x-s else s)*P.A n g else(x*T.am P k-(T.sg n*s)*T.A3 P n k)*P.A (T.B k) g:=C1 λk f=>by
  rw[M.tn.b k f];delta oD;by_cases c:k=j;rw[r9 c,r9 c,r9 c];rw[s9 c,s9 c,s9 c];grind
 have r:(sm P.m λk=>T.A3 P n k*P.A (T.B k) g)=T.size*P.A n g:=K.J6.by (P.A n) i
 rw[e,wz _ b,Nt,K.J6.SV i,r,M.rt g i];have l:=A.dn;have h:=A.up;rcases sJ T n with ⟨o,q⟩|⟨o,q⟩<;>rw[o]<;>rw[q]at l h⊢ <;> cases Z
 obtain⟨d,a⟩:=l rfl;simp;grind;obtain⟨d,a,_⟩:=h rfl;simp;grind;obtain⟨d,a⟩:=l rfl;simp;grind;obtain⟨d,a,_⟩:=h rfl;simp;grind
def CU(h:0<x)(e:x*p<=x*s):p<=s:=AS e h
def Ok.move(K:Ok P T){a l:Nat}{g top bot:Int}{tp:Bool}(E:a<P.n)(H:∀k,k<P.m->T.B k≠a)(i:l<P.m)(N:g=1\/g = -1)(y:0<g*T.A3 P a l)(S:vq P T a top bot)(A:At P T a l tp top bot)(M:Move P T a l g tp T'):Ok P T':=by
 have C:=K.J6.turn E H i N y M.tn;have O:=K.J6.pos;have:=C.pos;have D:=S.pb;have am:=λk d=>K.BL C i A M (k:=k) d;have s:=H l i;have F:=M3 D O;refine⟨C,λp y=>?_,λj o f=>?_,λk d=>?_,λk w d q=>?_⟩
 . -- rights
   rw[M.rt p y,K.rt p y];have L:∃t:Tb,(∀j,j<P.n->t.full j=if j=a then U' else T.full j)/\fsum P t (λj=>P.A j p)=fsum P T (λj=>P.A j p)-(if T.full a=Uf then uv P a*P.A a p else 0):=by
    refine⟨{T with full:=λj=>if j=a then U' else T.full j},λj _=>rfl,?_⟩;cases h:T.full a;rw[qm (T:=T) λj _=>?_];simp;show(if j=a then U' else T.full j)=T.full j;split;rename_i c;rw[c,h];rfl;rw[qo E λj _=>?_];delta Tb.sg;rw[h];simp;rfl;show(if j=a then U' else T.full j)=if j=a then !T.full a else T.full j;rw[h];rfl
   obtain⟨t,x,W⟩:=L;have u:t.full (T.B l)=U':=by
    rw[x _ (K.J6.bn l i),s9 s];cases h:T.full (T.B l);rfl;exact absurd rfl ((K.fu _ (K.J6.bn l i) h).2 l i)
   have:fsum P T' (λj=>P.A j p)=fsum P t (λj=>P.A j p)+(if tp=Uf then uv P (T.B l)*P.A (T.B l) p else 0):=by
    cases tp
    . rw[qm (T:=t) λj o=>?_];simp;rw[M.full j o,x j o];by_cases c:j=a;rw[r9 c,r9 c];rw[s9 c,s9 c];split;rename_i e;rw[e];have:=u;rw[x _ (K.J6.bn l i),s9 s]at this;exact this.symm;rfl
    . rw[qo (K.J6.bn l i) λj o=>?_];delta Tb.sg;rw[u];simp;rw[M.full j o,u];by_cases c:j=a;rw[r9 c,s9 (λz=>s (by rw[<-z];exact c)),x j o,r9 c];rw[s9 c];split;rfl;rw[x j o,s9 c]
   lia
 . rw[M.full j o]at f;by_cases c:j=a;rw[r9 c]at f;exact nT f;rw[s9 c]at f;by_cases e:j=T.B l;rw[r9 e]at f;refine⟨by rw[e];exact(A.up f).2.2,λk d=>?_⟩;rw[M.tn.b k d];split;exact λz=>c z.symm;rename_i R;rw[e];exact λz=>R (K.J6.inj k l d i z);rw[s9 e]at f;obtain⟨u,I⟩:=K.fu j o f;refine⟨u,λk d=>?_⟩;rw[M.tn.b k d];split;exact λz=>c z.symm;exact I k d
 . -- from nought on
   have Q:0<=oD P T a l top bot k:=by
    delta oD;by_cases c:k=l
    . rw[r9 c];refine iJ eN ?_;split
      . rename_i f;obtain⟨v,G⟩:=Option.ne_none_iff_exists'.mp (K.fu a E f).1;have:=S.own v G;have r:uv P a=v:=by delta uv;rw[G];rfl
        rw[r];simp[*]
      exact S.nn
    rw[s9 c];by_cases e:0<T.sg a*T.A3 P a k;have:=S.dn k d e;lia;have:=RS (Int.not_lt.1 u4) S.nn;have:0<=T.am P k*bot:=iJ (K.lo k d) eN;lia
   have:0<=T'.size*oD P T a l top bot k:=iJ eN Q;rw[<-(am k d)]at this;exact CU F (by rw[X4];exact this)
 . have:=am k d;have V:oD P T a l top bot k<=w*(bot*T.size):=by
    rw[M.tn.b k d]at q;delta oD;by_cases c:k=l
    . rw[r9 c]at q⊢;have:=S.nn;have r:uv P a=w:=by delta uv;rw[q];rfl
      have:(if T.full a=Uf then uv P a*bot-top else top)<=w*bot:=by
       split;rw[r];lia;exact(S.own w q)
      have:=fX this (eN:0<=T.size);lia
    rw[s9 c]at q⊢;by_cases e:T.sg a*T.A3 P a k<0;have:=S.up k w d e q;grind;have:=iJ (Int.not_lt.1 u4) S.nn;have:=og (K.hi k w d q) (eN:0<=bot);lia
   have:T'.size*oD P T a l top bot k<=T'.size*(w*(bot*T.size)):=fX V eN;refine CU F ?_;lia
end
def Neg(w:Nat->Int):Prop:=w 0<0\/(w 0=0/\(w 1<0\/(w 1=0/\w 2<0)))
def Neg.mul(d:0<p)(h:Neg w):Neg λt=>p*w t:=by
 have m:∀x:Int,x<0->p*x<0:=λx c=>Int.mul_neg_of_pos_of_neg d c
 rcases h with h|⟨a,h|⟨b,h⟩⟩
 exact .inl (m _ h);exact .inr ⟨by simp[a],.inl (m _ h)⟩;exact .inr ⟨by simp[a],.inr ⟨by simp[b],m _ h⟩⟩
def Neg.congr{v:Nat->Int}(e:∀t,t<3->w t=v t)(h:Neg w):Neg v:=by unfold Neg at *;rw[e 0 f5,e 1 f5,e 2 f5]at h;exact h
def Neg.ra(d:0<p)(h:Neg λt=>p*w t):Neg w:=by
 have m:∀x:Int,p*x<0->x<0:=λx a=>Int.lt_of_not_ge λz=>by
  have:=iJ eN z;lia
 have z:∀x:Int,p*x=0->x=0:=λx a=>(Int.mul_eq_zero.mp a).resolve_left L9
 rcases h with h|⟨b,h|⟨c,h⟩⟩
 exact .inl (m _ h);exact .inr ⟨z _ b,.inl (m _ h)⟩;exact .inr ⟨z _ b,.inr ⟨z _ c,m _ h⟩⟩
def Neg.add{v:Nat->Int}(h:Neg w)(k:Neg v\/∀t,t<3->v t=0):Neg λt=>w t+v t:=by
 unfold Neg at *;rcases k with k|k
 lia;have:=k 0 f5;have:=k 1 f5;have:=k 2 f5;simp[*]
def jA(h:∀t,t<3->w t=0):¬Neg w:=by delta Neg;simp[*]
def tri(v:Nat->Int):Neg v\/Neg (λt=>-v t)\/∀t,t<3->v t=0:=by
 delta Neg;rcases Hy (v 0) 0 with a|a|a
 exact .inl (.inl a)
 . rcases Hy (v 1) 0 with b|b|b
   exact .inl (.inr ⟨a,.inl b⟩)
   . rcases Hy (v 2) 0 with c|c|c
     exact .inl (.inr ⟨a,.inr ⟨b,c⟩⟩);exact .inr (.inr λt h=>by rcases(by lia:t=0\/t=1\/t=2)with rfl|rfl|rfl<;>assumption);exact .inr (.inl (.inr ⟨by simp[a],.inr ⟨by simp[b],HG c⟩⟩))
   exact .inr (.inl (.inr ⟨by simp[a],.inl (HG b)⟩))
 exact .inr (.inl (.inl (HG a)))
def OM(h:¬Neg w)(k:¬Neg f):¬Neg λt=>w t+f t:=λn=>(tri f).elim k λz=>h ((n.add (z.imp_right λz t a=>by rw[z t a];rfl)).congr λt _=>Int.add_neg_cancel_right ..)
def Fd(a:0<=p)(h:¬Neg w):¬Neg λt=>p*w t:=by
 rcases HF a with a|a
 exact λz=>h (z.ra a);refine jA λt _=>?_;rw[<-a,cX]
def EZ(a:0<=p)(h:Neg w):¬Neg λt=>-(p*w t):=by
 rcases HF a with a|a
 intro n;have:=n.add (.inl (h.mul a));simp[Neg,Int.add_left_neg]at this;refine jA λt _=>?_;rw[<-a,cX];rfl
theorem WO{f:Nat->Nat->Int}:∀m,(∀r,r<m->¬Neg (f r))->¬Neg λt=>sm m λr=>f r t
 | 0,_=>jA λt _=>rfl
 |m+1,h=>OM (WO m λr a=>h r fF) (h m C4)
section
variable{P:Pb}{T T':Tb}
noncomputable def Tb.obj(P:Pb)(T:Tb)(t:Nat):Int:=T.size*fsum P T (P.c t)+sm P.m λk=>T.am P k*P.c t (T.B k)
def qj(L:T4 P T)(a t:Nat):(sm P.m λk=>T.A3 P a k*P.c t (T.B k))=P.c t a*T.size-T.rest P t a:=by
 have:(sm P.m λk=>T.A3 P a k*P.c t (T.B k))=dot P.m (T.pr t) (P.A a):=by rw[yO L];exact C1 λk _=>K7 _ _
 delta Tb.rest;lia
def Ok.Vl(K:Ok P T)(h:n<P.n)(g:P.u n=U p)(F:MI P T n T')(am:∀k,k<P.m->T'.am P k=T.am P k-T.sg n*p*T.A3 P n k)(t:Nat):T'.obj P t=T.obj P t+p*(T.sg n*T.rest P t n):=by
 have d:uv P n=p:=by delta uv;rw[g];rfl
 have e:(sm P.m λk=>T'.am P k*P.c t (T'.B k))=(sm P.m λk=>T.am P k*P.c t (T.B k))-(T.sg n*p)*sm P.m λk=>T.A3 P n k*P.c t (T.B k):=by
  rw[<-M4,<-jJ];refine C1 λk f=>?_;rw[am k f,F.b k f];grind
 delta Tb.obj;rw[e,F.size,qo h F.full,d,qj K.J6];grind
def PB(K:Ok P T)(r:n<P.n)(t:∀k,k<P.m->T.B k≠n)(l:j<P.m)(M:Move P T n j p Z T')(f:Nat->Int):fsum P T' f=fsum P T f-(if T.full n=Uf then uv P n*f n else 0)+(if Z=Uf then uv P (T.B j)*f (T.B j)else 0):=by
 have b:=t j l;have d:=K.J6.bn j l;have q:T.full (T.B j)=U':=by
  cases h:T.full (T.B j);rfl;exact absurd rfl ((K.fu _ d h).2 j l)
 delta fsum;have e:(sm P.n λa=>if T'.full a=Uf then uv P a*f a else 0)=sm P.n λa=>((if T.full a=Uf then uv P a*f a else 0)+(if a=n then -(if T.full n=Uf then uv P n*f n else 0)else 0))+(if a=T.B j then(if Z=Uf then uv P (T.B j)*f (T.B j)else 0)else 0):=C1 λa v=>by
  rw[M.full a v];by_cases c:a=n;have o:a≠T.B j:=λz=>b (by rw[<-z];exact c);simp;lia;by_cases o:a=T.B j;rw[o]at *;simp[b,q];simp[c,o]
 have s:(sm P.n λa=>if a=n then -(if T.full n=Uf then uv P n*f n else 0)else 0) = -(if T.full n=Uf then uv P n*f n else 0):=by rw[X7 r (λi _ h=>by rw[s9 h]),r9 rfl]
 have u:(sm P.n λa=>if a=T.B j then(if Z=Uf then uv P (T.B j)*f (T.B j)else 0)else 0)=(if Z=Uf then uv P (T.B j)*f (T.B j)else 0):=by rw[X7 d (λi _ h=>by rw[s9 h]),r9 rfl]
 rw[e,jK,jK,s,u];rfl
def Ok.UP(K:Ok P T)(r:n<P.n)(g:∀k,k<P.m->T.B k≠n)(h:j<P.m)(u:T4 P T')(A:At P T n j Z s x)(M:Move P T n j p Z T')(t:Nat):(x*T.size)*T'.obj P t=T'.size*(x*T.obj P t+s*(T.sg n*T.rest P t n)):=by
 have q:((x*T.size)*sm P.m λk=>T'.am P k*P.c t (T'.B k))=T'.size*sm P.m λk=>if k=j then T.size*(if T.full n=Uf then uv P n*x-s else s)*P.c t n else(x*T.am P k-(T.sg n*s)*T.A3 P n k)*P.c t (T.B k):=by
  rw[<-M4,<-M4];refine C1 λk o=>?_;rw[<-O0,K.BL u h A M o,M.tn.b k o];delta oD;by_cases c:k=j;rw[r9 c,r9 c,r9 c,O0];rw[s9 c,s9 c,s9 c];grind
 rw[wz _ h,Nt,qj K.J6]at q;delta Tb.obj;rw[dX,q,PB K r g h M];have d:=A.dn;have f:=A.up;rcases sJ T n with ⟨l,a⟩|⟨l,a⟩<;>rw[l]<;>rw[a]at d f⊢ <;> cases Z
 obtain⟨e,i⟩:=d rfl;simp;grind;obtain⟨e,i,_⟩:=f rfl;simp;grind;obtain⟨e,i⟩:=d rfl;simp;grind;obtain⟨e,i,_⟩:=f rfl;simp;grind
def cmp(P:Pb)(T' T:Tb)(t:Nat):Int:=T'.obj P t*T.size-T.obj P t*T'.size
def vj{T2:Tb}(t:Nat):T'.size*cmp P T2 T t=T.size*cmp P T2 T' t+T2.size*cmp P T' T t:=by delta cmp;grind
def Jk(L:T4 P T)(e:T4 P T')(d:∀n,n<P.m->T'.B n=T.B n)(b:∀p,p<P.m->T'.rt p=T.rt p)(c:n<P.m):T.size*T'.am P n=T'.size*T.am P n:=by
 refine e.L5 (λp a=>?_) c
 rw[b p a,<-L.SV a];exact C1 λi f=>by rw[d i f]
def Jj(K:Ok P T)(K':Ok P T')(b:∀j,j<P.n->T'.full j=T.full j)(a:n<P.m):T'.rt n=T.rt n:=by rw[K.rt n a,K'.rt n a,qm b]
def SQ(K:Ok P T)(K':Ok P T')(b:∀k,k<P.m->T'.B k=T.B k)(d:∀j,j<P.n->T'.full j=T.full j)(t:Nat):cmp P T' T t=0:=by
 have:(T.size*sm P.m λk=>T'.am P k*P.c t (T'.B k))=T'.size*sm P.m λk=>T.am P k*P.c t (T.B k):=by
  rw[<-M4,<-M4];refine C1 λk a=>?_;rw[<-O0,Jk K.J6 K'.J6 b (λp e=>Jj K K' d e) a,b k a,O0]
 delta cmp Tb.obj;rw[qm d];lia
structure S0(P:Pb)(T:Tb)(a:Nat):Prop where
 an:a<P.n
 u0:P.u a≠U 0
 neg:Neg λt=>T.sg a*T.rest P t a
def S0.nb(E:S0 P T a)(L:T4 P T):∀k,k<P.m->T.B k≠a:=λk b z=>by
 refine jA (λt _=>?_) E.neg;rw[<-z,L.La b,X4]
inductive Step(P:Pb)(T:Tb)(a:Nat)(top:Int)(T':Tb):Prop
 |flip {v}:P.u a=U v->top=v->vq P T a v 1->MI P T a T'->Step P T a top T'
 |move {l g tp bot}:l<P.m->(g=1\/g = -1)->0<g*T.A3 P a l->vq P T a top bot->At P T a l tp top bot->Move P T a l g tp T' ->
   (top=0->∀k,k<P.m->(0<T.sg a*T.A3 P a k/\T.am P k=0)\/(T.sg a*T.A3 P a k<0/\∃v,P.u (T.B k)=U v/\T.am P k=v*T.size)->T.B l<=T.B k)->Step P T a top T'
def Step.ok(S:Step P T a top T')(K:Ok P T)(E:S0 P T a):Ok P T':=by
 cases S with
 |flip d g b F=>exact(K.flip E.an (E.nb K.J6) d b F).1
 |move c f e b A M _=>exact K.move E.an (E.nb K.J6) c f e b A M
theorem Step.nn(S:Step P T a top T'):0<=top:=by
 cases S with
 |flip e c b F=>rw[c];exact b.nn
 |move d g f b A M _=>exact b.nn
set_option tactic.hygienic true in
def Step.a4q(S:Step P T a top T')(K:Ok P T)(E:S0 P T a):(0<top->Neg (cmp P T' T))/\(top=0->∀t,cmp P T' T t=0):=by
 have e:∃q:Int,(0<top->0<q)/\(top=0->q=0)/\∃d:Int,0<d/\∀t,d*cmp P T' T t=q*(T.sg a*T.rest P t a):=by
  cases S with
  |flip k m b F=>
   rename_i v;refine⟨top*T.size,λh=>M3 h K.J6.pos,λh=>by rw[h,cX],1,by decide,λt=>?_⟩;delta cmp;rw[(K.Vl E.an k F (K.flip E.an (E.nb K.J6) k b F).2) t,F.size,m];grind
  | @move l g s c j r o b A M u=>
   have f:=K.move E.an (E.nb K.J6) j r o b A M;refine⟨T'.size*top,λh=>M3 f.J6.pos h,λh=>by rw[h,X4],c,b.pb,λt=>?_⟩;have:=K.UP E.an (E.nb K.J6) j f.J6 A M t;delta cmp;grind
 obtain⟨q,p,q2,d,n,i⟩:=e;constructor;exact λh=>Neg.ra n ((E.neg.mul (p h)).congr λt _=>(i t).symm);intro h t;have:=i t;rw[q2 h,cX]at this;exact(Int.mul_eq_zero.mp this).resolve_left L9
end
def a1G:∀(N:Nat) (f:Nat->Nat),(∀i,i<=N->f i<N)->∃p q,p<q/\q<=N/\f p=f q:=by
 intro l_;induction l_ with
 |zero=>
  intro f h;exact absurd (h 0 G8) (vK _)
 |succ N ih_=>
  intro f h;by_cases c:∃p,p<=N/\f p=f (N+1);obtain⟨p,d,b⟩:=c;exact⟨p,N+1,Ay u4,V1 _,b⟩
  . have a:=λp j z=>c ⟨p,j,z⟩
    obtain⟨p,q,d,b,e⟩:=ih_ (λi=>if f i=N then f (N+1)else f i) λi g=>by have:=h i (vQ u4);have:=h (N+1) G8;have:=a i g;split<;>lia
    refine⟨p,q,d,vQ u4,?_⟩;have:=a p (B7 eI u4);have:=a q b;split at e<;>split at e<;>lia
def enc(b:Nat)(f:Nat->Nat):Nat->Nat
 | 0=>0
 |k+1=>enc b f k*b+f k
def zE:∀k,(∀i,i<k->Y i<n)->enc n Y k<n^k:=by
 intro l_;induction l_ with
 |zero=>
  intro _;simp[enc]
 |succ k ih_=>
  intro h;have:=h k C4;rw[enc,GI];have:(enc n Y k+1)*n<=n^k*n:=pX _ (ih_ λi a=>h i fF);lia
def Kh:∀k,(∀i,i<k->Y i<n)->(∀i,i<k->X i<n)->enc n Y k=enc n X k->∀i,i<k->Y i=X i:=by
 intro l_;induction l_ with
 |zero=>
  intro _ _ _ i a;exact nZ
 |succ k ih_=>
  intro hf hg e i a;rw[enc,enc]at e;have j:=hf k C4;have d:Y k=X k:=by have:=C2 (· % n) e;rw[Nat.add_mod,QD,rQ,Nat.mod_mod,QC j,Nat.add_mod,QD,rQ,Nat.mod_mod,QC (hg k C4)]at this;exact this
  by_cases c:i=k;rw[c];exact d
  . refine ih_ (λi a=>hf i fF) (λi a=>hg i fF) ?_ i (pV (mS u4) u4)
    have h:0<n:=by lia
    exact Nat.eq_of_mul_eq_mul_right h (by simp_all)
structure Chain(P:Pb) where
 T:Nat->Tb
 a:Nat->Nat
 top:Nat->Int
 cf:Nat->Bool
structure Chain.Ok{P:Pb}(C:Chain P):Prop where
 ok:∀i,Sx.Ok P (C.T i)
 en:∀i,S0 P (C.T i) (C.a i)
 cr:∀i,C.cf i=Uf->∀j,j<C.a i->¬S0 P (C.T i) j
 st:∀i,Step P (C.T i) (C.a i) (C.top i) (C.T (i+1))
 cn:∀i,C.cf (i+1)=Uf↔C.top i=0
def jY(P:Pb)(T:Tb)(j:Nat):Prop:=∃k,k<P.m/\T.B k=j
structure Bd(P:Pb)(T:Tb)(j:Nat)(τ:Bool):Prop where
 b:∀k,k<P.m->T.B k=j->T.am P k=if τ=Uf then uv P j*T.size else 0
 n:¬jY P T j->T.full j=τ
def good(P:Pb)(j:Nat)(τ:Bool):Prop:=uv P j≠0\/(P.u j=J/\τ=U')
section
variable{T:Tb}
def Bd.move{P:Pb}{T':Tb}{a:Nat}{l:Nat}{j:Nat}{g:Int}{bot:Int}{tp:Bool}{τ:Bool}(K:Ok P T)(K':Ok P T')(s:j<P.n)(t:a<P.n)(r:∀k,k<P.m->T.B k≠a)(o:l<P.m)(i:0<bot)(A:At P T a l tp 0 bot)(M:Move P T a l g tp T')(G:good P j τ)(B:Bd P T j τ):Bd P T' j τ:=by
 have p:=M3 i K.J6.pos;constructor
 . intro k d e;have am:=K.BL K'.J6 o A M d;rw[M.tn.b k d]at e;unfold oD at am;by_cases c:k=l
   . rw[r9 c]at e am;subst e;have nb:¬jY P T a:=λ⟨k,d,z⟩=>r k d z
     have:=B.n nb;refine gJ p ?_;cases τ<;>simp<;>grind
   . rw[s9 c]at e am;have:=B.b k d e;refine gJ p ?_;cases τ<;>simp<;>grind
 . intro nb;rw[M.full j s];by_cases c:j=a;exact absurd ⟨l,o,by rw[M.tn.b l o,r9 rfl,c]⟩ nb
   . rw[s9 c];by_cases h:j=T.B l
     . rw[r9 h];have f:=B.b l o h.symm;cases tp with
       |false=>
        have e:=(A.dn rfl).1;cases τ with
        |false=>rfl
        |true=>
         rw[<-e,r9 rfl]at f;rcases G with G|G
         have:=Int.mul_eq_zero.mp f.symm;lia;cases G.2
       |true=>
        obtain⟨e,_,q⟩:=A.up rfl;cases τ with
        |true=>rfl
        |false=>
         rw[f]at e;rcases G with G|G
         rw[<-h,s9 f5,vE]at e;have:=Int.mul_eq_zero.mp e.symm;lia;rw[<-h]at q;exact absurd G.1 q
     rw[s9 h];refine B.n λ⟨k,d,e⟩=>nb ⟨k,d,?_⟩;rw[M.tn.b k d,s9 λz=>h (by rw[<-e,z]),e]
def Bd.same(K:Ok c T)(K':Ok c b)(f:j<c.n)(P:∀k,k<c.m->b.B k=T.B k)(d:∀j,j<c.n->b.full j=T.full j)(B:Bd c T j Z):Bd c b j Z:=by
 constructor
 . intro k a e;rw[P k a]at e;have g:=Jk K.J6 K'.J6 P (λp h=>Jj K K' d h) a
   rw[B.b k a e]at g;refine gJ K.J6.pos ?_;cases Z<;>simp<;>grind
 intro nb;rw[d j f];exact B.n λ⟨k,a,e⟩=>nb ⟨k,a,by rw[P k a];exact e⟩
def SX(L:T4 c T)(a:T4 c b)(s t:Nat):T.size*b.rest c t s=b.size*T.rest c t s+sm c.m λr=>-(b.A3 c s r*T.rest c t (b.B r)):=by
 have d:(sm c.m λr=>b.A3 c s r*dot c.m (T.pr t) (c.A (b.B r)))=b.size*dot c.m (T.pr t) (c.A s):=by rw[<-Co,<-ym];exact mz (λ_ _=>rfl) λp e=>a.by (c.A s) e
 have P:(sm c.m λr=>-(b.A3 c s r*T.rest c t (b.B r)))=(sm c.m λr=>b.A3 c s r*dot c.m (T.pr t) (c.A (b.B r)))-T.size*sm c.m λr=>b.A3 c s r*c.c t (b.B r):=by
  rw[<-M4,<-jJ];refine C1 λr _=>?_;delta Tb.rest;grind
 rw[P,d,(qj a s t)];delta Tb.rest;grind
end
structure Zero(P:Pb)(T:Tb)(a:Nat)(T':Tb)(l:Nat)(tp:Bool)(bot:Int):Prop where
 hl:l<P.m
 pb:0<bot
 at_:At P T a l tp 0 bot
 mv:∃g,Move P T a l g tp T'
 tie:∀k,k<P.m->(0<T.sg a*T.A3 P a k/\T.am P k=0)\/(T.sg a*T.A3 P a k<0/\∃v,P.u (T.B k)=U v/\T.am P k=v*T.size)->T.B l<=T.B k
def Step.zero{T':Tb}(S:Step c b n 0 T')(E:S0 c b n):∃l tp bot,Zero c b n T' l tp bot:=by
 cases S with
 |flip f P T F=>exact absurd rfl (by have:=E.u0;rw[f,<-P]at this;exact this)
 | @move l g tp bot d i h T A M e=>exact⟨l,tp,bot,d,T.pb,A,⟨g,M⟩,e rfl⟩
section
variable{T:Tb}
def Zero.a4A(a:Zero c T n b m Z p)(h:jY c b j)(nb:¬jY c T j):j=n:=by
 obtain⟨g,M⟩:=a.mv;obtain⟨k,d,e⟩:=h;rw[M.tn.b k d]at e;by_cases P:k=m;rw[r9 P]at e;exact e.symm;rw[s9 P]at e;exact absurd ⟨k,d,e⟩ nb
def Zero.a3h(a:Zero c T n b m Z p)(h:jY c T j)(nb:¬jY c b j):j=T.B m:=by
 obtain⟨g,M⟩:=a.mv;obtain⟨k,d,e⟩:=h;by_cases P:k=m;rw[<-P];exact e.symm;exact absurd ⟨k,d,by rw[M.tn.b k d,s9 P];exact e⟩ nb
end
def lp{Q:Nat->Prop}(a:Q n)(hs:∀i,n<=i->i<j->Q i->Q (i+1)):∀i,n<=i->i<=j->Q i:=by
 intro i d hq;induction i with
 |zero=>
  have:n=0:=by simp_all
  rw[<-this];exact a
 |succ i b=>
  by_cases c:n=i+1;rw[<-c];exact a;exact hs i t9 u4 (b t9 eI)
def UJ{C:Chain c}(H:C.Ok){p:Nat}(hpq:p<n)(hz:∀i,p<=i->i<n->C.top i=0)(hc:∀i,p<=i->i<n->C.cf i=Uf)(hb:∀k,k<c.m->(C.T n).B k=(C.T p).B k)(hf:∀j,j<c.n->(C.T n).full j=(C.T p).full j):False:=by
 have zs:=λi y A=>by have s:=H.st i;rw[hz i y A]at s;exact s.zero (H.en i)
 have Y:∀i,¬jY c (C.T i) (C.a i):=λi ⟨k,I,e⟩=>(H.en i).nb (H.ok i).J6 k I e;have bpq:∀j,jY c (C.T n) j↔jY c (C.T p) j:=λj=>⟨λ⟨k,I,e⟩=>⟨k,I,by rw[<-hb k I];exact e⟩,λ⟨k,I,e⟩=>⟨k,I,by rw[hb k I];exact e⟩⟩
 have fick:∀j i k,p<=i->i<=n->p<=k->k<=n->¬jY c (C.T i) j->jY c (C.T k) j->∃V,p<=V/\V<n/\C.a V=j:=λj i k F L hk1 hk2 nb bk=>by
  apply vW;intro no;have R:∀x,p<=x->x<n->¬jY c (C.T x) j->¬jY c (C.T (x+1)) j:=λx y A E h4=>by obtain⟨l,N,bot,Z⟩:=zs x y A;exact no ⟨x,y,A,(Z.a4A h4 E).symm⟩
  exact lp (λz=>(lp nb (λx y A E=>R x t9 A E) n L G8) ((bpq j).mpr z)) (λx y A E=>R x y A E) k hk1 hk2 bk
 have mx:∃i1,p<=i1/\i1<n/\∀i,p<=i->i<n->C.a i<=C.a i1:=by
  have:∀d,p+d<n->∃i1,p<=i1/\i1<=p+d/\∀i,p<=i->i<=p+d->C.a i<=C.a i1:=by
   intro d;induction d with
   |zero=>
    intro _;refine⟨p,V1 _,by simp[*],λi y A=>?_⟩
    have:i=p:=by lia
    rw[this];exact V1 _
   |succ d ih=>
    intro hd;obtain⟨i1,y,A,E⟩:=ih eI;by_cases P:C.a (p+(d+1))<=C.a i1;refine⟨i1,y,vQ u4,λi K O=>?_⟩;by_cases e:i=p+(d+1);rw[e];exact P;exact E i K t9;refine⟨p+(d+1),by simp[*],V1 _,λi K O=>?_⟩;by_cases e:i=p+(d+1);rw[e];exact V1 _;have:=E i K t9;lia
  obtain⟨i1,y,A,E⟩:=this (n-1-p) bI;exact⟨i1,y,by omega,λi K O=>E i K bI⟩
 obtain⟨i1,F,S,W⟩:=mx;have lv:∃o l N bot,p<=o/\o<n/\Zero c (C.T o) (C.a o) (C.T (o+1)) l N bot/\(C.T o).B l=C.a i1:=by
  apply vW;intro no;have R:=λx y A E=>by apply vW;intro h4;obtain⟨l,N,bot,Z⟩:=zs x y A;exact no ⟨x,l,N,bot,y,A,Z,(Z.a3h E h4).symm⟩
  obtain⟨l,N,bot,Z⟩:=zs i1 F S;obtain⟨g,M⟩:=Z.mv;have b1:jY c (C.T (i1+1)) (C.a i1):=⟨l,Z.hl,by rw[M.tn.b l Z.hl,r9 rfl]⟩;exact Y i1 (lp (Q:=λx=>jY c (C.T x) (C.a i1)) ((bpq _).mp (lp (Q:=λx=>jY c (C.T x) (C.a i1)) b1 (λx y A E=>R x (br (mV u4 u4)) A E) n u4 G8)) (λx y A E=>R x y A E) i1 F eI)
 obtain⟨o,l,N,bot,L,X,Z,hl⟩:=lv;have bd:∀i,p<=i->i<n->good c (C.a i) ((C.T i).full (C.a i))/\∀x,p<=x->x<=n->Bd c (C.T x) (C.a i) ((C.T i).full (C.a i)):=λi y A=>by
  have hn:=(H.en i).an;have G:good c (C.a i) ((C.T i).full (C.a i)):=by
   cases e:c.u (C.a i)with
   |none=>
    refine .inr ⟨e,?_⟩;cases f:(C.T i).full (C.a i);rfl;exact absurd e ((H.ok i).fu _ hn f).1
   |some v=>
    refine .inl λz=>(H.en i).u0 ?_;unfold uv at z;rw[e]at z;have z':v=0:=z;rw[e,z']
  have R:∀x,p<=x->x<n->Bd c (C.T x) (C.a i) ((C.T i).full (C.a i))->Bd c (C.T (x+1)) (C.a i) ((C.T i).full (C.a i)):=λx K O B=>by obtain⟨l,N,bot,Z⟩:=zs x K O;obtain⟨g,M⟩:=Z.mv;exact B.move (H.ok x) (H.ok (x+1)) hn (H.en x).an ((H.en x).nb (H.ok x).J6) Z.hl Z.pb Z.at_ M G
  have B0:Bd c (C.T i) (C.a i) ((C.T i).full (C.a i)):=⟨λk I e=>absurd ⟨k,I,e⟩ (Y i),λ_=>rfl⟩;exact⟨G,lp ((lp B0 (λx K O g3=>R x (B7 u4 u4) O g3) n eI G8).same (H.ok n) (H.ok p) hn (λk I=>(hb k I).symm) λj hj=>(hf j hj).symm) R⟩
 have K1:=H.ok i1;have K2:=H.ok o;have tb2:jY c (C.T o) (C.a i1):=⟨l,Z.hl,hl⟩;have sne:C.a o≠C.a i1:=λz=>Y o (by rw[z];exact tb2)
 have nn1:=λi K O ne h=>by have:=W i K O;exact(H.cr i1 (hc i1 F S)) (C.a i) (pV u4 u4) ⟨(H.en i).an,(H.en i).u0,h⟩
 refine absurd (((H.en o).neg.mul K1.J6.pos).congr (v:=λt=>(C.T o).size*((C.T o).sg (C.a o)*(C.T i1).rest c t (C.a o))+sm c.m λr=>-(((C.T o).sg (C.a o)*(C.T o).A3 c (C.a o) r)*(C.T i1).rest c t ((C.T o).B r))) λt _=>?_) (OM (Fd (by have:=K2.J6.pos;exact eN) ?_) (WO c.m λr hr=>?_))
 . have:=(SX K1.J6 K2.J6 (C.a o)) t;have:(sm c.m λr=>-(((C.T o).sg (C.a o)*(C.T o).A3 c (C.a o) r)*(C.T i1).rest c t ((C.T o).B r)))=(C.T o).sg (C.a o)*sm c.m λr=>-((C.T o).A3 c (C.a o) r*(C.T i1).rest c t ((C.T o).B r)):=by
    rw[<-M4];refine C1 λr _=>?_;grind
   grind
 . -- the entering one
   by_cases P:jY c (C.T i1) (C.a o)
   . obtain⟨k,I,e⟩:=P;exact jA λt _=>by rw[<-e,K1.J6.La I,X4]
   . have f2:=((bd o L X).2 i1 F eI).n P;have:(C.T o).sg (C.a o)=(C.T i1).sg (C.a o):=by delta Tb.sg;rw[f2]
     rw[this];exact nn1 o L X sne
 . -- the chosen ones
   by_cases P:jY c (C.T i1) ((C.T o).B r)
   . obtain⟨k,I,e⟩:=P;exact jA λt _=>by rw[<-e,K1.J6.La I,X4];rfl
   . obtain⟨V,K,O,g3⟩:=fick ((C.T o).B r) i1 o F eI L eI P ⟨r,hr,rfl⟩;obtain⟨G,B⟩:=bd V K O;rw[g3]at G B;generalize hτ:(C.T V).full ((C.T o).B r)=τ at G B;have f1:=(B i1 F eI).n P;have am:=(B o L eI).b r hr rfl;by_cases ct:(C.T o).B r=C.a i1
     . -- the greatest
       have erl:=K2.J6.inj r l hr Z.hl (by rw[ct,hl])
       subst erl;have:=Z.pb;have dn:=Z.at_.dn;have R:=Z.at_.up;have etp:τ=N:=by
        cases N with
        |false=>
         cases τ with
         |false=>rfl
         |true=>
          have:=(dn rfl).1;rw[am,r9 rfl]at this;rcases G with G|G
          have:=Int.mul_eq_zero.mp this.symm;have:=K2.J6.pos;lia;cases G.2
        |true=>
         cases τ with
         |true=>rfl
         |false=>
          obtain⟨y,_,A⟩:=R rfl;rw[am]at y;rcases G with G|G
          rw[s9 f5,vE]at y;have:=Int.mul_eq_zero.mp y.symm;have:=K2.J6.pos;lia;exact absurd G.1 A
       have sg1:(C.T i1).sg ((C.T o).B r)=if N=Uf then -1 else 1:=by delta Tb.sg;rw[f1,etp]
       have ng:Neg λt=>(C.T i1).sg ((C.T o).B r)*(C.T i1).rest c t ((C.T o).B r):=by have:=(H.en i1).neg;rw[<-ct]at this;exact this
       rw[sg1]at ng;cases N with
       |false=>
        have:=EZ (p:=(C.T o).sg (C.a o)*(C.T o).A3 c (C.a o) r) t9 ng;simp at this;exact this
       |true=>
        have:=EZ (p:=-((C.T o).sg (C.a o)*(C.T o).A3 c (C.a o) r)) t9 ng;refine λz=>this (z.congr λt _=>?_);grind
     . have:(C.T o).B r<C.a i1:=by
         have:=W V K O;lia
       have hn:=nn1 V K O (by rw[g3];exact ct)
       have tie:=Z.tie r hr;cases τ with
       |false=>
        have:(C.T i1).sg ((C.T o).B r)=1:=by delta Tb.sg;rw[f1];rfl
        have:=Fd (p:=-((C.T o).sg (C.a o)*(C.T o).A3 c (C.a o) r)) t9 hn;refine λz=>this (z.congr λt _=>?_);grind
       |true=>
        have:(C.T i1).sg ((C.T o).B r) = -1:=by delta Tb.sg;rw[f1];rfl
        have:¬(C.T o).sg (C.a o)*(C.T o).A3 c (C.a o) r<0:=λz=>by
         obtain⟨v,hv⟩:=Option.ne_none_iff_exists'.mp ((K1.fu _ (K2.J6.bn r hr) f1).1);have euv:uv c ((C.T o).B r)=v:=by delta uv;rw[hv];rfl
         have:=tie (.inr ⟨z,v,hv,by rw[am,r9 rfl,euv]⟩);lia
        have:=Fd (Int.not_lt.1 u4) hn;refine λz=>this (z.congr λt _=>?_);grind
def UK{P:Pb}{C:Chain P}(H:C.Ok):False:=by
 have y:=λi k l=>(H.ok i).J6.bn k l
 let f:=λi j=>if (C.T i).full j=Uf then 1 else 0
 have o:∀i j,j<P.n->f i j<2:=λi j _=>by dsimp only[f];split<;>simp[*]
 let b:=λi=>(enc P.n (C.T i).B P.m*2^P.n+enc 2 (f i) P.n)*2+(if C.cf i=Uf then 1 else 0)
 have l:∀i,b i<(P.n^P.m*2^P.n)*2:=λi=>by have r:=zE P.m (y i);have u:=zE P.n (o i);have:(enc P.n (C.T i).B P.m+1)*2^P.n<=P.n^P.m*2^P.n:=pX _ r;dsimp only[b];split<;>lia
 obtain⟨p,q,x,_,e⟩:=a1G _ b λi _=>l i
 dsimp only[b]at e;have s:(enc P.n (C.T p).B P.m*2^P.n+enc 2 (f p) P.n)=(enc P.n (C.T q).B P.m*2^P.n+enc 2 (f q) P.n)/\(C.cf p=C.cf q):=by cases hp:C.cf p<;>cases hq:C.cf q<;>rw[hp,hq]at e<;>simp only[mW]at e<;>first|exact⟨by lia,rfl⟩|(exfalso;lia)
 obtain⟨s,Y⟩:=s;have R:0<2^P.n:=Nat.two_pow_pos _;have G:enc P.n (C.T p).B P.m=enc P.n (C.T q).B P.m:=by have:=C2 (· / 2^P.n) s;rw[vG,Nat.mul_add_div R,QB (zE P.n (o p)),vG,Nat.mul_add_div R,QB (zE P.n (o q))]at this;omega
 have V:enc 2 (f p) P.n=enc 2 (f q) P.n:=by rw[G]at s;simp_all
 have K:=λk l=>(Kh P.m (y p) (y q) G k l).symm
 have F:∀j,j<P.n->(C.T q).full j=(C.T p).full j:=λj hj=>by have:=Kh P.n (o p) (o q) V j hj;dsimp only[f]at this;cases r:(C.T p).full j<;>cases u:(C.T q).full j<;>rw[r,u]at this<;>simp at this<;>rfl
 have w:=λi=>(H.st i).a4q (H.ok i) (H.en i);have nn:=λi=>(H.st i).nn
 have le:∀d i,Neg (cmp P (C.T (i+d)) (C.T i))\/∀t,t<3->cmp P (C.T (i+d)) (C.T i) t=0:=by
  intro d;induction d with
  |zero=>intro i;exact .inr λt _=>by delta cmp;simp
  |succ d I=>
   intro i;have E:=λt=>vj (P:=P) (T:=C.T i) (T':=C.T (i+d)) (T2:=C.T (i+d+1)) t;have L:=(H.ok (i+d)).J6.pos;have S:=(H.ok (i+d+1)).J6.pos;by_cases c:0<C.top (i+d)
   . refine .inl (Neg.ra L (Neg.congr (λt _=>(E t).symm) (Neg.add (((w (i+d)).1 c).mul ((H.ok i).J6.pos)) ?_)))
     rcases I i with h|h
     exact .inl (h.mul S)
     . exact .inr λt g=>by rw[h t g,X4]
   . have z:=(w (i+d)).2 (by have:=nn (i+d);lia)
     rcases I i with h|h
     refine .inl (Neg.ra L (Neg.congr (λt _=>?_) (h.mul S)));have:=E t;rw[z t,X4,O8]at this;exact this.symm;refine .inr λt g=>?_;have:=E t;rw[z t,h t g,X4,X4,O8]at this;exact(Int.mul_eq_zero.mp this).resolve_left L9
 have a:∀i,p<=i->i<q->C.top i=0:=λi r u=>by
  apply vW;intro c;have X:0<C.top i:=by have:=nn i;lia
  have O:=le (i-p) p;rw[show p+(i-p)=i from by simp[*]]at O;have N:=le (q-(i+1)) (i+1);rw[show i+1+(q-(i+1))=q from Nat.add_sub_of_le u4]at N
  have Q:=(H.ok p).J6.pos;have M:=(H.ok (i+1)).J6.pos;have Z:Neg (cmp P (C.T (i+1)) (C.T p)):=by
   refine Neg.ra ((H.ok i).J6.pos) (Neg.congr (λt _=>((λt=>vj t) t).symm) (Neg.add (((w i).1 X).mul Q) ?_))
   rcases O with h|h
   exact .inl (h.mul M)
   . exact .inr λt g=>by rw[h t g,X4]
  have W:Neg (cmp P (C.T q) (C.T p)):=by
   refine Neg.ra M (Neg.congr (λt _=>?_) (Neg.add (Z.mul ((H.ok q).J6.pos)) (v:=λt=>(C.T p).size*cmp P (C.T q) (C.T (i+1)) t) ?_));rw[(λt=>vj (T':=C.T (i+1)) t) t];exact Int.add_comm _ _
   . rcases N with h|h
     exact .inl (h.mul Q)
     . exact .inr λt g=>by rw[h t g,X4]
  exact jA (λt _=>SQ (H.ok p) (H.ok q) K F t) W
 have A:C.cf q=Uf:=by
  have:=(H.cn (q-1)).mpr (a (q-1) t9 t9);rw[show q-1+1=q from by lia]at this;exact this
 have D:∀i,p<=i->i<q->C.cf i=Uf:=λi r u=>by
  by_cases c:i=p;rw[c,Y];exact A;have:=(H.cn (i-1)).mpr (a (i-1) t9 (Nat.sub_lt_of_lt u4));rw[show i-1+1=i from by lia]at this;exact this
 exact UJ H x a D K F
end Sx
namespace L2
open PySem PySem.Spec PyProof.Rows
def fj{α:Type}(l:List α)(k:Nat)(y:α):List α:=l.take k++y::l.drop k
def Js:V->List V->Hp->VK->Prop:=λx vs H Q=>∃l xs k y,x=.ref l/\vs=[.int ((k:Nat):Int),y]/\H l=U (.lst xs)/\xs.length<1000000/\k<=xs.length/\Q .non (upd H l (.lst (fj xs k y)))
def OQ{X:Cx}:Xv X "list.insert" Js:=by
 intro pins s σ H x vs v us Q I rx rv h;obtain⟨l,xs,k,y,rfl,rfl,hH,hz,hk,q⟩:=h;cases rx;obtain⟨u0,u,rfl,r0,ru⟩:=vals2 rv;obtain⟨t,rfl⟩:=r0;obtain⟨z,its,n,r,hl,e⟩:=I.Fm hH;have hx:=r.length;have s6:(1000000:Nat)<J4:=by decide
 have hf:Ii ((k:Nat):Int)=Uf:=by unfold Ii;simp;omega
 have hn:¬(!Builtin.List.listFitsIndex ((k:Nat):Int))=Uf:=by rw[hf];decide
 have hsz:its.toArray.size<=J4:=by rw[V2];omega
 have hk':(if ((k:Nat):Int)<0 then(((k:Nat):Int)+(its.toArray.size:Int)).toNat else min ((k:Nat):Int).toNat its.toArray.size)=k:=by
  rw[s9 (by omega),cA,V2];omega
 clear hf;generalize ((k:Nat):Int)=kk at *;refine ko F.slot_list_insert ⟨_,e,rfl⟩ F.entry_list_insert (F.args_list_insert_3 _ _ _) (PySem.AutoSeq1.list_insert_list_int_val_1 l its.toArray n kk t u hn hsz) ⟨e,?_⟩;refine⟨.non,_,I.LX (its':=fj its k u) hH e ?_ ?_ ?_,rfl,q⟩;show(its.toArray.extract 0 (if kk<0 then(kk+(its.toArray.size:Int)).toNat else min kk.toNat its.toArray.size)).push u++its.toArray.extract (if kk<0 then(kk+(its.toArray.size:Int)).toNat else min kk.toNat its.toArray.size)=_;rw[hk'];unfold fj;simp;exact HX (by rw[vN];exact V1 _);unfold fj;exact(r.take k).append (.cons ru (r.drop k));unfold fj;rw[T7,Y7,sj,vN];omega
def Cf(i:Nat)(Fk F:Ds->Option PV):Ds->Option Out:=λds=>(Fk ds).bind λkv=>(F ds).bind λpv=>match kv.d,ds[i]? with
 | .int k,U (U (.own l))=>if 0<=k/\k.toNat<=l.length/\l.length<1000000 then U (.next (ds.set i (U (.own (fj l k.toNat pv.d)))))else J
 |_,_=>J
section
set_option tactic.hygienic true in
def Yz{X:Cx}{e k o:Expr}{te tk:TE}{F Fk:Ds->Option PV}{pos cpos apos:Pos}(i:Nat)(ho:PE X o (S3 i))(hk:PX X Uf k tk Fk)(he:PX X Uf e te F)(hst2:autoParam (hI X e []) w4)(bm:autoParam (Ip X o "insert" apos k [e] cpos) rK)(hs:autoParam (bG (.Call (.Attribute o "insert" apos) [k,e] [] cpos) J pos.line X.env=pure U') w4):
  T3 X (.Expr (.Call (.Attribute o "insert" apos) [k,e] [] cpos) pos) (sF (Eo X.K "list" Js (S3 i) (jI tk (jI te qF)))) (Cf i Fk F):=
 ⟨ow (wC tJ PySem.F.slot_list_insert PySem.F.type_list_insert OQ ho (fK hk.p (fK he.p oP hst2) bm.s) bm) hs,by
 intro O F6 as σ H ds D o S h q;unfold Cf at h;cases e1:Fk ds with
 |none=>rw[e1]at h;cases h
 |some kv=>
  cases e2:F ds with
  |none=>rw[e1,e2]at h;cases h
  |some pv=>
   rw[e1,e2]at h;simp only[A4]at h;split at h;rename_i kk l hkk hd;split at h;rename_i hl;obtain⟨hl0,hl1,hl2⟩:=hl;cases h;obtain⟨a,xs,z1,z2,z3,z4⟩:=S.slot i _ hd;refine⟨_,z1,.inl ⟨rfl,xs,O2.of z3⟩,?_⟩;refine hk.t O F6 as σ H ds kv _ S e1 λw H1 s1 r1=>?_;have dk:=r1.dt S.dm;rw[hkk]at dk;cases dk;have S1:=S.grow s1;refine he.t O F6 as σ H1 ds pv _ S1 e2 λv H2 s2 r2=>?_;have hx:=z4.length;refine⟨a,xs,kk.toNat,v,rfl,by rw[HK hl0],s2 _ _ (s1 _ _ z3),by omega,by omega,q as σ _ ?_⟩;have zz:=(z4.same (Q7 s1)).same (Q7 s2);unfold fj;exact(S1.grow s2).turn hd z1 ((zz.take _).append (.cons (r2.dt S1.dm) (zz.drop _)));cases h
   . cases h⟩
end
end L2
namespace Law
open PySem L2
section
abbrev u5:=u7 0
abbrev A2:=u7 1
abbrev C3:=u7 2
abbrev J1:=u7 3
abbrev L7:=u7 4
abbrev R6:=u7 5
abbrev aU:=u7 6
abbrev ij:=u7 7
abbrev dN:=u7 8
abbrev uH:=u7 9
abbrev oK:=u7 10
abbrev xO:=u7 11
abbrev B3:=fC (.int 0)
abbrev A1:=fC (.int 1)
abbrev K5:=fC (.int 2)
abbrev bE:=fC (.int 3)
abbrev jP:=fC (.int 4)
abbrev gZ:=fC (.int 5)
abbrev rd:=fC (.int 6)
abbrev yW:=fC (.int 8)
abbrev BH:=fC (.int 10)
abbrev LK:=fC (.int 11)
abbrev oS:=fC (.int 12)
abbrev BG:=fC (.int 13)
abbrev LJ:=fC (.int 20)
abbrev LI:=fC (.int 40)
abbrev cM:=fC .none
abbrev B2(a:DV):=t4 a B1
abbrev v8(a b:DV):=t4 a (t4 b B1)
abbrev F8(a b c:DV):=t4 a (t4 b (t4 c B1))
abbrev pq(a b c d:DV):=t4 a (t4 b (t4 c (t4 d B1)))
abbrev xA(a b c d e:DV):=t4 a (t4 b (t4 c (t4 d (t4 e B1))))
abbrev Qn(a b c d e f:DV):=t4 a (t4 b (t4 c (t4 d (t4 e (t4 f B1)))))
abbrev f6:=u3 K6
abbrev D5:=u3 aG
abbrev O4:f9:=(.tuple [(.int 0),(.int 1)])
abbrev lI:f9:=(.tuple [(.int 0),(.int 1),(.int 2)])
abbrev N7:f9:=(.tuple [(.int 0),(.int 1)])
abbrev rJ:f9:=(.tuple [(.tuple [(.int 0),(.int 1)]),(.tuple [(.int 0),(.int 1)]),(.tuple [(.int 0),(.int 1)])])
abbrev Gq:f9:=(.tuple [(.tuple [(.int 1),(.int 1)]),(.tuple [(.int 0),(.int 1)]),(.tuple [(.int 0),(.int 1)])])
abbrev yq:f9:=(.tuple [(.tuple [(.int 0),(.int 1)]),(.tuple [(.int 1),(.int 1)]),(.tuple [(.int 0),(.int 1)])])
def dg:DB:=A9 (u3 dE A2 B3)
def dh:DO:=t8 (u6 2 (u3 fh u5 A2)) (t8 (u6 0 A2) (u6 1 C3))
def R1:FV:=J5 2 3 (t8 (jS (za 1) dg dh) (av 0))
def ah:FV:=J5 2 3 (t8 (M0 (A9 (u3 X0 A2 B3)) ve F4) (t8 (u6 2 (f7 R1 (v8 (f7 pz (B2 u5)) (f7 pz (B2 A2))))) (t8 (M0 (A9 (u3 oV A2 B3)) (u6 2 (iy dD C3)) F4) (C9 (v9 (v8 (u3 Z7 u5 C3) (u3 Z7 A2 C3)))))))
def kM:FV:=J5 2 5 (t8 (u6 2 (f7 R1 (v8 (f6 u5 A1) (f6 A2 A1)))) (t8 (u6 3 (u3 C8 (D5 (f6 u5 B3) (u3 Z7 (f6 A2 A1) C3)) (D5 (f6 A2 B3) (u3 Z7 (f6 u5 A1) C3)))) (t8 (u6 4 (f7 R1 (v8 (f7 pz (B2 J1)) C3))) (C9 (v9 (v8 (u3 Z7 J1 L7) (D5 (u3 Z7 (f6 u5 A1) C3) (u3 Z7 (f6 A2 A1) L7))))))))
def cJ:FV:=J5 2 2 (C9 (f7 kM (v8 u5 (v9 (v8 (iy dD (f6 A2 B3)) (f6 A2 A1))))))
def aL:FV:=J5 2 5 (t8 (u6 2 (f7 R1 (v8 (f7 pz (B2 (f6 u5 B3))) (f6 A2 A1)))) (t8 (u6 3 (f7 R1 (v8 (f7 pz (B2 (f6 A2 B3))) (f6 u5 A1)))) (t8 (u6 4 (D5 (u3 Z7 (f6 u5 B3) C3) (u3 Z7 (f6 A2 B3) J1))) (C9 (v9 (v8 L7 (D5 (u3 Z7 (f6 u5 A1) J1) (u3 Z7 (f6 A2 A1) C3))))))))
def Be:FV:=J5 2 2 (t8 (M0 (A9 (u3 X0 (f6 A2 B3) B3)) ve F4) (C9 (f7 aL (v8 u5 (f7 ah (v8 (f6 A2 A1) (f6 A2 B3)))))))
def lO:FV:=J5 2 2 (C9 (u3 oV (D5 (f6 u5 B3) (f6 A2 A1)) (D5 (f6 A2 B3) (f6 u5 A1))))
def aE:DO:=u6 1 (D5 (f6 (f7 ah (v8 A2 C3)) B3) C3)
def P0:FV:=J5 1 3 (t8 (u6 1 A1) (t8 (G0 (N2 u5) (D7 2) aE) (av 1)))
def lM:FV:=J5 2 2 (C9 (D5 (f6 u5 B3) (u3 Z7 A2 (f6 u5 A1))))
def pZ:DV:=f6 (f6 u5 C3) A1
def kJ:FV:=J5 2 2 (C9 (f7 P0 (B2 (D0 (N2 u5) C6 C5 pZ))))
def aq:DV:=v9 (v8 u5 (f7 lM (v8 (f6 A2 J1) L7)))
def ao:DB:=A9 (u3 dE (f6 A2 J1) (fC O4))
def iN:FV:=J5 3 3 (C9 (D0 (F3 cQ (B2 u5)) (U4 2) ao aq))
def oh:FV:=J5 2 3 (t8 (U5 2 (u3 fR (N6 (B2 B3)) u5)) (t8 (Y4 2 A2 A1) (av 2)))
def qJ:DV:=D5 u5 A2
def mZ:FV:=J5 2 2 (C9 (f7 Bo (B2 (D0 (F3 eu (v8 u5 A2)) (U4 2) C5 qJ))))
def Y2:DV:=D5 (f6 C3 u5) A2
def aM:FV:=J5 2 2 (C9 (f7 Bo (B2 (D0 (N2 A2) (U4 2) C5 Y2))))
def tO:DV:=u3 Z7 (u3 di (D5 u5 R6) (D5 L7 A2)) aU
def ji:FV:=J5 5 5 (t8 (M0 (fO (A9 (u3 X0 C3 B3)) (A9 (u3 X0 J1 L7))) (av 0) F4) (C9 (D0 (F3 eu (v8 u5 A2)) (U4 2) C5 tO)))
def dM:DV:=f6 (f6 (J7 "Table" "weights" A2) C3) u5
def V3:FV:=J5 2 2 (C9 (D0 (N2 (J7 "Table" "chosen" u5)) C6 C5 dM))
def bS:DV:=jD (A9 (u3 oX u5 cM)) cM (f7 aL (v8 u5 (v9 (v8 A1 A2))))
def bR:DV:=f6 u5 A1
def V4:DV:=f6 u5 A1
def V0:DB:=A9 (u3 iw u5 cM)
def bQ:DV:=f7 lM (v8 u5 (P9 "Table" 1 "unit"))
def bP:DV:=jD (A9 (u3 oX u5 cM)) cM (f7 lM (v8 u5 (P9 "Table" 1 "unit")))
def de:List PV->Option (PV×Ds):=rF 3 5 (t8 (u6 3 (D0 (F3 eu (v8 C3 (P9 "Table" 0 "scales"))) (U4 2) C5 bS)) (t8 (u6 4 (u3 C8 (D0 (N2 A2) C6 C5 bR) (D0 (N2 J1) C6 V0 V4))) (t8 (Z5 "Table" 0 "unit" jX (f7 P0 (B2 L7))) (t8 (Z5 "Table" 0 "rights" iS (D0 (N2 A2) C6 C5 bQ)) (Z5 "Table" 0 "limits" jX (D0 (N2 J1) C6 C5 bP))))))
def Y3:DV:=f7 aL (v8 (f6 u5 L7) (v9 (v8 A2 A1)))
def eV:DV:=f6 u5 A1
def eU:DV:=f7 lM (v8 u5 R6)
def bx:DO:=t8 (u6 3 (D0 (F3 eu (v8 A2 (P9 "Table" 0 "scales"))) (U4 2) C5 Y3)) (t8 (u6 4 (f7 P0 (B2 (D0 (N2 J1) C6 C5 eV)))) (t8 (nX "Table" 0 "multiples" L7) (nX "Table" 0 "weights" (D0 (N2 J1) C6 C5 eU))))
def cC:List PV->Option (PV×Ds):=rF 2 5 (t8 (Z5 "Table" 0 "multiples" iS (N6 B1)) (t8 (Z5 "Table" 0 "weights" iS (N6 B1)) (G0 (N2 (fC lI)) (D7 2) bx)))
def jq:DV:=f7 kJ (v8 J1 u5)
def jo:DV:=f7 iN (F8 L7 u5 A2)
def jn:DV:=f7 oh (v8 (f7 C7 (B2 aU)) u5)
def jm:DV:=aJ (Z8 "Table" "first_prices" V3 (U6 1) (B2 u5))
def bY:List PV->Option (PV×Ds):=rF 6 6 (t8 (Z5 "Table" 0 "scales" jX (D0 (F3 G9 (B2 (f7 C7 (B2 A2)))) C6 C5 jq)) (t8 (Z5 "Table" 0 "columns" jX (D0 (F3 cQ (B2 (P9 "Table" 0 "scales"))) (U4 2) C5 jo)) (t8 (R8 (W9 "Table" "set_weights" 0 cC (Q6 A2 fN))) (t8 (R8 (W9 "Table" "set_limits" 0 de (Q6 J1 (Q6 L7 fN)))) (t8 (Z5 "Table" 0 "chosen" iS (f7 wK (B2 R6))) (t8 (Z5 "Table" 0 "full" iS (u3 fR (N6 (B2 (fC (.bool U')))) (f7 C7 (B2 A2)))) (t8 (Z5 "Table" 0 "size" jX A1) (t8 (Z5 "Table" 0 "inverse" jX (D0 (F3 G9 (B2 (f7 C7 (B2 R6)))) C6 C5 jn)) (Z5 "Table" 0 "prices" iS (D0 (N2 (fC lI)) C6 C5 jm))))))))))
def cw:FV:=J5 3 3 (C9 (u3 di (D5 (f6 (f6 (J7 "Table" "weights" u5) A2) C3) (J7 "Table" "size" u5)) (f7 aM (v8 (f6 (J7 "Table" "prices" u5) A2) (f6 (J7 "Table" "columns" u5) C3)))))
def ig:DV:=f7 mZ (v8 u5 (J7 "Table" "rights" A2))
def ai:FV:=J5 1 1 (C9 (D0 (N2 (J7 "Table" "inverse" u5)) C6 C5 ig))
def kT:DV:=f7 aM (v8 u5 (f6 (J7 "Table" "columns" A2) C3))
def bC:FV:=J5 2 2 (C9 (D0 (N2 (J7 "Table" "inverse" u5)) C6 C5 kT))
def eY:DO:=cN "Table" 0 "rights" J1 (u3 C8 (jU "Table" 0 "rights" J1) (D5 C3 L7))
def U2:List PV->Option (PV×Ds):=rF 2 5 (t8 (u6 2 (jD (A9 (jU "Table" 0 "full" A2)) (f6 (P9 "Table" 0 "limits") A2) (iy dD (f6 (P9 "Table" 0 "limits") A2)))) (t8 (cN "Table" 0 "full" A2 (Ci (jU "Table" 0 "full" A2))) (G0 (N2 (f6 (P9 "Table" 0 "columns") A2)) (du 2 (M1 3 (M1 4 dA))) eY)))
def eX:DO:=t8 (u6 8 (D5 (iy dD L7) (aJ (Z8 "Table" "rest" cw (U6 0) (v8 ij A2))))) (cN "Table" 0 "prices" ij (f7 ji (xA (jU "Table" 0 "prices" ij) aU dN R6 (P9 "Table" 0 "size"))))
def gW:DV:=f7 ji (xA u5 dN (D5 aU A2) ij (P9 "Table" 2 "size"))
def eT:DV:=D5 R6 u5
def gF:List PV->Option (PV×Ds):=rF 4 10 (t8 (M0 (A9 (jU "Table" 0 "full" A2)) (R8 (W9 "Table" "flip" 0 U2 (Q6 A2 fN))) F4) (t8 (u6 4 (jD (A9 (u3 nK (f6 J1 C3) B3)) A1 (iy dD A1))) (t8 (u6 5 (D5 L7 (f6 J1 C3))) (t8 (u6 6 (f6 (P9 "Table" 0 "inverse") C3)) (t8 (G0 (N2 (fC lI)) (D7 7) eX) (t8 (U5 9 (D0 (F3 eu (v8 (P9 "Table" 0 "inverse") J1)) (U4 2) C5 gW)) (t8 (Y4 9 C3 (D0 (N2 aU) C6 C5 eT)) (t8 (wY 9 (Z5 "Table" 0 "inverse" jX uH)) (t8 (Z5 "Table" 0 "size" jX R6) (cN "Table" 0 "chosen" C3 A2))))))))))
def mh:DO:=t8 (u6 4 (D5 C3 (Z8 "Table" "rest" cw u5 (v8 J1 A2)))) (M0 (A9 (u3 dE L7 B3)) (C9 (jD (A9 (u3 oV L7 B3)) (v9 (v8 J1 L7)) cM)) F4)
def ni:FV:=J5 2 5 (t8 (M0 (A9 (u3 X0 (f6 (J7 "Table" "limits" u5) A2) B3)) (C9 cM) F4) (t8 (u6 2 (jD (A9 (f6 (J7 "Table" "full" u5) A2)) (iy dD A1) A1)) (t8 (G0 (N2 (fC lI)) (D7 3) mh) (C9 cM))))
def bU:DO:=t8 (u6 5 (f7 ni (v8 u5 L7))) (M0 (fO (A9 (u3 iw R6 cM)) (hE (A9 (u3 oX C3 cM)) (A9 (u3 BN R6 J1)))) (t8 (u6 2 L7) (t8 (u6 3 R6) (M0 (A9 A2) (av 2) F4))) F4)
def jj:FV:=J5 2 6 (t8 (u6 2 cM) (t8 (u6 3 cM) (t8 (G0 (F3 G9 (B2 (f7 C7 (B2 (J7 "Table" "full" u5))))) (D7 4) bU) (av 2))))
def nk:DO:=t8 (u6 7 (f6 (J7 "Table" "chosen" u5) R6)) (t8 (u6 8 (f6 (J7 "Table" "limits" u5) ij)) (t8 (u6 9 (D5 L7 (f6 C3 R6))) (M0 (A9 (u3 nK uH B3)) (aW 3 (v9 (xA aU uH ij R6 (fC (.bool U'))))) (M0 (fO (A9 (u3 oV uH B3)) (A9 (u3 iw dN cM))) (aW 3 (v9 (xA (u3 di (D5 dN (J7 "Table" "size" u5)) aU) (iy dD uH) ij R6 (fC (.bool Uf))))) F4))))
def jG:FV:=J5 3 10 (t8 (U5 3 (N6 B1)) (t8 (M0 (A9 (u3 iw (f6 (J7 "Table" "limits" u5) A2) cM)) (aW 3 (v9 (xA (f6 (J7 "Table" "limits" u5) A2) A1 A2 cM (fC (.bool U'))))) F4) (t8 (u6 4 (jD (A9 (f6 (J7 "Table" "full" u5) A2)) (iy dD A1) A1)) (t8 (G0 (F3 cQ (B2 (Z8 "Table" "amounts" ai u5 B1))) (du 2 (M1 5 (M1 6 dA))) nk) (av 3)))))
def tM:FV:=J5 2 4 (t8 (u6 2 (D5 (f6 u5 B3) (f6 A2 A1))) (t8 (u6 3 (D5 (f6 A2 B3) (f6 u5 A1))) (C9 (Xd (u3 oV C3 J1) (tc (u3 X0 C3 J1) (u3 oV (f6 u5 K5) (f6 A2 K5)))))))
def bZ:DO:=M0 (hE (A9 (u3 oX A2 cM)) (A9 (f7 tM (v8 C3 A2)))) (u6 1 C3) F4
def cv:FV:=J5 1 3 (t8 (u6 1 cM) (t8 (G0 (N2 u5) (D7 2) bZ) (av 1)))
def sx:List PV->Option (PV×Ds):=rF 4 4 (t8 (M0 (A9 (u3 oX (f6 J1 bE) cM)) (t8 (R8 (W9 "Table" "flip" 0 U2 (Q6 A2 fN))) my) F4) (t8 (R8 (W9 "Table" "turn" 0 gF (Q6 A2 (Q6 (f6 J1 bE) (Q6 C3 fN))))) (M0 (A9 (f6 J1 jP)) (R8 (W9 "Table" "flip" 0 U2 (Q6 (f6 J1 K5) fN))) F4)))
def tQ:DV:=jD (A9 A2) u5 (fC O4)
def om:DO:=Y4 2 J1 (f7 ah (v8 (D5 L7 (f6 (J7 "Table" "scales" u5) J1)) (D5 (J7 "Table" "size" u5) (J7 "Table" "unit" u5))))
def dI:FV:=J5 2 5 (t8 (U5 2 (D0 (F3 eu (v8 A2 (J7 "Table" "full" u5))) (U4 2) C5 tQ)) (t8 (G0 (F3 eu (v8 (J7 "Table" "chosen" u5) (Z8 "Table" "amounts" ai u5 B1))) (du 2 (M1 3 (M1 4 dA))) om) (av 2)))
def gG:DV:=f7 ah (v8 (f6 (f6 (J7 "Table" "prices" A2) u5) C3) (D5 (J7 "Table" "size" A2) (f6 (J7 "Table" "multiples" A2) u5)))
def kK:FV:=J5 2 3 (t8 (u6 2 (D0 (N2 (fC lI)) C6 C5 gG)) (C9 (f7 hU (B2 C3))))
def oj:DO:=Y4 3 L7 (f7 ah (v8 (D5 (iy dD R6) (f6 (J7 "Table" "scales" u5) L7)) (J7 "Table" "size" u5)))
def lN:FV:=J5 3 6 (t8 (U5 3 (u3 fR (N6 (B2 (fC O4))) (f7 C7 (B2 (J7 "Table" "full" u5))))) (t8 (Y4 3 A2 (v9 (v8 (f6 (J7 "Table" "scales" u5) A2) A1))) (t8 (G0 (F3 eu (v8 (J7 "Table" "chosen" u5) C3)) (du 2 (M1 4 (M1 5 dA))) oj) (av 3))))
def df:DB:=A9 (u3 iw aU cM)
def bT:DO:=t8 (u6 7 (aJ (Z8 "Table" "paces" bC (U6 5) (B2 aU)))) (t8 (u6 8 (f7 cv (B2 (aJ (f7 jG (F8 (U6 5) aU ij)))))) (t8 (M0 (A9 (u3 oX dN cM)) (C9 (v9 (F8 (fC (.str "endless")) (aJ (f7 dI (v8 (U6 5) J1))) (aJ (f7 lN (F8 (U6 5) aU ij)))))) F4) (t8 (R8 (jW sx (iR 5 (Q6 aU (Q6 ij (Q6 dN fN)))))) (u6 6 (aJ (f7 jj (v8 (U6 5) (u3 X0 (f6 dN B3) B3))))))))
def tP:DV:=aJ (f7 kK (v8 (U6 6) u5))
def pY:FV:=J5 5 9 (t8 (U5 5 (sY "Table" bY (xA u5 A2 C3 J1 L7))) (t8 (u6 6 (aJ (f7 jj (v8 (U6 5) (fC (.bool U')))))) (t8 (jS (LN df bT) df bT) (C9 (v9 (F8 (fC (.str "best")) (aJ (f7 dI (v8 (U6 5) J1))) (D0 (F3 G9 (B2 (f7 C7 (B2 A2)))) C6 C5 tP)))))))
def xj:FV:=J5 2 2 (C9 (v9 (F8 (f7 kM (v8 (f6 u5 B3) (f6 A2 B3))) (f7 kM (v8 (f6 u5 A1) (f6 A2 A1))) (f7 kM (v8 (f6 u5 K5) (f6 A2 K5))))))
def kN:FV:=J5 2 2 (C9 (v9 (F8 (f7 aL (v8 (f6 u5 B3) A2)) (f7 aL (v8 (f6 u5 A1) A2)) (f7 aL (v8 (f6 u5 K5) A2)))))
def sy:FV:=J5 1 1 (C9 (v9 (F8 (v9 (v8 B3 A1)) (v9 (v8 B3 A1)) (v9 (v8 u5 A1)))))
def gE:FV:=J5 1 1 (C9 (jD (A9 (u3 vd (f6 u5 A1) (f6 u5 B3))) (v9 (v8 A1 A1)) (v9 (v8 (iy dD A1) A1))))
def gB:FV:=J5 1 1 (C9 (f7 cJ (v8 (fC N7) (f7 gE (B2 u5)))))
def gV:FV:=J5 2 4 (t8 (U5 2 (N6 (v8 (v9 (pq (Y5 (v8 (fC (.str "lacked")) u5)) (fC Gq) (v9 (v8 (f6 A2 A1) A1)) (N6 (B2 (v9 (v8 u5 (f7 gE (B2 A2)))))))) (v9 (pq (Y5 (v8 (fC (.str "spilt")) u5)) (fC rJ) cM (N6 (B2 (v9 (v8 u5 (f7 gB (B2 A2))))))))))) (t8 (u6 3 (f6 A2 K5)) (t8 (M0 (A9 (u3 iw J1 cM)) (t8 (aW 2 (v9 (pq (Y5 (v8 (fC (.str "bought")) u5)) (f7 sy (B2 (f6 J1 B3))) (v9 (v8 (f6 J1 A1) A1)) (N6 (B2 (v9 (v8 u5 (f7 gE (B2 A2))))))))) (aW 2 (v9 (pq (Y5 (v8 (fC (.str "given")) u5)) (f7 sy (B2 (iy dD (f6 J1 K5)))) (v9 (v8 (f6 J1 bE) A1)) (N6 (B2 (v9 (v8 u5 (f7 gB (B2 A2)))))))))) F4) (av 2))))
def nR:DV:=v9 (v8 u5 (f7 cJ (v8 (fC N7) (f6 R6 jP))))
def nQ:DV:=v9 (v8 u5 (v9 (v8 A1 A1)))
def fY:FV:=J5 2 8 (t8 (u6 2 (f7 C7 (B2 (f6 u5 B3)))) (t8 (u6 3 (f6 (f6 u5 B3) A2)) (t8 (u6 4 (f6 u5 A1)) (t8 (u6 5 (D0 (F3 jM (v8 (u3 C8 C3 A2) (D5 K5 C3))) C6 C5 nR)) (t8 (u6 6 (D0 (F3 jM (v8 (u3 C8 C3 A2) (D5 K5 C3))) C6 C5 nQ)) (t8 (u6 7 (jD (A9 (u3 X0 A2 (u3 di C3 A1))) (f6 L7 rd) B3)) (C9 (N6 (F8 (v9 (pq (Y5 (v8 (fC (.str "filled")) A2)) (fC rJ) (v9 (v8 (f6 L7 K5) A1)) (u3 C8 (N6 (B2 (v9 (v8 A2 (f7 gB (B2 J1)))))) R6))) (v9 (pq (Y5 (v8 (fC (.str "taken")) A2)) (fC rJ) (v9 (v8 (f6 L7 bE) A1)) (u3 C8 (N6 (B2 (v9 (v8 A2 (f7 aL (v8 (f7 gE (B2 J1)) (f6 L7 gZ))))))) aU))) (v9 (pq (Y5 (v8 (fC (.str "level")) A2)) (f7 sy (B2 (iy dD ij))) (v9 (v8 (f6 L7 B3) A1)) (N6 (B2 (v9 (v8 (u3 C8 C3 A2) (v9 (v8 A1 A1)))))))))))))))))
def fz:DO:=t8 (u6 6 (N6 (v8 (v9 (v8 R6 (f7 gB (B2 (f6 (f6 u5 B3) R6))))) (v9 (v8 J1 (v9 (v8 A1 A1))))))) (aW 4 (v9 (pq (Y5 (F8 (fC (.str "worked")) R6 A2)) (fC rJ) (v9 (v8 (f6 C3 jP) A1)) aU)))
def gR:FV:=J5 2 7 (t8 (u6 2 (f6 (f6 u5 K5) A2)) (t8 (u6 3 (u3 C8 (D5 K5 (f7 C7 (B2 (f6 u5 B3)))) A2)) (t8 (U5 4 (N6 (B2 (v9 (pq (Y5 (v8 (fC (.str "undone")) A2)) (fC yq) (v9 (v8 (f6 C3 A1) A1)) (N6 (B2 (v9 (v8 J1 (v9 (v8 A1 A1))))))))))) (t8 (G0 (F3 jM (v8 (f6 C3 K5) (u3 C8 (f6 C3 bE) A1))) (D7 5) fz) (av 4)))))
def gY:DO:=t8 (sT 1 (f7 gV (v8 C3 J1))) (sT 1 (f7 fY (v8 u5 C3)))
def gX:DO:=sT 1 (f7 gR (v8 u5 C3))
def kP:FV:=J5 1 4 (t8 (U5 1 (N6 B1)) (t8 (G0 (F3 cQ (B2 (f6 u5 B3))) (du 2 (M1 2 (M1 3 dA))) gY) (t8 (G0 (F3 G9 (B2 (f7 C7 (B2 (f6 u5 K5))))) (D7 2) gX) (av 1))))
def dJ:DV:=u3 fR (N6 (B2 (fC N7))) (f7 C7 (B2 A2))
def ma:DO:=wW 2 R6 J1 aU
def lZ:DO:=G0 (N2 (f6 L7 bE)) (du 2 (M1 5 (M1 6 dA))) ma
def qx:FV:=J5 2 7 (t8 (U5 2 (rH (F3 G9 (B2 A2)) C6 dJ)) (t8 (G0 (F3 cQ (B2 u5)) (du 2 (M1 3 (M1 4 dA))) lZ) (av 2)))
def ug:DV:=v9 (v8 (f7 pz (B2 (u3 di (f6 u5 A1) (f6 u5 B3)))) A1)
def nB:DV:=v9 (v8 (f6 u5 A1) A1)
def lY:FV:=J5 1 3 (t8 (u6 1 (D0 (N2 (f6 u5 B3)) C6 C5 ug)) (t8 (u6 2 (u3 fR (N6 (B2 (v9 (v8 (f6 (f6 u5 A1) A1) A1)))) (f7 C7 (B2 (f6 u5 B3))))) (C9 (u3 C8 (u3 C8 A2 C3) (D0 (N2 (f6 u5 K5)) C6 C5 nB)))))
def kR:DV:=Y5 (v8 (jD (A9 (u3 X0 (f7 gE (B2 A2)) (v9 (v8 A1 A1)))) (fC (.str "lacked")) (fC (.str "spilt"))) u5)
def qC:DV:=Y5 (v8 (fC (.str "level")) u5)
def kQ:DV:=Y5 (v8 (fC (.str "undone")) u5)
def fI:FV:=J5 1 3 (t8 (u6 1 (D0 (F3 cQ (B2 (f6 u5 B3))) (U4 2) C5 kR)) (t8 (u6 2 (D0 (F3 G9 (B2 (f7 C7 (B2 (f6 u5 B3))))) C6 C5 qC)) (C9 (u3 C8 (u3 C8 A2 C3) (D0 (F3 G9 (B2 (f7 C7 (B2 (f6 u5 K5))))) C6 C5 kQ)))))
def yt:FV:=J5 3 4 (t8 (u6 3 (f7 cJ (v8 (f7 aL (v8 (f6 u5 jP) A2)) C3))) (t8 (M0 (A9 (f7 lO (v8 J1 (fC N7)))) (C9 (v9 (v8 (fC N7) (f7 cJ (v8 (fC N7) J1))))) F4) (C9 (v9 (v8 (f7 Be (v8 J1 (f6 u5 jP))) (fC N7))))))
def xF:DV:=jE C3 (Y5 (F8 (fC (.str "worked")) L7 u5)) (fC N7)
def md:DO:=t8 (u6 4 (v9 (v8 (jE A2 (Y5 (v8 (fC (.str "bought")) J1)) (fC N7)) (jE A2 (Y5 (v8 (fC (.str "given")) J1)) (fC N7))))) (t8 (u6 5 (f7 yt (F8 (f6 u5 A1) (jV A2 (Y5 (v8 (fC (.str "filled")) J1))) (jV A2 (Y5 (v8 (fC (.str "taken")) J1)))))) (t8 (u6 6 (D0 (F3 G9 (B2 (f7 C7 (B2 (f6 u5 K5))))) C6 C5 xF)) (aW 2 (u3 C8 (u3 C8 L7 R6) (v9 (v8 (jV A2 (Y5 (v8 (fC (.str "lacked")) J1))) (f7 hU (B2 aU))))))))
def qy:FV:=J5 2 7 (t8 (U5 2 (N6 B1)) (t8 (G0 (F3 G9 (B2 (f7 C7 (B2 (f6 u5 B3))))) (D7 3) md) (C9 (cG (f7 hU (B2 C3))))))
def nC:DV:=f7 kN (v8 A2 (f7 gE (B2 u5)))
def nG:DO:=t8 (u6 5 (f7 xj (v8 R6 (f7 kN (v8 aU (v9 (v8 (iy dD A1) A1))))))) (aW 4 R6)
def iL:FV:=J5 2 7 (t8 (u6 2 (f7 C7 (B2 (f6 u5 B3)))) (t8 (u6 3 (D0 (F3 eu (v8 (f6 u5 B3) A2)) (U4 2) C5 nC)) (t8 (U5 4 (N6 B1)) (t8 (u6 5 (fC rJ)) (t8 (G0 (F3 Bs (B2 (ua CG A2 (fQ C3) (fQ (D5 K5 C3))))) (D7 6) nG) (t8 (wX 4 List.reverse) (C9 (cG (v9 (F8 (f7 hU (B2 J1)) (f7 hU (B2 L7)) (f7 hU (B2 (ua CG A2 (fQ (D5 K5 C3)) wG)))))))))))))
def uk:DV:=f6 u5 B3
def uj:DV:=f6 u5 A1
def ui:DV:=f6 u5 K5
def uh:DV:=sX lB J1 (B2 u5)
def iO:FV:=J5 1 8 (t8 (u6 1 (f7 kP (B2 u5))) (t8 (u6 2 (D0 (N2 A2) C6 C5 uk)) (t8 (u6 3 (D0 (N2 A2) C6 C5 uj)) (t8 (u6 4 (D0 (N2 A2) C6 C5 ui)) (t8 (u6 5 (f7 lY (B2 u5))) (t8 (u6 6 (D0 (N2 (f7 fI (B2 u5))) C6 C5 uh)) (t8 (u6 7 (f7 pY (xA J1 (f7 qx (v8 A2 (f7 C7 (B2 R6)))) R6 L7 aU))) (C9 (v9 (v8 (f7 qy (v8 u5 (zC (v8 C3 (f6 ij A1))))) (f7 iL (v8 u5 (f6 ij K5)))))))))))))
def D8:FV:=J5 3 5 (t8 (u6 3 B3) (t8 (M0 (A9 (u3 nK (f7 C7 (B2 u5)) B3)) (t8 (u6 3 (f6 u5 (u3 fh A2 (f7 C7 (B2 u5))))) (M0 (A9 (u3 X0 (u3 fh (f6 u5 B3) K5) A1)) (C9 (u3 fh (u3 fh (u3 KW (u3 Z7 J1 K5) (D5 (fC (.int 32)) (u3 Z7 A2 (f7 C7 (B2 u5))))) (u3 xT K5 (fC (.int 32)))) C3)) F4)) F4) (t8 (u6 4 (u3 fh (D5 (u3 C8 (u3 fh J1 (fC (.int 1000003))) A1) (u3 C8 (u3 C8 (D5 A2 A2) A2) (fC (.int 41)))) (fC (.int 999983)))) (C9 (u3 fh (u3 Z7 (u3 fh (D5 (u3 fh (D5 L7 (u3 C8 L7 (fC (.int 7919)))) (fC (.int 2147483647))) (fC (.int 69621))) (fC (.int 2147483629))) LK) C3)))))
def oi:DB:=A9 (u3 nK J1 B3)
def oo:DO:=t8 (u6 4 (u3 fh C3 J1)) (t8 (u6 2 J1) (u6 3 L7))
def fy:FV:=J5 2 5 (t8 (u6 2 (f7 pz (B2 u5))) (t8 (u6 3 A2) (t8 (jS (za 3) oi oo) (C9 (v9 (v8 (u3 Z7 u5 C3) (u3 Z7 A2 C3)))))))
def Q4:FV:=J5 2 2 (C9 (f7 fy (v8 (u3 C8 (D5 (f6 u5 B3) (f6 A2 A1)) (D5 (f6 A2 B3) (f6 u5 A1))) (D5 (f6 u5 A1) (f6 A2 A1)))))
def U1:FV:=J5 2 2 (C9 (f7 fy (v8 (D5 (f6 u5 B3) (f6 A2 B3)) (D5 (f6 u5 A1) (f6 A2 A1)))))
def Bg:DV:=f7 Q4 (v8 (f6 A2 u5) (f7 U1 (v8 (f6 C3 u5) J1)))
def jk:FV:=J5 3 3 (C9 (f7 hU (B2 (D0 (F3 G9 (B2 bE)) C6 C5 Bg))))
def wa:FV:=J5 2 2 (C9 (u3 oV (D5 (f6 u5 B3) (f6 A2 A1)) (D5 (f6 A2 B3) (f6 u5 A1))))
def ar:DO:=M0 (A9 (u3 dE (f6 u5 C3) (f6 A2 C3))) (C9 (f7 wa (v8 (f6 u5 C3) (f6 A2 C3)))) F4
def iM:FV:=J5 2 3 (t8 (G0 (F3 G9 (B2 bE)) (D7 2) ar) (C9 (fC (.bool U'))))
def ag:FV:=J5 1 1 (C9 (v9 (v8 (u3 di B3 (f6 u5 B3)) (f6 u5 A1))))
def vZ:FV:=J5 1 1 (C9 (tc (fS "int" u5) (Ci (fS "bool" u5))))
def fZ:FV:=J5 1 1 (t8 (M0 (hE (bJ (A9 (fS "tuple" u5))) (hE (A9 (u3 dE (f7 C7 (B2 u5)) K5)) (hE (bJ (A9 (f7 vZ (B2 (f6 u5 B3))))) (bJ (A9 (f7 vZ (B2 (f6 u5 A1)))))))) (C9 (fC (.bool U'))) F4) (C9 (tc (u3 nK (f6 u5 A1) B3) (u3 X0 (f7 fy (v8 (f6 u5 B3) (f6 u5 A1))) u5))))
def qB:DV:=f7 fZ (B2 u5)
def iX:FV:=J5 1 1 (t8 (M0 (hE (bJ (A9 (fS "tuple" u5))) (A9 (u3 dE (f7 C7 (B2 u5)) bE))) (C9 (fC (.bool U'))) F4) (C9 (f7 vo (B2 (D0 (N2 u5) C6 C5 qB)))))
def O9:FV:=J5 3 4 (t8 (u6 3 (f6 (N6 (Qn A1 A1 A1 A1 A1 (fC (.int 1000)))) (f7 D8 (F8 u5 A1 rd)))) (t8 (M0 (A9 (u3 X0 (f7 D8 (F8 u5 (u3 C8 A2 (fC (.int 2900))) yW)) B3)) (u6 3 (fC (.int 83333))) F4) (C9 (D5 J1 (f7 D8 (F8 u5 A2 (u3 C8 C3 A1)))))))
def gC:FV:=J5 2 4 (t8 (U5 2 (N6 (pq (v9 (v8 A1 A1)) (v9 (v8 A1 K5)) (v9 (v8 (fC (.int 9)) BH)) (v9 (v8 K5 bE))))) (t8 (u6 3 (u3 C8 A1 (f7 D8 (F8 u5 (u3 C8 A2 A1) oS)))) (t8 (aW 2 (f7 fy (v8 (u3 C8 A1 (f7 D8 (F8 u5 (u3 C8 A2 K5) J1))) J1))) (C9 (sZ 2 (f7 D8 (F8 u5 A2 gZ)))))))
def jl:DV:=v9 (F8 A1 B3 cM)
def gS:FV:=J5 1 5 (t8 (u6 1 (f6 (N6 (Qn (fC (.int 9)) BH LK BG (fC (.int 17)) (fC (.int 24)))) (f7 D8 (F8 u5 (fC (.int 15)) rd)))) (t8 (U5 2 (D0 (F3 G9 (B2 A2)) C6 C5 jl)) (t8 (Y4 2 B3 (v9 (F8 (f7 D8 (F8 u5 (fC (.int 16)) (fC (.int 41)))) B3 cM))) (t8 (Y4 2 (u3 C8 A1 (f7 D8 (F8 u5 (fC (.int 17)) (u3 di A2 K5)))) (v9 (F8 B3 (f7 D8 (F8 u5 (fC (.int 18)) BG)) cM))) (t8 (Y4 2 (u3 di A2 A1) (v9 (F8 B3 (u3 C8 A1 (f7 D8 (F8 u5 (fC (.int 19)) oS))) cM))) (t8 (u6 3 (u3 C8 jP (f7 D8 (F8 u5 LJ LI)))) (t8 (u6 4 (v9 (pq J1 (f7 D8 (F8 u5 (fC (.int 21)) (u3 C8 J1 A1))) (u3 C8 A1 (f7 D8 (F8 u5 (fC (.int 22)) LI))) (u3 C8 A1 (f7 D8 (F8 u5 (fC (.int 23)) LJ)))))) (t8 (u6 4 (u3 C8 L7 (v9 (F8 (f7 gC (v8 u5 (fC (.int 30)))) (f7 gC (v8 u5 LI)) B3)))) (C9 (cG (v9 (F8 (f7 hU (B2 C3)) L7 (v9 B1)))))))))))))
def me:DO:=t8 (u6 4 (u3 C8 (fC (.int 100)) (D5 LJ J1))) (t8 (u6 5 cM) (t8 (M0 (A9 (u3 nK (f7 D8 (F8 u5 L7 jP)) B3)) (t8 (u6 6 (u3 di (f7 D8 (F8 u5 (u3 C8 L7 A1) (fC (.int 27)))) rd)) (t8 (u6 7 (u3 di (f7 D8 (F8 u5 (u3 C8 L7 bE) (fC (.int 27)))) rd)) (t8 (M0 (A9 (u3 X0 (f7 D8 (F8 u5 (u3 C8 L7 (fC (.int 7))) yW)) B3)) (u6 6 (u3 di (f7 D8 (F8 u5 (u3 C8 L7 yW) (u3 C8 (D5 K5 (u3 xT BH rd)) A1))) (u3 xT BH rd))) F4) (u6 5 (v9 (pq aU (f7 O9 (F8 u5 (u3 C8 L7 K5) oS)) ij (f7 O9 (F8 u5 (u3 C8 L7 jP) oS)))))))) F4) (aW 2 (v9 (F8 (f7 O9 (F8 u5 (u3 C8 L7 gZ) oS)) (f7 O9 (F8 u5 (u3 C8 L7 rd) oS)) R6)))))
def iP:DO:=Cf 2 (Dh (cG (f7 D8 (F8 u5 (u3 C8 (fC (.int 50)) dN) (u3 C8 (f7 C7 (B2 C3)) A1))))) (v9 (F8 B3 B3 cM))
def qM:DO:=t8 (u6 4 (u3 C8 (fC (.int 200)) (D5 BH (u7 12)))) (t8 (u6 13 (f7 D8 (F8 u5 L7 A2))) (t8 (u6 14 (u3 C8 (u7 13) (f7 D8 (F8 u5 (u3 C8 L7 A1) (u3 di A2 (u7 13)))))) (aW 11 (v9 (xA (u3 C8 (fC (.str "work")) (f6 (fC (.str "ab")) (u7 12))) (f7 O9 (F8 u5 (u3 C8 L7 K5) oS)) (u7 13) (u7 14) (f7 O9 (F8 u5 (u3 C8 L7 bE) yW)))))))
def qA:FV:=J5 1 15 (t8 (M0 (A9 (u3 X0 (f7 D8 (F8 u5 (fC (.int 14)) yW)) B3)) (C9 (f7 gS (B2 u5))) F4) (t8 (u6 1 (f6 (N6 (t4 A1 (t4 K5 (Qn K5 bE bE K5 bE jP)))) (f7 D8 (F8 u5 BH yW)))) (t8 (U5 2 (N6 B1)) (t8 (G0 (F3 G9 (B2 A2)) (D7 3) me) (t8 (M0 (fO (A9 (u3 oV (cG (f7 C7 (B2 C3))) (cG bE))) (A9 (u3 X0 (f7 D8 (F8 u5 oS gZ)) B3))) (G0 (F3 G9 (B2 (u3 C8 A1 (f7 D8 (F8 u5 BG jP))))) (D7 8) iP) F4) (t8 (u6 1 (Dh (cG (f7 C7 (B2 C3))))) (t8 (u6 9 (f7 O9 (F8 u5 LJ oS))) (t8 (u6 10 (v9 (pq uH (f7 D8 (F8 u5 (fC (.int 21)) (u3 C8 uH A1))) (f7 O9 (F8 u5 (fC (.int 22)) yW)) (f7 O9 (F8 u5 (fC (.int 23)) yW))))) (t8 (u6 10 (u3 C8 oK (v9 (F8 (f7 gC (v8 u5 (fC (.int 30)))) (f7 gC (v8 u5 LI)) (f7 D8 (F8 u5 (fC (.int 24)) BG)))))) (t8 (U5 11 (N6 B1)) (t8 (G0 (F3 G9 (B2 (f6 (N6 (Qn B3 B3 A1 A1 K5 K5)) (f7 D8 (F8 u5 LK rd))))) (D7 12) qM) (C9 (cG (v9 (F8 (f7 hU (B2 C3)) oK (f7 hU (B2 xO)))))))))))))))))
def lQ:FV:=J5 1 1 (t8 (M0 (A9 (u3 oX (f6 u5 K5) cM)) (C9 (v9 (pq B3 B3 B3 B3))) F4) (C9 (f6 u5 K5)))
def qO:DO:=u6 3 (f7 Q4 (v8 J1 (v9 (v8 (f6 aU A1) A1))))
def mf:DO:=u6 3 (f7 Q4 (v8 J1 (f7 ag (B2 oK))))
def qN:DO:=t8 (u6 8 (f6 A2 ij)) (t8 (u6 9 (f7 lQ (B2 (f6 (f6 u5 B3) ij)))) (t8 (u6 2 (f7 Q4 (v8 C3 (f6 dN jP)))) (t8 (u6 4 (f7 Q4 (v8 L7 (f7 U1 (v8 (v9 (v8 (f6 uH B3) A1)) (f6 dN B3)))))) (t8 (u6 4 (f7 Q4 (v8 L7 (f7 U1 (v8 (v9 (v8 (u3 di B3 (f6 uH K5)) A1)) (f6 dN A1)))))) (t8 (u6 5 (f7 Q4 (v8 R6 (f7 Q4 (v8 (f7 U1 (v8 (f6 (f6 u5 A1) jP) (f6 dN K5))) (f7 ag (B2 (f6 dN bE)))))))) (G0 (N2 (f6 dN gZ)) (D7 10) mf))))))
def nc:FV:=J5 2 11 (t8 (u6 2 (v9 (v8 B3 A1))) (t8 (u6 3 (v9 (v8 B3 A1))) (t8 (u6 4 (v9 (v8 B3 A1))) (t8 (u6 5 (v9 (v8 (f6 (f6 u5 A1) A1) A1))) (t8 (G0 (N2 (f6 u5 K5)) (D7 6) qO) (t8 (G0 (F3 G9 (B2 (f7 C7 (B2 A2)))) (D7 7) qN) (C9 (v9 (F8 C3 J1 (f7 Q4 (v8 L7 (f7 U1 (v8 (v9 (v8 (u3 di B3 (f6 (f6 u5 A1) rd)) A1)) R6)))))))))))))
def gD:FV:=J5 1 1 (C9 (v9 (F8 (v9 (v8 B3 A1)) (v9 (v8 B3 A1)) (v9 (v8 u5 A1)))))
def V9:FV:=J5 3 3 (C9 (f7 jk (F8 u5 A2 (f7 ag (B2 C3)))))
def js:DO:=t8 (u6 11 (f6 (f6 u5 K5) oK)) (M0 (fO (A9 (u3 tY (f6 xO K5) C3)) (A9 (u3 tY C3 (f6 xO bE)))) (aW 9 (v9 (v8 (f7 V9 (F8 R6 (f6 (f6 A2 K5) oK) (v9 (v8 A1 A1)))) (f6 xO jP)))) F4)
def gT:FV:=J5 3 12 (t8 (u6 3 (f6 (f6 u5 B3) C3)) (t8 (u6 4 (f6 u5 A1)) (t8 (u6 5 (f6 (f6 A2 B3) C3)) (t8 (u6 6 (f6 (f6 A2 A1) C3)) (t8 (u6 7 (f7 gD (B2 (f6 L7 rd)))) (t8 (M0 (A9 (u3 oV (u3 C8 C3 A1) (f7 C7 (B2 (f6 u5 B3))))) (u6 7 (f6 (f6 A2 A1) (u3 C8 C3 A1))) F4) (t8 (u6 8 (f7 lQ (B2 J1))) (t8 (U5 9 (N6 (v8 (v9 (v8 (f7 V9 (F8 (f7 gD (B2 (f6 dN B3))) R6 (v9 (v8 A1 A1)))) (f6 dN A1))) (v9 (v8 (f7 V9 (F8 R6 (f7 gD (B2 (f6 dN K5))) (v9 (v8 A1 A1)))) (f6 dN bE)))))) (t8 (aW 9 (v9 (v8 (f7 V9 (F8 R6 aU (f6 L7 jP))) (f6 L7 K5)))) (t8 (aW 9 (v9 (v8 (f7 V9 (F8 aU R6 (f6 L7 gZ))) (f6 L7 bE)))) (t8 (aW 9 (v9 (v8 (f7 V9 (F8 (v9 (F8 (v9 (v8 A1 A1)) (v9 (v8 B3 A1)) (v9 (v8 B3 A1)))) R6 (v9 (v8 A1 A1)))) (f6 J1 A1)))) (t8 (aW 9 (v9 (v8 (f7 V9 (F8 aU ij (v9 (v8 A1 A1)))) (f6 L7 B3)))) (t8 (G0 (F3 G9 (B2 (f7 C7 (B2 (f6 u5 K5))))) (D7 10) js) (av 9))))))))))))))
def ej:DO:=t8 (u6 3 (f7 jk (F8 J1 (f6 (f6 A2 B3) R6) (v9 (v8 (u3 di (f6 (f6 (f6 u5 B3) R6) A1) (f6 (f6 (f6 u5 B3) R6) B3)) A1))))) (sT 4 (f7 gT (F8 u5 A2 R6)))
def ei:DO:=t8 (u6 7 (f6 (f6 u5 K5) aU)) (t8 (u6 3 (f7 jk (F8 J1 (f6 (f6 A2 K5) aU) (v9 (v8 (f6 ij A1) A1))))) (aW 4 (v9 (v8 (f7 V9 (F8 (v9 (F8 (v9 (v8 B3 A1)) (v9 (v8 A1 A1)) (v9 (v8 B3 A1)))) (f6 (f6 A2 K5) aU) (v9 (v8 A1 A1)))) (f6 ij A1)))))
def eh:DO:=M0 (A9 (f7 iM (v8 dN C3))) (u6 3 (f7 jk (F8 J1 dN (v9 (v8 uH A1))))) F4
def da:FV:=J5 2 10 (t8 (u6 2 (v9 (F8 (v9 (v8 B3 A1)) (v9 (v8 B3 A1)) (v9 (v8 B3 A1))))) (t8 (u6 3 (f7 V9 (F8 C3 (f6 (f6 A2 A1) B3) (v9 (v8 (f6 (f6 u5 A1) A1) A1))))) (t8 (U5 4 (N6 B1)) (t8 (G0 (F3 G9 (B2 (f7 C7 (B2 (f6 u5 B3))))) (D7 5) ej) (t8 (G0 (F3 G9 (B2 (f7 C7 (B2 (f6 u5 K5))))) (D7 6) ei) (t8 (wY 4 (G0 (N2 L7) (du 2 (M1 8 (M1 9 dA))) eh)) (av 3)))))))
def qL:DO:=M0 (bJ (A9 (f7 fZ (B2 J1)))) (C9 (fC (.bool U'))) F4
def qK:DO:=t8 (M0 (hE (bJ (A9 (fS "tuple" C3))) (hE (A9 (u3 dE (f7 C7 (B2 C3)) rd)) (bJ (A9 (fS "tuple" (f6 C3 gZ)))))) (C9 (fC (.bool U'))) F4) (t8 (M0 (A9 (u3 dE (f7 C7 (B2 (f6 C3 gZ))) (f7 C7 (B2 (f6 u5 K5))))) (C9 (fC (.bool U'))) F4) (G0 (N2 (u3 C8 (ua CG C3 wG (fQ gZ)) (f6 C3 gZ))) (D7 3) qL))
def qz:FV:=J5 2 4 (t8 (M0 (hE (bJ (A9 (fS "tuple" A2))) (A9 (u3 dE (f7 C7 (B2 A2)) (f7 C7 (B2 (f6 u5 B3)))))) (C9 (fC (.bool U'))) F4) (t8 (G0 (N2 A2) (D7 2) qK) (C9 (fC (.bool Uf)))))
def kO:FV:=J5 2 2 (C9 (tc (u3 vd (f6 u5 B3) B3) (u3 tY (f6 u5 B3) (D5 A2 (f6 u5 A1)))))
def kY:DO:=M0 (bJ (A9 (f7 kO (v8 (f6 C3 ij) (f6 aU ij))))) (C9 (fC (.bool U'))) F4
def kX:DO:=u6 8 (f7 Q4 (v8 dN (f7 ag (B2 uH))))
def kW:DO:=t8 (u6 11 (f6 (f6 u5 K5) oK)) (t8 (u6 12 B3) (t8 (M0 (fO (A9 (u3 tY (f6 xO K5) A2)) (A9 (u3 tY A2 (f6 xO bE)))) (u6 12 (f6 xO jP)) F4) (M0 (bJ (A9 (f7 kO (v8 (f6 (f6 C3 gZ) oK) (u7 12))))) (C9 (fC (.bool U'))) F4)))
def iY:FV:=J5 3 13 (t8 (u6 3 (f6 (f6 u5 B3) A2)) (t8 (u6 4 (f6 u5 A1)) (t8 (u6 5 (f7 lQ (B2 J1))) (t8 (u6 6 (N6 (xA (f6 R6 A1) (f6 R6 bE) (f6 L7 K5) (f6 L7 bE) (f6 J1 A1)))) (t8 (G0 (F3 G9 (B2 gZ)) (D7 7) kY) (t8 (u6 8 (f7 Q4 (v8 (v9 (v8 (u3 di (f6 J1 B3) (f6 J1 A1)) A1)) (f7 Q4 (v8 (f6 C3 B3) (f6 C3 jP)))))) (t8 (u6 8 (f7 Q4 (v8 dN (f7 U1 (v8 (f6 L7 gZ) (f6 C3 bE)))))) (t8 (G0 (N2 (u3 C8 (v9 (v8 (f6 C3 A1) (f6 C3 K5))) (f6 C3 gZ))) (D7 9) kX) (t8 (G0 (F3 G9 (B2 (f7 C7 (B2 (f6 u5 K5))))) (D7 10) kW) (C9 (u3 vd (f6 dN B3) B3)))))))))))
def tR:DV:=v9 (v8 (f6 u5 A1) A1)
def oq:DO:=Y4 3 aU (f7 Q4 (v8 (sZ 3 aU) (f7 ag (B2 (f6 (f6 R6 gZ) aU)))))
def tS:DO:=t8 (u6 5 (f6 A2 L7)) (t8 (u6 2 (f7 Q4 (v8 C3 (f7 Q4 (v8 (f7 U1 (v8 (f6 (f6 u5 A1) jP) (f6 R6 K5))) (f7 ag (B2 (f6 R6 bE)))))))) (t8 (G0 (F3 G9 (B2 (Dh (cG (f7 C7 (B2 J1)))))) (D7 6) oq) (M0 (hE (bJ (A9 (f7 iY (F8 u5 L7 R6)))) (bJ (A9 (f7 kO (v8 C3 (f6 (f6 u5 A1) B3)))))) (C9 (fC (.bool U'))) F4)))
def Bh:DV:=u3 vd (f6 u5 B3) B3
def tN:FV:=J5 2 7 (t8 (u6 2 (v9 (v8 (f6 (f6 u5 A1) A1) A1))) (t8 (U5 3 (D0 (N2 (f6 u5 K5)) C6 C5 tR)) (t8 (G0 (F3 G9 (B2 (f7 C7 (B2 A2)))) (D7 4) tS) (C9 (cG (f7 vo (B2 (D0 (N2 J1) C6 C5 Bh))))))))
def jt:DO:=M0 (bJ (A9 (f7 iX (B2 J1)))) (C9 (fC (.bool U'))) F4
def fA:DO:=t8 (M0 (hE (bJ (A9 (fS "tuple" (f6 A2 C3)))) (A9 (u3 dE (f7 C7 (B2 (f6 A2 C3))) (f7 C7 (B2 (f6 u5 (f6 (N6 (F8 B3 B3 K5)) C3))))))) (C9 (fC (.bool U'))) F4) (G0 (N2 (f6 A2 C3)) (D7 3) jt)
def gU:FV:=J5 2 4 (t8 (M0 (hE (bJ (A9 (fS "tuple" A2))) (A9 (u3 dE (f7 C7 (B2 A2)) bE))) (C9 (fC (.bool U'))) F4) (t8 (G0 (F3 G9 (B2 bE)) (D7 2) fA) (C9 (fC (.bool Uf)))))
def lh:DO:=M0 (A9 (f7 iM (v8 J1 C3))) (C9 (fC (.bool U'))) F4
def kZ:DO:=M0 (fO (A9 (u3 nK (f6 (f6 L7 K5) B3) B3)) (A9 (u3 nK (f6 (f6 L7 bE) B3) B3))) (C9 (fC (.bool U'))) F4
def iZ:FV:=J5 2 5 (t8 (u6 2 (v9 (F8 (v9 (v8 B3 A1)) (v9 (v8 B3 A1)) (v9 (v8 B3 A1))))) (t8 (M0 (hE (bJ (A9 (fS "tuple" A2))) (A9 (u3 dE (f7 C7 (B2 A2)) K5))) (C9 (fC (.bool U'))) F4) (t8 (M0 (hE (bJ (A9 (f7 qz (v8 u5 (f6 A2 B3))))) (bJ (A9 (f7 gU (v8 u5 (f6 A2 A1)))))) (C9 (fC (.bool U'))) F4) (t8 (G0 (N2 (f6 (f6 A2 A1) B3)) (D7 3) lh) (t8 (G0 (N2 (f6 A2 B3)) (D7 4) kZ) (t8 (M0 (bJ (A9 (f7 tN (v8 u5 (f6 A2 B3))))) (C9 (fC (.bool U'))) F4) (C9 (u3 X0 (f7 nc (v8 u5 (f6 A2 B3))) (f7 da (v8 u5 (f6 A2 A1)))))))))))
def xi:FV:=J5 1 2 (t8 (u6 1 (f7 qA (t4 u5 B1))) (C9 (f7 iZ (t4 A2 (t4 (f7 iO (t4 A2 B1)) B1)))))
end
end Law
set_option hygiene false
local macro_rules|`(tactic|walk_at "r")=>`(tactic|simp only[J5,D4,B6,Eu,Ce,Pc,fm,uV,M0,C9,av,F4,oB,G0,jS,wY,Cg,u7,fC,u3,iy,f7,v9,N6,ua,jD,tc,Xd,Ci,cG,hC,D0,wG,fQ,VQ,t4,B1,A9,fO,hE,C5,F3,N2,KZ,Nw,Uv,Ol,tw,qp,D7,du,M1,dA,C6,U4,L2.PV.xc,L2.PV.Mt,za,
 VT,SF,JN,Kb,wU,yj,Fj,rn,FJ,VU,UL,Pd,FE,Nb,Sq,LY,OZ,XZ,UZ,IP,VG,Nl,PN,sZ,wX,oA,a4G,a4F,a4E,a4D,a4C,a4B,String.reduceBEq,
 A4,Option.bind_none,rY,Option.map_none,E8,rS,Y7,kA,F7,cz,cZ,af,ki,HE,RA,tI,Nat.reduceAdd,Nat.reduceSub,Nat.reduceEqDiff,Nat.reduceLeDiff,Nat.reduceLT,Int.reduceToNat,Int.cast_ofNat_Int,eq_self,
 X3,if_false,reduceIte,pT,decide_true,decide_false,mW,QN,decide_eq_false_iff_not,Bool.not_true,Bool.not_false,not_true_eq_false,not_false_eq_true,Bool.true_or,Bool.false_or,Bool.or_true,Bool.or_false,Bool.and_true,Bool.true_and,Bool.and_false,GY,reduceCtorEq,and_self])
set_option hygiene true
namespace Law
open PySem L2
variable{b t y x:Int}{m n:Nat}{f:Nat->f9}{g:Nat->Int}{Z:Int×Int}{Y:List Int}{d:f9}
abbrev gc(a b:Int):Int:=(F1 a b:Nat)
theorem FP(x y:Int):F1 y (x.fmod y)=F1 x y:=by
 rw[Int.fmod_def];apply Nat.dvd_antisymm
 . apply Int.dvd_gcd
   . have d:((F1 y (x-y*x.fdiv y)):Int)∣y:=kB ..;have a:((F1 y _):Int)∣x-y*x.fdiv y:=kG ..;have b:=Int.dvd_add a (Rz (c:=x.fdiv y) d)
     rwa [Int.sub_add_cancel]at b
   exact kB ..
 apply Int.dvd_gcd;exact kG ..;exact Int.dvd_sub (kB ..) (Rz (kG ..))
theorem rf(x:Int)(h:y≠0):(x.fmod y).natAbs<y.natAbs:=by
 rcases Int.lt_or_gt_of_ne h with a|a
 . have e:Int.fmod x y=x % y+if 0<=y\/y∣x then 0 else y:=Int.fmod_eq_emod
   have:=Int.emod_lt x h;split at e<;>omega
 have:=su x a;have:=AG x a;omega
def G7(t b:Int):Int×Int:=(t.fdiv (if b<0 then -gc t b else gc t b),b.fdiv (if b<0 then -gc t b else gc t b))
structure F0(m:Nat)(q:Int×Int):Prop where
 pos:0<q.2
 low:F1 q.1 q.2=1
 bt:Bt m q.1
 bb:Bt m q.2
theorem F0.mono(h:F0 m Z)(a:m<=n):F0 n Z:=⟨h.pos,h.low,h.bt.mono a,h.bb.mono a⟩
theorem je(d:0<b)(f:Bt m t)(a:Bt m b):F0 m (G7 t b):=by
 have e:G7 t b=(t/gc t b,b/gc t b):=by delta G7;rw[s9 (Int.not_lt.2 eN),bM _ C4,bM _ C4]
 have c:gc t b∣b:=kG ..;rw[e];refine⟨Ih d C4 c,vV (xh t L9),?_,?_⟩
 . have:=f.fdiv (j:=gc t b)
   rwa [bM _ C4]at this
 . have:=a.fdiv (j:=gc t b)
   rwa [bM _ C4]at this
theorem Vg{q:Int×Int}(j:F0 m Z)(hq:F0 n q)(h:Z.1*q.2-q.1*Z.2=0):Z=q:=by
 obtain⟨a,b⟩:=Z;obtain⟨c,d⟩:=q;have pb:=j.pos;have e:a*d=c*b:=by have:=h;exact Int.sub_eq_zero.1 u4
 have k:b∣d:=by
  have z:b∣a*d:=⟨c,by rw[e,K7]⟩
  have i:b.natAbs∣a.natAbs*d.natAbs:=by rw[<-fx];exact Int.natAbs_dvd_natAbs.mpr z
  have g:Aa b.natAbs a.natAbs:=by rw[Ax];exact j.low
  exact Int.natAbs_dvd_natAbs.mp (g.dvd_of_dvd_mul_left i)
 have k2:d∣b:=by
  have:d∣c*b:=⟨a,by rw[<-e,K7]⟩
  have i:d.natAbs∣c.natAbs*b.natAbs:=by rw[<-fx];simp_all
  have g:Aa d.natAbs c.natAbs:=by rw[Ax];exact hq.low
  exact Int.natAbs_dvd_natAbs.mp (g.dvd_of_dvd_mul_left i)
 have f:b=d:=by have:=gO hq.pos k;have:=gO pb k2;exact Int.le_antisymm u4 u4
 subst f;have:=vX L9 e;rw[this]
theorem zq(a:b≠0)(h:Bt m b):Bt m (gc t b):=h.of_le (by have:=Int.gcd_le_natAbs_right t a;simp[*])
theorem Xb(a:b≠0):gc t b≠0:=by simp[*]
theorem a2R(t b:Int):gc (if t<0 then -t else t) (if b<0 then -b else b)=gc t b:=by
 show((F1 _ _):Int)=(F1 t b)
 have a:∀x y:Int,F1 (if x<0 then -x else x) y=F1 x y:=λx y=>by split<;>simp
 have c:∀x y:Int,F1 x (if y<0 then -y else y)=F1 x y:=λx y=>by split<;>simp
 rw[a,c]
abbrev fr(q:Int×Int):f9:=.tuple [.int q.1,.int q.2]
def iQ(p q:Int×Int):Int×Int:=G7 (p.1*q.2+q.1*p.2) (p.2*q.2)
def eL(p q:Int×Int):Int×Int:=G7 (p.1*q.2-q.1*p.2) (p.2*q.2)
def R5(p q:Int×Int):Int×Int:=G7 (p.1*q.1) (p.2*q.2)
def yz(p q:Int×Int):Bool:=decide (p.1*q.2<q.1*p.2)
abbrev Q2:=Int×Int
variable{q p:Q2}
def val(q:Q2):Rat:=(q.1:Rat)/(q.2:Rat)
theorem gM(h:b≠0):(b:Rat)≠0:=by exact_mod_cast h
theorem gH(d:0<b):val (G7 t b)=(t:Rat)/(b:Rat):=by
 have e:G7 t b=(t/gc t b,b/gc t b):=by delta G7;rw[s9 (Int.not_lt.2 eN),bM _ C4,bM _ C4]
 have c:t/gc t b*gc t b=t:=AJ (kB ..);have a:b/gc t b*gc t b=b:=AJ (kG ..);rw[e];show((t/gc t b:Int):Rat)/((b/gc t b:Int))=_;have:=gM (show gc t b≠0 by lia)
 generalize gc t b=g at *;have:((t/g:Int):Rat)*g=t:=by exact_mod_cast c
 have:((b/g:Int):Rat)*g=b:=by exact_mod_cast a
 grind
theorem Si(a:0<p.2)(hq:0<q.2):val (iQ p q)=val p+val q:=by
 delta iQ;rw[gH (M3 a hq)];have:=gM (show p.2≠0 by exact L9);have:=gM (show q.2≠0 by exact L9);delta val
 push_cast
 grind
theorem uu(a:0<p.2)(hq:0<q.2):val (eL p q)=val p-val q:=by
 delta eL;rw[gH (M3 a hq)];have:=gM (show p.2≠0 by exact L9);have:=gM (show q.2≠0 by exact L9);delta val
 push_cast
 grind
theorem qe(a:0<p.2)(hq:0<q.2):val (R5 p q)=val p*val q:=by
 delta R5;rw[gH (M3 a hq)];delta val
 push_cast
 grind
theorem val_inj(a:F0 m p)(hq:F0 n q)(h:val p=val q):p=q:=by
 refine Vg a hq ?_;have:=gM (show p.2≠0 by have:=a.pos;exact L9);have:=gM (show q.2≠0 by have:=hq.pos;exact L9)
 have:(p.1:Rat)/p.2=q.1/q.2:=h;have e:(p.1:Rat)*q.2-q.1*p.2=0:=by grind
 exact_mod_cast e
theorem val_one(n:Int):val (n,1)=(n:Rat):=by
 show(n:Rat)/1=n;grind
theorem yE(a:F0 m p)(hq:F0 n q):F0 (m+n) (R5 p q):=
 je (M3 a.pos hq.pos) (a.bt.mul hq.bt) (a.bb.mul hq.bb)
theorem sM(h:Bt m b)(a:1<=m):F0 m (b,1):=⟨by simp,by simp,h,Bt.mono ⟨by simp⟩ a⟩
theorem Io(x y:Int)(z:Option PV):dg [iD x,iD y,z]=U (!decide (y=0)):=by rfl
theorem Wb(x:Int)(z:Option PV)(h:y≠0):dh [iD x,iD y,z]=U (.next [iD y,iD (x.fmod y),iD (x.fmod y)]):=by delta dh;walk_at "r";rw[cp h];walk_at "r"
theorem mB(l:0<=x)(k:0<=y):R1 [.int x,.int y]=sd (.int (gc x y)):=by
 delta R1;walk_at "r";obtain⟨m,n,⟨a,b,f,rfl,i,g,c⟩,j⟩:=Cz (Fc:=dg) (λd=>∃a b f,d=[iD a,iD b,f]/\gc a b=gc x y/\0<=a/\0<=b) (λd=>za 1 d-1) (by
  rintro d ⟨a,b,f,rfl,i,g,c⟩;rw[Io];by_cases h:b=0;left;simp[h]
  . right;refine⟨by simp[h],_,Wb a f h,⟨b,a.fmod b,_,rfl,?_,c,su a t9⟩,?_⟩;rw[<-i];show((F1 b _):Int)=(F1 a b);rw[FP]
    . have:=rf a h;assumption) (y.natAbs+1) [iD x,iD y,J] ⟨x,y,J,rfl,rfl,l,k⟩ (by walk_at "r";simp[*])
 rw[Io]at j;have o:b=0:=by simpa using j
 subst o;have e:gc a 0=a:=by show((F1 a 0))=a;rw[QR];exact sq u4
 rw[n,<-i,e];walk_at "r"
theorem ix(d:b≠0)(c:Bt 8000 b):ah [.int t,.int b]=sd (fr (G7 t b)):=by
 delta ah;walk_at "r";rw[s9 d];walk_at "r";rw[mB (by split<;>lia) (by split<;>lia),a2R];walk_at "r";have f:=Xb (t:=t) d;have a:=zq (t:=t) d c;delta G7;by_cases e:b<0;simp only[r9 e];walk_at "r";rw[O7 C4 a.neg,O7 C4 a.neg];rfl;simp only[s9 e];walk_at "r";rw[O7 f a,O7 f a];rfl
theorem Fq(m:0<b)(g:0<y)(c:F1 x y=1)(a:t*y=x*b):G7 t b=(x,y):=by
 have d:y∣b:=by
  have:y∣x*b:=⟨t,by rw[<-a,K7]⟩
  have l:y.natAbs∣x.natAbs*b.natAbs:=by rw[<-fx];simp_all
  have i:Aa y.natAbs x.natAbs:=by rw[Ax];exact c
  exact Int.natAbs_dvd_natAbs.mp (i.dvd_of_dvd_mul_left l)
 obtain⟨k,rfl⟩:=d;have:0<k:=by
  rcases fH 0 k with h|h
  exact h;have:=tK (S9 g) h;lia
 have j:t=x*k:=by
  have:t*y=(x*k)*y:=by rw[a,O0,K7 y k]
  exact vX L9 this
 subst j;have e:F1 (x*k) (y*k)=k.natAbs:=by rw[Int.gcd_mul_right,c,Nat.one_mul]
 have f:gc (x*k) (y*k)=k:=by show((F1 _ _))=k;rw[e];exact sq eN
 delta G7;rw[s9 (Int.not_lt.2 eN),f,bM _ eN,bM _ eN,QX _ L9,QX _ L9]
theorem lG(z:F1 x y=1)(a:F1 x b=1):F1 x (y*b)=1:=by
 show Nat.gcd x.natAbs (y*b).natAbs=1;rw[fx];exact Nat.Coprime.mul_right z a
theorem cR(z:F1 x y=1)(a:b∣y):F1 x b=1:=
 Nat.Coprime.coprime_dvd_right (Int.natAbs_dvd_natAbs.mpr a) z
theorem V8(h:F1 x y=1):F1 y x=1:=by rw[Ac];exact h
theorem Kt(h:F1 x y=1):F1 (x+b*y) y=1:=by simp_all
theorem Ub(I:0<b)(hd:0<x)(G:F1 t b=1)(H:F1 y x=1):
  let s:=gc b x
  let a:=t*x.fdiv s+y*b.fdiv s
  let e:=gc a s
  0<s/\0<e/\G7 (t*x+y*b) (b*x)=(a.fdiv e,b.fdiv s*x.fdiv e):=by
 have F:=xh b L9;have L:0<gc b x:=by simp[*]
 obtain⟨b',g⟩:gc b x∣b:=kB ..;obtain⟨d',f⟩:gc b x∣x:=kG ..;have c:F1 b' d'=1:=by
  have:=vV F;have v:b/((F1 b x))=b':=by
   conv=>lhs;lhs;rw[g]
   rw[kj _ L9]
  have q2:x/((F1 b x))=d':=by
   conv=>lhs;lhs;rw[f]
   rw[kj _ L9]
  rwa [v,q2]at this
 intro s a e;have q:gc b x=s:=rfl;have z:b.fdiv s=b':=by rw[bM _ eN];rw[q]at g;rw[g,kj _ L9]
 have C:x.fdiv s=d':=by rw[bM _ eN];rw[q]at f;rw[f,kj _ L9]
 have r:a=t*d'+y*b':=by show t*x.fdiv s+y*b.fdiv s=_;rw[z,C]
 have w:0<F1 a s:=xh a L9;have A:0<e:=by show(0:Int)<((F1 a s));exact Int.natCast_pos.2 u4
 refine⟨L,A,?_⟩;rw[q]at g f
 clear_value s
 obtain⟨n,i⟩:e∣a:=kB ..;obtain⟨m,k⟩:e∣s:=kG ..;have o:F1 n m=1:=by
  have:=vV w;have v:a/((F1 a s))=n:=by
   show a/e=n;rw[i,kj _ L9]
  have q2:s/((F1 a s))=m:=by
   show s/e=m;rw[k,kj _ L9]
  rwa [v,q2]at this
 clear_value e
 have p:0<b':=by
  rcases fH 0 b' with h|h
  exact h;have:=tK (S9 (show(0:Int)<s by lia)) h;lia
 have d:0<d':=by
  rcases fH 0 d' with h|h
  exact h;have:=tK (S9 (show(0:Int)<s by lia)) h;lia
 have u:0<m:=by
  rcases fH 0 m with h|h
  exact h;have:=tK (S9 A) h;lia
 have D:F1 a b'=1:=by
  rw[r];have:=V8 (lG (V8 (cR G ⟨s,by rw[g,K7]⟩)) c);exact Kt this
 have E:F1 a d'=1:=by
  rw[r,Int.add_comm];have:=V8 (lG (V8 (cR H ⟨s,by rw[f,K7]⟩)) (V8 c));exact Kt this
 have dt:n∣a:=⟨e,by rw[i,K7]⟩
 have K:x.fdiv e=m*d':=by rw[bM _ eN,f,k,O0,kj _ L9]
 have B:a.fdiv e=n:=by rw[bM _ eN,i,kj _ L9]
 rw[z,K,B];apply Fq (M3 I hd) (M3 p (M3 u d));exact lG (V8 (cR (V8 D) dt)) (lG o (V8 (cR (V8 E) dt)))
 . have e1 : t * x + y * b = s * a := by rw [r, dX]; conv => lhs; rw [g, f]
                                         simp only[pS]
   rw[e1,i]
   conv=>rhs;rw[g,f]
   rw[k];simp only[pS,K7]
theorem Nf(a:0<b)(hd:0<x)(G:F1 t b=1)(H:F1 y x=1):
  let e:=gc t x
  let f:=gc y b
  0<e/\0<f/\G7 (t*y) (b*x)=(t.fdiv e*y.fdiv f,b.fdiv f*x.fdiv e):=by
 have l:∀{d c:Int},0<c->∃x' y',0<gc d c/\d=gc d c*x'/\c=gc d c*y'/\0<y'/\F1 x' y'=1/\d.fdiv (gc d c)=x'/\c.fdiv (gc d c)=y':=by
  intro d c O;have E:=xh d L9;have w:0<gc d c:=by simp[*]
  obtain⟨x',k⟩:gc d c∣d:=kB ..;obtain⟨y',j⟩:gc d c∣c:=kG ..
  have q1 : d / gc d c = x' := by conv => lhs; lhs; rw [k]
                                  rw[kj _ L9]
  have q2 : c / gc d c = y' := by conv => lhs; lhs; rw [j]
                                  rw[kj _ L9]
  refine⟨x',y',w,k,j,?_,?_,?_,?_⟩
  . rcases fH 0 y' with h|h
    exact h;have:=tK (S9 w) h;lia
  . have:=vV E
    rwa [q1,q2]at this
  rw[bM _ eN,q1];rw[bM _ eN,q2]
 obtain⟨N,L,z,m,n,I,D,A,r⟩:=l hd;obtain⟨M,P,q,p,o,pb,K,v,u⟩:=l a;intro e f;have B:gc t x=e:=rfl;have F:gc y b=f:=rfl;rw[B]at z m n A r;rw[F]at q p o v u;refine⟨z,q,?_⟩
 clear_value e f
 rw[A,r,v,u];apply Fq (M3 a hd) (M3 pb I);have C:=V8 (cR (V8 (cR G ⟨f,by rw[o,K7]⟩)) ⟨e,by rw[m,K7]⟩);exact V8 (lG (V8 (lG C D)) (V8 (lG K (V8 (cR (V8 (cR H ⟨e,by rw[n,K7]⟩)) ⟨f,by rw[p,K7]⟩)))))
 . conv=>lhs;rw[m,p]
   conv=>rhs;rw[o,n]
   simp only[pS,K7]
theorem Cc(t b:Int):gc (if t<0 then -t else t) b=gc t b:=by
 show((F1 _ _):Int)=(F1 t b)
 split<;>simp
theorem a2Q(c:0<b)(h:Bt m b):Bt m (gc b t):=h.of_le (by have:=Int.gcd_le_natAbs_left t L9;simp[*])
theorem yF(a:F0 m p)(hq:F0 n q)(h:m+n<=7998):aL [fr p,fr q]=sd (fr (R5 p q)):=by
 have g:Bt 60000 p.1:=a.bt.mono (B7 rh f5);have i:Bt 60000 p.2:=a.bb.mono (B7 rh f5);have d:Bt 60000 q.1:=hq.bt.mono (B7 uR f5);have e:Bt 60000 q.2:=hq.bb.mono (B7 uR f5);obtain⟨k,j,f⟩:=Nf a.pos hq.pos a.low hq.low;have b:Bt 8000 (gc p.1 q.2):=(zq (by have:=hq.pos;exact L9) hq.bb).mono (B7 uR f5);have c:Bt 8000 (gc q.1 p.2):=(zq (by have:=a.pos;exact L9) a.bb).mono (B7 rh f5);have:=a.pos;have:=hq.pos;delta aL;walk_at "r";rw[mB (by split<;>lia) eN,Cc];walk_at "r";rw[mB (by split<;>lia) eN,Cc];walk_at "r";simp only[O7 (show gc p.1 q.2≠0 by exact L9) b,O7 (show gc q.1 p.2≠0 by exact L9) c];walk_at "r";rw[D6 g.fdiv d.fdiv];walk_at "r";simp only[O7 (show gc p.1 q.2≠0 by exact L9) b,O7 (show gc q.1 p.2≠0 by exact L9) c];walk_at "r";rw[D6 i.fdiv e.fdiv];delta R5;rw[f];rfl
abbrev fE(ns:List Int):f9:=.list (ns.map .int)
theorem Ji(ns:List Int):(ns.map cW).length=ns.length:=(F9 ..)
theorem Ny(a:0<=b)(h:b<Y.length):aA (Y.map cW) b=U (.int (Y.getD b.toNat 0)):=by
 rw[fM ((HK u4).symm) (by simp;simp[*]),M9,L6 C4];simp[L6 (show b.toNat<Y.length by simp[*])]
def yl:DO:=(t8 (u6 4 (u3 fh (u3 aG (u3 C8 (u3 fh (u7 3) (fC (.int 1000003))) (fC (.int 1))) (u3 C8 (u3 C8 (u3 aG (u7 1) (u7 1)) (u7 1)) (fC (.int 41)))) (fC (.int 999983)))) (C9 (u3 fh (u3 Z7 (u3 fh (u3 aG (u3 fh (u3 aG (u7 4) (u3 C8 (u7 4) (fC (.int 7919)))) (fC (.int 2147483647))) (fC (.int 69621))) (fC (.int 2147483629))) (fC (.int 11))) (u7 2))))
theorem PQ(g:0<=b)(f:b<=1000000)(e:0<t):∃r:Int,yl [sd d,iD b,iD t,iD y,J]=U (.ret (.dat (.int r)))/\0<=r/\r<t:=by
 have k:∀z:Int,0<=z.fmod t/\z.fmod t<t:=λz=>⟨su z e,AG z e⟩;have a:Bt 62 b:=Bt.small t9 (HD u4 f5);have bk:Bt 200 (b*b+b+41):=((((a.mul a).add (a.mono f5)).add (Bt.mono (Bt.small f5 f5) f5))).mono f5;delta yl;walk_at "r";rw[cp f5];walk_at "r";rw[D6 (a.mono f5) (a.mono f5)];walk_at "r";rw[D6 (Bt.qR t9 t9) (bk.mono f5)];walk_at "r";rw[cp f5];walk_at "r";rw[D6 (Bt.qR t9 t9) (Bt.qR t9 t9)];walk_at "r";rw[cp f5];walk_at "r";rw[D6 (Bt.qR t9 t9) Bt.lit];walk_at "r";rw[cp f5];walk_at "r";rw[O7 f5 Bt.lit];walk_at "r";rw[cp L9];exact⟨_,rfl,k _⟩
theorem U7{k m:Int}(l:Y.length<=63)(d:0<=k)(e:k<=1000000)(f:0<m):∃r:Int,D8 [fE Y,.int k,.int m]=sd (.int r)/\0<=r/\r<m:=by
 have g:∀z:Int,0<=z.fmod m/\z.fmod m<m:=λz=>⟨su z f,AG z f⟩
 have a:∀c,∃r:Int,(yl [sd (fE Y),iD k,iD m,iD c,J]).bind Lo=sd _/\0<=r/\r<m:=λc=>by obtain⟨r,h,j⟩:=PQ d e f;rw[h];exact⟨r,rfl,j⟩
 delta D8;walk_at "r";rw[Ji];by_cases b:(0:Int)<Y.length
 . rw[r9 b,cp L9];walk_at "r";rw[Ny (su k b) (AG k b)];walk_at "r";rw[Ny (ku 0) b];walk_at "r";rw[cp f5];walk_at "r";by_cases i:Int.fmod (Y.getD 0 0) 2=1
   . rw[r9 i,Ji];have:0<=k.fdiv Y.length:=Int.fdiv_nonneg d C4;have:k.fdiv Y.length<=k:=by have:=Ri k Y.length;omega
     rw[O7 f5 Bt.lit,O7 L9 (Bt.qR (vT _) t9)];walk_at "r";rw[D6 Bt.lit (Bt.qR bI bI)];walk_at "r";rw[SJ bI,EJ ⟨by decide,by decide,by decide⟩];walk_at "r";rw[cp f5];walk_at "r";rw[cp L9];walk_at "r";exact⟨_,rfl,g _⟩
   rw[s9 i];simp only[B6];exact a _
 rw[s9 b];simp only[B6];exact a 0
theorem KA(x y:Int)(a b z:Option PV):oi [a,b,iD x,iD y,z]=U (decide (0<y)):=by rfl
theorem a0c(x:Int)(a b z:Option PV)(h:y≠0):oo [a,b,iD x,iD y,z]=U (.next [a,b,iD y,iD (x.fmod y),iD (x.fmod y)]):=by delta oo;walk_at "r";rw[cp h];walk_at "r"
theorem norm_eq(r:0<b)(l:Bt 8000 b):fy [.int t,.int b]=sd (fr (G7 t b)):=by
 delta fy;walk_at "r";obtain⟨n,p,⟨a,c,j,rfl,k,m,g⟩,o⟩:=Cz (Fc:=oi) (λi=>∃a c j,i=[iD t,iD b,iD a,iD c,j]/\gc a c=gc t b/\0<=a/\0<=c) (λi=>za 3 i-1) (by
  rintro i ⟨a,c,j,rfl,k,m,g⟩;rw[KA];by_cases h:c=0;left;simp[h]
  . right;refine⟨by simp;lia,_,a0c a _ _ j h,⟨c,a.fmod c,_,rfl,?_,g,su a t9⟩,?_⟩;rw[<-k];show((F1 c _):Int)=(F1 a c);rw[FP]
    . have:=rf a h;assumption) (b.natAbs+1) [iD t,iD b,iD (if t<0 then -t else t),iD b,J] ⟨_,b,J,rfl,by
       show((F1 _ b):Int)=(F1 t b)
       split<;>simp,by split<;>lia,eN⟩ (by walk_at "r";simp[*])
 rw[KA]at o;have q:c=0:=by lia
 subst q;have e:gc a 0=a:=by show((F1 a 0))=a;rw[QR];exact sq u4
 rw[e]at k;subst k;rw[p];walk_at "r";have d:=Xb (t:=t) (show b≠0 by exact L9);have f:=zq (t:=t) (show b≠0 by exact L9) l;rw[O7 d f,O7 d f];delta G7;rw[s9 (Int.not_lt.2 eN)];rfl
theorem a5A(a:F0 m p)(hq:F0 n q)(h:m+n<=7998):Q4 [fr p,fr q]=sd (fr (iQ p q)):=by have d:Bt 60000 p.1:=a.bt.mono (B7 rh f5);have e:Bt 60000 p.2:=a.bb.mono (B7 rh f5);have b:Bt 60000 q.1:=hq.bt.mono (B7 uR f5);have c:Bt 60000 q.2:=hq.bb.mono (B7 uR f5);delta Q4;walk_at "r";simp only[D6,d,e,b,c];walk_at "r";rw[norm_eq (M3 a.pos hq.pos) ((a.bb.mul hq.bb).mono nI)];rfl
theorem Zx(a:F0 m p)(hq:F0 n q)(h:m+n<=7998):U1 [fr p,fr q]=sd (fr (R5 p q)):=by have d:Bt 60000 p.1:=a.bt.mono (B7 rh f5);have e:Bt 60000 p.2:=a.bb.mono (B7 rh f5);have b:Bt 60000 q.1:=hq.bt.mono (B7 uR f5);have c:Bt 60000 q.2:=hq.bb.mono (B7 uR f5);delta U1;walk_at "r";simp only[D6,d,e,b,c];walk_at "r";rw[norm_eq (M3 a.pos hq.pos) ((a.bb.mul hq.bb).mono nI)];rfl
structure Tr where
 a:Q2
 b:Q2
 c:Q2
noncomputable def oF(x:Tr):f9:=.tuple [fr x.a,fr x.b,fr x.c]
noncomputable def a4i(x y:Tr)(q:Q2):Tr:=⟨iQ x.a (R5 y.a q),iQ x.b (R5 y.b q),iQ x.c (R5 y.c q)⟩
theorem CI(q:Q2):aR (fr q)=Uf:=by rfl
theorem BJ(p q:Q2):dE (fr p) (fr q)=sd (.bool (decide (p≠q))):=by
 show(if aR (fr p)=Uf/\aR (fr q)=Uf then U _ else J)=_
 rw[r9 ⟨CI p,CI q⟩];have e:aw (fr p) (fr q)=decide (p=q):=by rw[rZ];simp[aw,vJ,Prod.ext_iff]
 rw[e];simp
mutual
theorem Ga:∀d:f9,d.canLay0=Uf->aw d d=Uf
 | .none,_=>rfl
 | .bool b,_=>by simp[aw]
 | .int i,_=>by simp[aw]
 | .str x,_=>by simp[aw]
 | .list a,h=>by rw[aw];exact vg a (by assumption)
 | .tuple a,h=>by rw[aw];exact vg a (by assumption)
 | .dict _,h=>by assumption
theorem vg:∀l:List f9,gP l=Uf->vJ l l=Uf
 | [],_=>rfl
 |x::r,h=>by
  have a:x.canLay0=Uf/\gP r=Uf:=by simpa [gP]using h
  rw[vJ,Ga x a.1,vg r a.2];rfl
end
structure FD(D M:Int)(q:Q2):Prop where
 pos:0<q.2
 low:F1 q.1 q.2=1
 dvd:q.2∣D
 xq:(q.1.natAbs:Int)<=M*q.2
theorem FD.mono(h:FD t y q)(hd:t∣b)(c:y<=x):FD b x q:=
 ⟨h.pos,h.low,gy h.dvd hd,W3 h.xq (og c (S9 h.pos))⟩
theorem FD.a2U(h:FD b t q)(hD:0<b)(D:Bt m b)(a:Bt m (t*b)):F0 m q:=by
 have l:=gO hD h.dvd;have p:=h.pos;have:=h.xq;have hM:0<=t:=by
  rcases fH t 0 with c|c
  have:=AR c p;lia;exact c
 have:=fX l hM;exact⟨p,h.low,a.of_le t9,D.of_le t9⟩
theorem aj(d:0<b):0<(G7 t b).2/\F1 (G7 t b).1 (G7 t b).2=1/\(G7 t b).1*b=t*(G7 t b).2/\(G7 t b).2∣b:=by
 have e:G7 t b=(t/gc t b,b/gc t b):=by delta G7;rw[s9 (Int.not_lt.2 eN),bM _ C4,bM _ C4]
 have h:gc t b∣t:=kB ..;have a:gc t b∣b:=kG ..;have c:=AJ a;rw[e];refine⟨Ih d C4 a,vV (xh t L9),?_,⟨gc t b,c.symm⟩⟩;generalize gc t b=g at *;have:t/g*b=t/g*(b/g*g):=by rw[c]
 rw[this,K7 _ g,<-O0,(AJ h)]
theorem Zy{c:Int}(a:0<b)(h:t*y=c*b):(G7 t b).2∣y:=by
 obtain⟨p,l,e,_⟩:=aj a;generalize (G7 t b).1=x at *;generalize (G7 t b).2=D at *;have k:x*y=c*D:=by
  apply vX (show b≠0 by exact L9);grind
 have z:D∣x*y:=⟨c,by rw[k,K7]⟩
 have f:D.natAbs∣x.natAbs*y.natAbs:=by rw[<-fx];exact Int.natAbs_dvd_natAbs.mpr z
 have d:Aa D.natAbs x.natAbs:=by rw[Ax];exact l
 exact Int.natAbs_dvd_natAbs.mp (d.dvd_of_dvd_mul_left f)
theorem JO(d:0<b)(h:(t.natAbs:Int)<=y*b):(((G7 t b).1).natAbs:Int)<=y*(G7 t b).2:=by
 obtain⟨p,l,e,_⟩:=aj d;generalize (G7 t b).1=x at *;generalize (G7 t b).2=M at *;have f:x.natAbs*b=t.natAbs*M:=by
  have:=C2 Int.natAbs e;rw[fx,fx]at this;have a:b.natAbs=b:=by lia
  have c:M.natAbs=M:=by lia
  rw[<-a,<-c]
  exact_mod_cast this
 apply Int.le_of_mul_le_mul_right _ d;rw[f];have:=og h (S9 p)
 calc t.natAbs*M<=y*b*M:=this
  _=y*M*b:=by simp only[pS,K7]
theorem a3m(h:0<=b):((t*b).natAbs:Int)=t.natAbs*b:=by rw[fx,He,sq h]
theorem FD.plus(D:FD b t p)(hq:FD b y q):FD b (t+y) (iQ p q):=by
 have d:=M3 D.pos hq.pos;obtain⟨a,l,_,_⟩:=aj d;obtain⟨u,f⟩:=D.dvd;obtain⟨v,e⟩:=hq.dvd;refine⟨a,l,Zy (c:=p.1*u+q.1*v) d ?_,JO d ?_⟩
 . have h:p.1*q.2*b=p.1*u*(p.2*q.2):=by rw[f];simp only[pS,K7]
   have g:q.1*p.2*b=q.1*v*(p.2*q.2):=by rw[e];simp only[pS,K7]
   rw[vB,vB,h,g]
 have h:=og D.xq (S9 hq.pos);have k:=og hq.xq (S9 D.pos);rw[<-a3m (S9 hq.pos)]at h;rw[<-a3m (S9 D.pos),Int.mul_right_comm]at k;rw[<-O0,vB,vB];exact W3 (Int.ofNat_le.mpr (QL _ _)) (Int.add_le_add h k)
theorem FD.times(D:FD b y p)(hq:FD t x q):FD (b*t) (y*x) (R5 p q):=by
 have c:=M3 D.pos hq.pos;obtain⟨a,l,_,d⟩:=aj c;refine⟨a,l,gy d (Int.mul_dvd_mul D.dvd hq.dvd),JO c ?_⟩;have:((p.1*q.1).natAbs:Int)=p.1.natAbs*q.1.natAbs:=by rw[fx];rfl
 rw[this];have e:0<=y*p.2:=by have:=D.xq;lia
 calc p.1.natAbs*q.1.natAbs<=(y*p.2)*(x*q.2):=GW D.xq hq.xq C4 e
  _=y*x*(p.2*q.2):=by simp only[pS,K7]
theorem qU(lo:Int)(n:Nat):(bA lo n).length=n:=by simp[bA]
def KC(l m:List f9):List f9:=GK (λx y=>.tuple [x,y]) l m
theorem RW(l m:List f9):eu [.list l,.list m]=U (KC l m):=rfl
abbrev q0:Q2:=(0,1)
theorem Kc(a:1<=m):F0 m q0:=sM (Bt.mono ⟨by decide⟩ a) a
abbrev rE(l:List Q2):f9:=.list (l.map fr)
noncomputable def bz:Option Q2->f9
 |none=>.none
 |some q=>fr q
abbrev a6z(l:List (Option Q2)):f9:=.list (l.map bz)
noncomputable abbrev rl(n:Nat)(f:Nat->f9):List f9:=(D3 n).map f
abbrev il(n:Nat)(f:Nat->Int):f9:=.list (rl n λi=>.int (f i))
theorem E5(n:Nat)(f:Nat->f9):(rl n f).length=n:=by simp[rl]
theorem N4(f:Nat->f9)(h:m<n):aA (rl n f) (m:Int)=U (f m):=by
 rw[fM rfl (by rw[E5];exact h),M9,gQ h];rfl
theorem NF(f:Nat->f9)(h:m<n):aA (rl n f) (0+(m:Int))=U (f m):=by rw[O8];exact N4 f h
theorem T9{g:Nat->f9}(h:∀i,i<n->f i=g i):rl n f=rl n g:=AI λi a=>h i (mem_range.mp a)
theorem ik(f:Nat->f9)(x:f9):(rl n f).set m x=rl n λk=>if k=m then x else f k:=by
 apply sf F5;intro k b a;simp only[Hq,se,HC];by_cases c:m=k;rw[r9 c,r9 c.symm];rw[s9 c,s9 λz=>c z.symm]
theorem uI(h:(rl n f)[m]?=U d):m<n/\d=f m:=by
 have a:m<n:=by
  by_cases c:m<n;exact c;rw[oa (by rw[E5];exact kC u4)]at h;exact nE h
 rw[M9,gQ a]at h;cases h;exact⟨a,rfl⟩
theorem Jp(n:Nat)(f:Nat->f9):rl n f++[f n]=rl (n+1) f:=by simp[rl,bL]
theorem a0Z(n:Nat)(x:f9):(F7 n [x]).flatten=rl n λ_=>x:=by
 induction n with
 |zero=>rfl
 |succ n a=>rw[List.replicate_succ',List.flatten_append,a,<-Jp];rfl
theorem a0e(f g:Nat->f9):KC (rl n f) (rl n g)=rl n λi=>.tuple [f i,g i]:=by
 apply sf (by simp[KC]);intro k b a;simp[KC]
theorem mi(f g:Nat->f9)(n:Nat):eu [.list (rl n f),.list (rl n g)]=U (rl n λi=>.tuple [f i,g i]):=by rw[RW,a0e]
theorem xa:∀(n:Nat) (f:Nat->f9) (o:Int),aK o (rl n f)=rl n λi=>.tuple [.int (o+(i:Int)),f i]:=by
 intro l_;induction l_ with
 |zero=>
  exact λf o=>rfl
 |succ n ih_=>
  intro f o;have e:∀g:Nat->f9,rl (n+1) g=g 0::rl n λi=>g _:=λg=>by rw[rl,Rt,E8,fw];rfl
  rw[e,e,aK,ih_]
  congr 1
  simp
  . exact T9 λi _=>by rw[show o+1+i=o+((i+1:Nat))from by lia]
theorem yN(n:Nat):bA 0 n=rl n λi=>.int (i:Int):=by exact AI λi _=>by rw[O8]
theorem M6{Fe:DV}{ds:Ds}{g:Nat->f9}{gt:f9->Option (List f9)}(h:∀i,i<n->∃bs pv,gt (f i)=U bs/\Fe (U8 bs++ds)=U pv/\pv.d=g i):Q8 gt C5 Fe ds (rl n f)=U (rl n g):=by
 have a:∀k,k<=n->Q8 gt C5 Fe ds ((rl n f).drop (n-k))=U ((rl n g).drop (n-k)):=by
  intro k;induction k with
  |zero=>intro _;rw[Nat.sub_zero,HV (by simp[rl]),HV (by simp[rl])];rfl
  |succ k m=>
   intro o;have b:n-(k+1)<n:=by omega
   have c:∀f:Nat->f9,(rl n f).drop (n-(k+1))=f (n-(k+1))::(rl n f).drop (n-k):=λf=>by
    rw[sv (by simpa [rl]using b),show n-(k+1)+1=n-k from by lia];simp[rl]
   rw[c,c];obtain⟨bs,pv,j,e,l⟩:=h _ b;unfold Q8;simp only[j,A4,C5,X3];rw[e];rw[m eI];simp only[A4,l]
 have:=a n G8
 rwa [Nat.sub_self]at this
theorem ZH(n:Nat)(f:Nat->Int):intsOf (rl n λi=>.int (f i))=U ((D3 n).map f):=ints_map f _
theorem Nk(n:Nat)(f:Nat->Int):((D3 n).map f).sum=Sx.sm n f:=by
 induction n with
 |zero=>rfl
 |succ n a=>rw[bL,W4,List.sum_append,a,Sx.sm];simp
noncomputable abbrev ia(c:List (Nat×Int)):f9:=.list (c.map λe=>.tuple [.int (e.1:Int),.int e.2])
def P2:List (Nat×Int)->Nat->Int
 | [],_=>0
 |e::c,r=>(if e.1=r then e.2 else 0)+P2 c r
theorem Vw(f:Nat->Int):∀c:List (Nat×Int),(∀e∈c,e.1<m)->(c.map λe=>f e.1*e.2).sum=Sx.dot m f (P2 c):=by
 intro l_;induction l_ with
 |nil=>
  intro _;delta Sx.dot;rw[Sx.jw λi _=>by rw[P2,X4]];rfl
 |cons e c ih_=>
  intro h;rw[E8,List.sum_cons,(ih_ λx g=>h x (E7 _ g))]
  delta Sx.dot;have d:(Sx.sm m λr=>f r*P2 (e::c) r)=Sx.sm m λr=>(if r=e.1 then f e.1*e.2 else 0)+f r*P2 c r:=Sx.C1 λr _=>by
   rw[P2];by_cases z:e.1=r;rw[r9 z,r9 z.symm,z,dX];rw[s9 z,s9 λy=>z y.symm,O8,O8]
  have a:(Sx.sm m λr=>if r=e.1 then f e.1*e.2 else 0)=f e.1*e.2:=by rw[Sx.X7 (h e F2) λi _ b=>by rw[s9 b],r9 rfl]
  rw[d,Sx.jK,a]
theorem cq(h:n<=1000):(rl n f).length<=1000000:=by rw[E5];exact nI
theorem Lh{f:Nat->Int}(c:m<=1000)(b:∀i,i<m->Bt 60000 (f i))(d:∀i,i<m->Bt 60000 (g i)):mZ [il m f,il m g]=sd (.int (Sx.dot m f g)):=by
 delta mZ;walk_at "r";rw[mi];walk_at "r";rw[r9 (cq c),M6 λi a=>⟨_,_,rfl,by delta qJ;walk_at "r";rw[D6 (b i a) (d i a)],rfl⟩];walk_at "r";rw[ZH];walk_at "r";rw[Nk];rfl
theorem zH{c:List (Nat×Int)}(p:c.length<=1000)(a:∀e∈c,e.1<m/\Bt 60000 e.2)(k:∀i,i<m->Bt 60000 (g i)):aM [il m g,ia c]=sd (.int (Sx.dot m g (P2 c))):=by
 delta aM;walk_at "r";have e:Q8 (U4 2) C5 Y2 [sd (il m g),sd (ia c)] (c.map λe=>.tuple [.int e.1,.int e.2])=U (c.map λe=>.int (g e.1*e.2)):=by
  have:∀l:List (Nat×Int),(∀e∈l,e.1<m/\Bt 60000 e.2)->Q8 (U4 2) C5 Y2 [sd (il m g),sd (ia c)] (l.map λe=>.tuple [.int e.1,.int e.2])=U (l.map λe=>.int (g e.1*e.2)):=by
   intro l;induction l with
   |nil=>intro _;rfl
   |cons x l o=>
    intro h;obtain⟨b,f⟩:=h x F2;rw[E8,Q8];simp only[U4,Y7,kA,X3,A4,qp,tw,cz,cZ];have d:Y2 [sd (.int x.1),sd (.int x.2),sd (il m g),sd (ia c)]=sd (.int (g x.1*x.2)):=by delta Y2;walk_at "r";rw[N4 _ b];walk_at "r";rw[D6 (k _ b) f]
    rw[d];rw[o λy n=>h y (E7 _ n)];rfl
  exact this c a
 rw[r9 (by rw[F9];exact nI),e];walk_at "r";rw[ints_map,A4,Vw g c λe j=>(a e j).1];rfl
theorem CA{f:Nat->Int}(j:m<=1000)(o:∀i,i<m->Bt 20000 (f i))(n:∀i,i<m->Bt 20000 (g i))(l:Bt 20000 b)(q:Bt 20000 t)(p:Bt 8000 y)(s:0<y):
  ∃r,ji [il m f,il m g,.int b,.int t,.int y]=U r/\r.d=il m λi=>(f i*t-b*g i).fdiv y:=by
 have k:(b=0/\t=y)\/¬(b=0/\t=y):=Classical.em _;rcases k with ⟨a,h⟩|c
 subst a h;refine⟨.dat (il m f),?_,?_⟩;delta ji;walk_at "r";show mN _=.list (rl m λi=>.int _);rw[T9 λi _=>?_];rw[cX,vE,Int.mul_fdiv_cancel _ L9]
 . refine⟨.own _,?_,rfl⟩;delta ji;walk_at "r";have e:(if b=0 then(U (decide (t=y)))else U U')=U U':=by
    by_cases a:b=0;rw[r9 a,ay λz=>c ⟨a,z⟩];rw[s9 a]
   rw[e];walk_at "r";rw[mi];walk_at "r";rw[r9 (cq j),M6 λi d=>⟨_,_,rfl,by delta tO;walk_at "r";rw[D6 ((o i d).mono f5) (q.mono f5),D6 (l.mono f5) ((n i d).mono f5)];walk_at "r";rw[O7 L9 p],rfl⟩];rfl
end Law
set_option hygiene false
local macro_rules|`(tactic|walk_at "f")=>`(tactic|repeat (first|rw[r9 trivial]|rw[s9 M8]))
set_option hygiene true
namespace Law
open PySem L2
structure W2 where
 m:Nat
 n:Nat
 sc:Nat->Int
 col:Nat->List (Nat×Int)
 mu:Nat->Int
 wt:Nat->Nat->Int
 un:Int
 lim:Nat->Option Int
def jf:Option Int->f9
 |none=>.none
 |some v=>.int v
def W2.pb(Q:W2)(b:Nat->Int):Sx.Pb:=⟨Q.m,Q.n,λj=>P2 (Q.col j),b,Q.lim,Q.wt⟩
def N5(Q:W2)(T:Sx.Tb):List (Str×PF):=[("scales",.dat (il Q.n Q.sc)),("columns",.dat (.list (rl Q.n λj=>ia (Q.col j)))),("multiples",.own (rl 3 λt=>.int (Q.mu t))),("weights",.own (rl 3 λt=>il Q.n (Q.wt t))),("unit",.dat (.int Q.un)),("rights",.own (rl Q.m λp=>.int (T.rt p))),("limits",.dat (.list (rl Q.n λj=>jf (Q.lim j)))),("chosen",.own (rl Q.m λk=>.int (T.B k:Int))),("full",.own (rl Q.n λj=>.bool (T.full j))),("size",.dat (.int T.size)),("inverse",.dat (.list (rl Q.m λk=>il Q.m (T.inv k)))),("prices",.own (rl 3 λt=>il Q.m (T.pr t)))]
abbrev E6(Q:W2)(T:Sx.Tb):OD:=.ins "Table" (N5 Q T)
def L1(Q:W2)(T:Sx.Tb):f9:=(E6 Q T).d
abbrev OL:List Str:=["scales","columns","multiples","weights","unit","rights","limits","chosen","full","size","inverse","prices"]
abbrev lT(Q:W2)(T:Sx.Tb):List f9:=[(il Q.n Q.sc),(.list (rl Q.n λj=>ia (Q.col j))),.list (rl 3 λt=>.int (Q.mu t)),.list (rl 3 λt=>il Q.n (Q.wt t)),(.int Q.un),.list (rl Q.m λp=>.int (T.rt p)),(.list (rl Q.n λj=>jf (Q.lim j))),.list (rl Q.m λk=>.int (T.B k:Int)),.list (rl Q.n λj=>.bool (T.full j)),(.int T.size),(.list (rl Q.m λk=>il Q.m (T.inv k))),.list (rl 3 λt=>il Q.m (T.pr t))]
theorem a0H(Q:W2)(T:Sx.Tb):L1 Q T=BX "Table" OL (lT Q T):=rfl
theorem bX(Q:W2)(T:Sx.Tb):wQ "Table" (L1 Q T)=U (OL.map .str,lT Q T):=by rw[a0H];exact Pp _ _ _
theorem Qr(w:Option Addr)(Q:W2)(T:Sx.Tb):PV.d (.ob w (.ins "Table" (N5 Q T)))=L1 Q T:=rfl
theorem Dm(b:Bool):Xk (PV.d (.dat (.bool b)))=U b:=rfl
section
variable(Q:W2)(T:Sx.Tb)
theorem zr:Z6 "Table" "scales" (L1 Q T)=U ((il Q.n Q.sc)):=by delta Z6;rw[bX,A4];simp only[E8,W0];walk_at "f"
theorem xw:Z6 "Table" "columns" (L1 Q T)=U ((.list (rl Q.n λj=>ia (Q.col j)))):=by delta Z6;rw[bX,A4];simp only[E8,W0];walk_at "f"
theorem zd:J3 "columns" (N5 Q T)=U (.dat (.list (rl Q.n λj=>ia (Q.col j)))):=by simp only[N5,J3];walk_at "f"
theorem tZ:Z6 "Table" "multiples" (L1 Q T)=U (.list (rl 3 λt=>.int (Q.mu t))):=by delta Z6;rw[bX,A4];simp only[E8,W0];walk_at "f"
theorem xu:Z6 "Table" "weights" (L1 Q T)=U (.list (rl 3 λt=>il Q.n (Q.wt t))):=by delta Z6;rw[bX,A4];simp only[E8,W0];walk_at "f"
theorem FU:Z6 "Table" "unit" (L1 Q T)=U ((.int Q.un)):=by delta Z6;rw[bX,A4];simp only[E8,W0];walk_at "f"
theorem zt:Z6 "Table" "rights" (L1 Q T)=U (.list (rl Q.m λp=>.int (T.rt p))):=by delta Z6;rw[bX,A4];simp only[E8,W0];walk_at "f"
theorem uS:J3 "rights" (N5 Q T)=U (.own (rl Q.m λp=>.int (T.rt p))):=by simp only[N5,J3];walk_at "f"
theorem zv:Z6 "Table" "limits" (L1 Q T)=U ((.list (rl Q.n λj=>jf (Q.lim j)))):=by delta Z6;rw[bX,A4];simp only[E8,W0];walk_at "f"
theorem CT:J3 "limits" (N5 Q T)=U (.dat (.list (rl Q.n λj=>jf (Q.lim j)))):=by simp only[N5,J3];walk_at "f"
theorem zw:Z6 "Table" "chosen" (L1 Q T)=U (.list (rl Q.m λk=>.int (T.B k:Int))):=by delta Z6;rw[bX,A4];simp only[E8,W0];walk_at "f"
theorem uU:J3 "chosen" (N5 Q T)=U (.own (rl Q.m λk=>.int (T.B k:Int))):=by simp only[N5,J3];walk_at "f"
theorem FX:Z6 "Table" "full" (L1 Q T)=U (.list (rl Q.n λj=>.bool (T.full j))):=by delta Z6;rw[bX,A4];simp only[E8,W0];walk_at "f"
theorem BO:J3 "full" (N5 Q T)=U (.own (rl Q.n λj=>.bool (T.full j))):=by simp only[N5,J3];walk_at "f"
theorem FW:Z6 "Table" "size" (L1 Q T)=U ((.int T.size)):=by delta Z6;rw[bX,A4];simp only[E8,W0];walk_at "f"
theorem JP:J3 "size" (N5 Q T)=U (.dat (.int T.size)):=by simp only[N5,J3];walk_at "f"
theorem xv:Z6 "Table" "inverse" (L1 Q T)=U ((.list (rl Q.m λk=>il Q.m (T.inv k)))):=by delta Z6;rw[bX,A4];simp only[E8,W0];walk_at "f"
theorem zc:J3 "inverse" (N5 Q T)=U (.dat (.list (rl Q.m λk=>il Q.m (T.inv k)))):=by simp only[N5,J3];walk_at "f"
theorem zu:Z6 "Table" "prices" (L1 Q T)=U (.list (rl 3 λt=>il Q.m (T.pr t))):=by delta Z6;rw[bX,A4];simp only[E8,W0];walk_at "f"
theorem uT:J3 "prices" (N5 Q T)=U (.own (rl 3 λt=>il Q.m (T.pr t))):=by simp only[N5,J3];walk_at "f"
theorem JI:W0 "rest" (OL.map .str) (lT Q T)=J:=by simp only[E8,rS,W0];walk_at "f"
theorem yX:W0 "amounts" (OL.map .str) (lT Q T)=J:=by simp only[E8,rS,W0];walk_at "f"
theorem xZ:J3 "flip" (N5 Q T)=J:=by simp only[N5,J3];walk_at "f"
theorem UH:J3 "turn" (N5 Q T)=J:=by simp only[N5,J3];walk_at "f"
theorem NM(r:Nat->Int):R7 "rights" (.own (rl Q.m λp=>.int (r p))) (N5 Q T)=N5 Q {T with rt:=r}:=by simp only[N5,R7];walk_at "f"
theorem NP(r:Nat->Nat):R7 "chosen" (.own (rl Q.m λk=>.int (r k:Int))) (N5 Q T)=N5 Q {T with B:=r}:=by simp only[N5,R7];walk_at "f"
theorem Yv(r:Nat->Bool):R7 "full" (.own (rl Q.n λj=>.bool (r j))) (N5 Q T)=N5 Q {T with full:=r}:=by simp only[N5,R7];walk_at "f"
theorem Yu(r:Int):R7 "size" (.dat (.int r)) (N5 Q T)=N5 Q {T with size:=r}:=by simp only[N5,R7];walk_at "f"
theorem Lg(r:Nat->Nat->Int):R7 "inverse" (.dat (.list (rl Q.m λk=>il Q.m (r k)))) (N5 Q T)=N5 Q {T with inv:=r}:=by simp only[N5,R7];walk_at "f"
theorem NO(r:Nat->Nat->Int):R7 "prices" (.own (rl 3 λt=>il Q.m (r t))) (N5 Q T)=N5 Q {T with pr:=r}:=by simp only[N5,R7];walk_at "f"
end
theorem tm{Q:W2}{T:Sx.Tb}{m:Str}{f:FV}{b:DV}{a:DL}{ds:Ds}{pv:PV}{l:List f9}(h:b ds=U pv)(hd:pv.d=L1 Q T)(e:W0 m (OL.map .str) (lT Q T)=J)(c:a ds=U l):Z8 "Table" m f b a ds=f (L1 Q T::l):=by delta Z8;rw[h,A4,hd,bX,A4];simp only[e,c,A4]
structure bK(Q:W2)(T:Sx.Tb):Prop where
 m1:Q.m<=1000
 n1:Q.n<=1000
 cl:∀j,j<Q.n->(Q.col j).length<=1000
 cb:∀j,j<Q.n->∀e∈Q.col j,e.1<Q.m/\Bt 7000 e.2
 wb:∀t j,t<3->j<Q.n->Bt 7000 (Q.wt t j)
 lb:∀j v,j<Q.n->Q.lim j=U v->Bt 7000 v
 bn:∀k,k<Q.m->T.B k<Q.n
 rb:∀p,p<Q.m->Bt 7000 (T.rt p)
 ib:∀k q,k<Q.m->q<Q.m->Bt 7000 (T.inv k q)
 pb:∀t q,t<3->q<Q.m->Bt 7000 (T.pr t q)
 sb:Bt 7000 T.size
 sp:0<T.size
 ab:∀k,k<Q.m->Bt 7000 (T.am (Q.pb λ_=>0) k)
 zJ:∀a k,a<Q.n->k<Q.m->Bt 7000 (T.A3 (Q.pb λ_=>0) a k)
 rsb:∀t a,t<3->a<Q.n->Bt 7000 (T.rest (Q.pb λ_=>0) t a)
end Law
set_option hygiene false
local macro_rules|`(tactic|walk_at "v")=>`(tactic|((first|simp only[J7,P9,jU,hZ,cN,Z5,nX,aJ,U6,iS,jX,Gf,uP,R8,my,W9,iR,Q6,fN,Law.zr,Law.xw,Law.tZ,Law.xu,Law.FU,Law.zt,Law.zv,Law.zw,Law.FX,Law.FW,Law.xv,Law.zu,Law.zd,Law.uS,Law.CT,Law.uU,Law.BO,Law.JP,Law.zc,Law.uT,Law.Qr,Law.Dm]|walk_at "r");repeat (first|simp only[J7,P9,jU,hZ,cN,Z5,nX,aJ,U6,iS,jX,Gf,uP,R8,my,W9,iR,Q6,fN,Law.zr,Law.xw,Law.tZ,Law.xu,Law.FU,Law.zt,Law.zv,Law.zw,Law.FX,Law.FW,Law.xv,Law.zu,Law.zd,Law.uS,Law.CT,Law.uU,Law.BO,Law.JP,Law.zc,Law.uT,Law.Qr,Law.Dm]|walk_at "r")))
set_option hygiene true
namespace Law
open PySem L2
variable{m e N:Nat}{D E M:Int}{r L:Ds}{y u:Rat}{G H:DV}{g:W2}{z R:PV}{q:Q2}{l:List f9}{o:Str}{v:Nat->Rat}{A:f9}{X:Nat->Nat->Rat}{C:Nat->Int}{K:Option PV}{O:Option Addr}{S:List Int}{a2:List Key->Rat}{a7:DO}{a8:FV}{a9:Sx.Pb}{b3:List (Str×PF)}{b4:List Key}{b7:PF}{b8:Sx.Tb}{c6:f9->DD}{c7:Bool}{c8:DL}{d2:Type}{d3:Ds->Option (List AV)}{d5:Nat->f9}{d6:Option Out}{g8:Nat->Nat}{h8:Option PV->Ds}{i3:Ds->Option PV}
section
variable{T:Sx.Tb}
theorem tW(h:m<3):m=0\/m=1\/m=2:=by lia
theorem Jq(b:m<3)(f:e<g.n)(cl:(g.col e).length<=1000)(c:∀t∈g.col e,t.1<g.m/\Bt 7000 t.2)(Q:Bt 7000 (g.wt m e))(h:Bt 7000 T.size)(pb:∀q,q<g.m->Bt 7000 (T.pr m q)):cw [L1 g T,.int (m:Int),.int (e:Int)]=sd (.int (T.rest (g.pb λ_=>0) m e)):=by
 delta cw;walk_at "v";rw[N4 _ b];walk_at "v";rw[N4 _ f,N4 _ b];walk_at "v";rw[N4 _ f];walk_at "v";rw[D6 (Q.mono f5) (h.mono f5),zH cl (λt d=>⟨(c t d).1,((c t d).2).mono f5⟩) λi j=>(pb i j).mono f5];rfl
theorem rest_eq(K:bK g T)(c:m<3)(b:e<g.n):cw [L1 g T,.int (m:Int),.int (e:Int)]=sd (.int (T.rest (g.pb λ_=>0) m e)):=
 Jq c b (K.cl e b) (K.cb e b) (K.wb m e c b) K.sb λq hq=>K.pb m q c hq
theorem zO(K:bK g T):ai [L1 g T]=U (.own (rl g.m λk=>.int (T.am (g.pb λ_=>0) k))):=by
 delta ai;walk_at "v";rw[r9 (cq K.m1),M6 λk b=>⟨_,_,rfl,by delta ig;walk_at "v";rw[Lh K.m1 (λi a=>(K.ib k i b a).mono f5) λi a=>(K.rb i a).mono f5],rfl⟩];rfl
theorem Us(K:bK g T)(b:m<g.n):bC [L1 g T,.int (m:Int)]=U (.own (rl g.m λk=>.int (T.A3 (g.pb λ_=>0) m k))):=by
 delta bC;walk_at "v";rw[r9 (cq K.m1),M6 λk d=>⟨_,_,rfl,by delta kT;walk_at "v";rw[N4 _ b];walk_at "v";rw[zH (K.cl m b) (λe c=>⟨(K.cb m b e c).1,((K.cb m b e c).2).mono f5⟩) λi f=>(K.ib k i d f).mono f5],rfl⟩];rfl
end
section
variable{T:Sx.Tb}
abbrev G3(Q:W2):Sx.Pb:=Q.pb λ_=>0
theorem Vp(o:Option Int):X0 (jf o) (.int 0)=sd (.bool (decide (o=U 0))):=by
 cases o with
 |none=>
  rfl
 |some v=>
  rw[show jf _=.int v from rfl,yj];simp
noncomputable def Eb(r:Nat->Int):Option (Nat×Int):=
 if r 0≠0 then(if r 0<0 then U (0,r 0)else J)else if r 1≠0 then(if r 1<0 then U (1,r 1)else J)else if r 2≠0 then(if r 2<0 then U (2,r 2)else J)else J
theorem Dc(r:Nat->Int):(Eb r).isSome=Uf↔Sx.Neg r:=by
 delta Eb Sx.Neg;by_cases a:r 0=0
 . rw[s9 (λz=>z a)];by_cases b:r 1=0
   . rw[s9 (λz=>z b)];by_cases c:r 2=0;rw[s9 (λz=>z c)];simp;simp[*]
     . rw[r9 c];split<;>simp<;>simp_all
   . rw[r9 b];split<;>simp<;>simp_all
 simp_all
def gn(Q:W2)(T:Sx.Tb)(j:Nat):Option (Nat×Int):=if Q.lim j=U 0 then J else Eb λt=>T.sg j*T.rest (G3 Q) t j
noncomputable def oZ:Option (Nat×Int)->f9
 |none=>.none
 |some (t,r)=>.tuple [.int (t:Int),.int r]
theorem gn_enter(a:m<g.n)(b:Nat->Int):(gn g T m).isSome=Uf↔Sx.S0 (g.pb b) T m:=by
 delta gn;constructor
 . intro h;by_cases c:g.lim m=U 0
   . simp_all
   rw[s9 c]at h;exact⟨a,c,(Dc _).mp h⟩
 intro h;rw[s9 (show g.lim m≠U 0 from h.u0)];exact(Dc _).mpr h.neg
theorem sgD(T:Sx.Tb)(j:Nat):(if T.full j=Uf then U (PV.dat (.int (-1)))else U (PV.dat (.int 1)))=U (PV.dat (.int (T.sg j))):=by delta Sx.Tb.sg;split<;>rfl
theorem WB(T:Sx.Tb)(j:Nat):Bt 60000 (T.sg j):=by
 delta Sx.Tb.sg;split;exact Bt.lit;exact Bt.lit
theorem yc(K:bK g T){t:Nat}(b:t<3)(a:m<g.n)(e:Option PV):
  mh [sd (L1 g T),iD (m:Int),iD (T.sg m),iD (t:Int),e]=U (if T.sg m*T.rest (G3 g) t m≠0 then .ret (.dat (if T.sg m*T.rest (G3 g) t m<0 then .tuple [.int (t:Int),.int (T.sg m*T.rest (G3 g) t m)]else .none))
   else .next [sd (L1 g T),iD (m:Int),iD (T.sg m),iD (t:Int),iD (T.sg m*T.rest (G3 g) t m)]):=by
 delta mh;walk_at "v";rw[tm (l:=[.int t,.int m]) rfl rfl (JI g T) rfl,rest_eq K b a];walk_at "v";rw[D6 (WB T m) ((K.rsb t m b a).mono f5)];walk_at "v";by_cases c:T.sg m*T.rest (G3 g) t m=0;rw[s9 (λz=>z c),s9 (λz=>z c)]
 . rw[r9 c,r9 c];by_cases d:T.sg m*T.rest (G3 g) t m<0
   . simp_all
   simp only[s9 d];walk_at "v"
theorem sW{ds1:Ds}(a:c6 A L=U ds1)(b:a7 ds1=U (.ret z)):V6 c6 a7 (A::l) L=U (.ret z):=by
 unfold V6
 simp_all
theorem wV(K:bK g T)(a:m<g.n):ni [L1 g T,.int (m:Int)]=sd (oZ (gn g T m)):=by
 delta ni gn;walk_at "v";rw[N4 _ a];walk_at "v";rw[Vp];walk_at "v";by_cases c:g.lim m=U 0;simp only[r9 c];rfl
 . simp only[s9 c];walk_at "v";rw[N4 _ a];walk_at "v";rw[sgD];walk_at "v";have b:=yc K (t:=0) f5 a;have d:=yc K (t:=1) f5 a;have e:=yc K (t:=2) f5 a;delta Eb;by_cases f:T.sg m*T.rest (G3 g) 0 m=0
   . simp only[f]at b⊢;rw[O6 rfl (b J)];by_cases Q:T.sg m*T.rest (G3 g) 1 m=0
     . simp only[Q]at d⊢;rw[O6 rfl (d _)];by_cases h:T.sg m*T.rest (G3 g) 2 m=0;simp only[h]at e⊢;rw[O6 rfl (e _)];rfl
       . simp only[r9 (show T.sg m*T.rest _ 2 m≠0 from h)]at e⊢
         rw[sW rfl (e _)];split<;>rfl
     . simp only[r9 (show T.sg m*T.rest _ 1 m≠0 from Q)]at d⊢
       rw[sW rfl (d _)];split<;>rfl
   . simp only[r9 (show T.sg m*T.rest _ 0 m≠0 from f)]at b⊢
     rw[sW rfl (b _)];split<;>rfl
theorem Vh{gt:f9->DD}{G:DO}(I:Nat->Ds->Prop)(R:PV->Prop)(hs:∀i d ds,l[i]?=U d->I i ds->∃ds1,gt d ds=U ds1/\((∃ds2,G ds1=U (.next ds2)/\I (i+1) ds2)\/∃pv,G ds1=U (.ret pv)/\R pv)):
  ∀(k i:Nat) (ds:Ds),i+k=l.length->I i ds->(∃ds',V6 gt G (l.drop i) ds=U (.next ds')/\I l.length ds')\/∃pv,V6 gt G (l.drop i) ds=U (.ret pv)/\R pv:=by
 intro l_;induction l_ with
 |zero=>
  intro i ds e h;rw[HV (by simp_all)]
  have:i=l.length:=by omega
  rw[<-this];exact .inl ⟨ds,rfl,h⟩
 |succ k ih_=>
  intro i ds e h;have c:i<l.length:=by lia
  rw[sv c];obtain⟨ds1,f,⟨ds2,b,a⟩|⟨pv,b,a⟩⟩:=hs i _ ds (L6 c) h;rw[O6 f b];exact ih_ _ ds2 t9 a;exact .inr ⟨pv,sW f b,a⟩
def optN:Option Nat->f9
 |none=>.none
 |some a=>.int (a:Int)
theorem a2q(x y:Nat×Int):∃b,BN (oZ (U x)) (oZ (U y))=sd (.bool b):=⟨_,rfl⟩
theorem CP(K:bK g T)(e:Bool):∃r:Option Nat,jj [L1 g T,.bool e]=sd (optN r)/\(r=J->∀j,j<g.n->gn g T j=J)/\∀a,r=U a->a<g.n/\(gn g T a).isSome=Uf/\(e=Uf->∀j,j<a->gn g T j=J):=by
 delta jj;walk_at "v";rw[E5,T8 (by have:=K.n1;lia)]
 walk_at "v";rw[cA,yN];have u:=Vh (gt:=D7 4) (G:=bU)
  (λi H=>∃(r:Option Nat) (best:Option (Nat×Int)) (x o:Option PV),H=[sd (L1 g T),sd (.bool e),sd (optN r),sd (oZ best),x,o]/\(r.isSome=best.isSome)/\(r=J->∀j,j<i->gn g T j=J)/\(∀a,r=U a->a<g.n/\(gn g T a).isSome=Uf/\e=U'))
  (λpv=>∃a,pv=.dat (optN (U a))/\a<g.n/\(gn g T a).isSome=Uf/\∀j,j<a->gn g T j=J)
  (by
   rintro i d H P ⟨r,best,x,o,rfl,q,t,m⟩;obtain⟨p,rfl⟩:=uI P;refine⟨_,rfl,?_⟩;cases hg:gn g T i with
   |none=>
    refine .inl ⟨[sd _,sd _,sd _,sd _,iD i,sd .none],?_,r,best,_,_,rfl,q,λk j E=>?_,m⟩;delta bU;walk_at "v";rw[wV K p,hg];rfl;by_cases c:j=i;rw[c];exact hg;exact t k j (pV (mS u4) u4)
   |some Q=>
    have L:(r=J\/∃l f,r=U l/\best=U f/\(∃w,BN (oZ (U Q)) (oZ (U f))=sd (.bool w)/\w=Uf))->bU [sd (L1 g T),sd (.bool e),sd (optN r),sd (oZ best),iD i,o]=if e=Uf then U (.ret (.dat (.int i)))else U (.next [sd (L1 g T),sd (.bool e),iD i,sd (oZ (U Q)),iD i,sd (oZ (U Q))]):=by
     obtain⟨A,B⟩:=Q;rintro(rfl|⟨l,⟨O,N⟩,rfl,rfl,w,s,rfl⟩);delta bU;walk_at "v";rw[wV K p,hg];simp only[oZ,optN];walk_at "v";delta bU;walk_at "v";rw[wV K p,hg];simp only[oZ,optN]at s⊢;walk_at "v";rw[s];walk_at "v"
    have I:e=U'->(r=J\/∃l f,r=U l/\best=U f/\(∃w,BN _ _=sd _/\w=Uf))->(∃v,bU [sd (L1 g T),sd (.bool e),sd (optN r),sd (oZ best),iD i,o]=U _/\∃(r:Option Nat) (best:Option _) (x o:Option PV),v=[sd _,sd _,sd (optN r),sd (oZ best),x,o]/\(r.isSome=best.isSome)/\(r=J->∀j,j<i+1->gn g T j=J)/\(∀a,r=U a->a<g.n/\(gn g T a).isSome=Uf/\e=U')):=λy h=>by rw[L h,y];exact⟨_,rfl,U i,U Q,_,_,rfl,rfl,(λz=>nS z),λa D=>by cases D;exact⟨p,by rw[hg];rfl,rfl⟩⟩
    cases k:r with
    |none=>
     cases y:e with
     |false=>
      subst y k;exact .inl (I rfl (.inl rfl))
     |true=>
      subst y k;exact .inr ⟨.dat (.int i),L (.inl rfl),i,rfl,p,by rw[hg];rfl,t rfl⟩
    |some l=>
     obtain⟨A,B,C⟩:=m l k;subst C;cases hbb:best with
     |none=>rw[k,hbb]at q;cases q
     |some f=>
      subst k hbb;obtain⟨w,s⟩:=a2q Q f;cases w with
      |true=>exact .inl (I rfl (.inr ⟨l,f,rfl,rfl,Uf,s,rfl⟩))
      |false=>
       refine .inl ⟨[sd _,sd _,sd _,sd _,iD i,sd (oZ (U Q))],?_,U l,U f,_,_,rfl,rfl,(λz=>nS z),m⟩
       obtain⟨A,B⟩:=Q;obtain⟨O,N⟩:=f;delta bU;walk_at "v";rw[wV K p,hg];simp only[oZ,optN]at s⊢;walk_at "v";rw[s];walk_at "v")
  g.n 0 [sd _,sd _,sd .none,sd .none,J,J] (by rw[E5];exact rR _ _) ⟨J,J,J,J,rfl,rfl,λ_ j E=>nZ,λa h=>nE h⟩
 rw[List.drop_zero]at u;rcases u with ⟨R,t,r,best,x,o,rfl,q,m,F⟩|⟨pv,t,a,rfl,m,F,M⟩
 rw[t];refine⟨r,rfl,λk j E=>m k j (by rw[E5];exact E),λa D=>?_⟩;obtain⟨A,B,C⟩:=F a D;exact⟨A,B,λz=>by rw[C]at z;exact nT z⟩;rw[t];exact⟨U a,rfl,(λz=>nS z),λb q=>by cases q;exact⟨m,F,λ_=>M⟩⟩
end
abbrev eH(Q:W2)(T:Sx.Tb)(a:Nat):List f9:=rl Q.m λk=>.int (T.A3 (G3 Q) a k)
structure fU where
 top:Int
 bot:Int
 ch:Nat
 pl:Option Nat
 tp:Bool
variable{B:fU}{d9:List fU}
noncomputable def Z3(s:fU):f9:=.tuple [.int s.top,.int s.bot,.int (s.ch:Int),optN s.pl,.bool s.tp]
section
variable{T:Sx.Tb}
def wy(Q:W2)(a:Nat):List fU:=match Q.lim a with
 |some v=>[⟨v,1,a,J,U'⟩]
 |none=>[]
noncomputable def stK(Q:W2)(T:Sx.Tb)(a k:Nat):List fU:=
 if 0<T.sg a*T.A3 (G3 Q) a k then[⟨T.am (G3 Q) k,T.sg a*T.A3 (G3 Q) a k,T.B k,U k,U'⟩]
 else if T.sg a*T.A3 (G3 Q) a k<0 then(match Q.lim (T.B k)with
  |some v=>[⟨v*T.size-T.am (G3 Q) k,-(T.sg a*T.A3 (G3 Q) a k),T.B k,U k,Uf⟩]
  |none=>[])
 else[]
def stI(Q:W2)(T:Sx.Tb)(a:Nat):Nat->List fU
 | 0=>wy Q a
 |k+1=>stI Q T a k++stK Q T a k
theorem XT(Q:W2)(T:Sx.Tb)(a:Nat):∀k,(stI Q T a k).length<=k+1:=by
 intro l_;induction l_ with
 |zero=>
  unfold stI wy;split<;>simp
 |succ k ih_=>
  rw[stI,T7];have:(stK Q T a k).length<=1:=by
   unfold stK;split;simp
   . split
     . split<;>simp
     simp
  exact Ao u4 u4
theorem Nn(K:bK g T)(f:m<g.n)(b:e<g.m)(x7 x8 h:Option PV){l:List fU}(o:l.length<=10000):∃i j Q,
  nk [sd (L1 g T),iD (m:Int),sd (.list (eH g T m)),U (.own (l.map Z3)),iD (T.sg m),iD (0+(e:Int)),iD (T.am (G3 g) e),x7,x8,h]=U (.next [sd (L1 g T),iD (m:Int),sd (.list (eH g T m)),U (.own ((l++stK g T m e).map Z3)),iD (T.sg m),iD (0+(e:Int)),iD (T.am (G3 g) e),i,j,Q]):=by
 have d:=K.bn e b;refine⟨iD (T.B e),sd (jf (g.lim (T.B e))),iD (T.sg m*T.A3 (G3 g) m e),?_⟩;delta nk;walk_at "v";rw[NF _ b];walk_at "v";rw[N4 _ d];walk_at "v";rw[NF _ b];walk_at "v";rw[D6 (WB T m) ((K.zJ m e f b).mono f5)];walk_at "v";delta stK;by_cases c:0<T.sg m*T.A3 (G3 g) m e;simp only[r9 c];rw[gk _ rfl (by rw[F9];exact mV u4 f5),W4];simp only[O8];rfl
 . simp only[s9 c];by_cases a:T.sg m*T.A3 (G3 g) m e<0
   . simp only[r9 a];cases hlim:g.lim _ with
     |none=>
      simp only[jf];walk_at "v"
     |some v=>
      simp only[jf];walk_at "v";rw[D6 ((K.lb _ v d hlim).mono f5) (K.sb.mono f5)];walk_at "v";rw[gk _ rfl (by rw[F9];exact mV u4 f5),W4];simp only[O8];rfl
   simp only[s9 a];walk_at "v"
theorem SH(K:bK g T)(Q:m<g.n):jG [L1 g T,.int (m:Int),.list (eH g T m)]=U (.own ((stI g T m g.m).map Z3)):=by
 have:=K.m1;obtain⟨s,r,j,o,c,b,f,rfl⟩:=dG (gt:=du 2 (M1 5 (M1 6 dA))) (items:=rl g.m λi=>.tuple [.int _,.int _])
  (λi q=>∃j o c b f,q=[sd (L1 g T),iD m,sd (.list (eH g T m)),U (.own ((stI g T m i).map Z3)),iD (T.sg m),j,o,c,b,f])
  ⟨J,J,J,J,J,rfl⟩ (by
   rintro i d q u ⟨j,o,c,b,f,rfl⟩;obtain⟨t,rfl⟩:=uI u;obtain⟨y,z,x,e⟩:=Nn K Q t c b f (l:=stI g T m i) (by have:=XT g T m i;lia)
   exact⟨_,_,rfl,.inl e,_,_,_,_,_,rfl⟩)
 rw[E5]at r;have w:∀p,p=(stI g T m 0).map Z3->(t8 (u6 4 (jD (A9 (u3 K6 (J7 "Table" "full" (u7 0)) (u7 1))) (iy dD (fC (.int 1))) (fC (.int 1)))) (t8 (G0 (F3 cQ (t4 (Z8 "Table" "amounts" ai (u7 0) B1) B1)) (du 2 (M1 5 (M1 6 dA))) nk) (av 3))) [sd (L1 g T),iD m,sd (.list (eH g T m)),U (.own p),J,J,J,J,J,J]=U (.ret (.own ((stI g T m g.m).map Z3))):=by rintro p rfl;walk_at "v";rw[N4 _ Q];walk_at "v";rw[sgD];walk_at "v";rw[tm rfl rfl (yX g T) rfl,zO K];walk_at "v";rw[xa,r];walk_at "v"
 have h:(M0 (A9 (u3 iw (u3 K6 (J7 "Table" "limits" (u7 0)) (u7 1)) (fC .none))) (aW 3 (v9 (t4 (u3 K6 (J7 "Table" "limits" (u7 0)) (u7 1)) (t4 (fC (.int 1)) (t4 (u7 1) (t4 (fC .none) (t4 (fC (.bool U')) B1))))))) F4) [sd (L1 g T),iD m,sd (.list (eH g T m)),U (.own []),J,J,J,J,J,J]=U (.next [sd (L1 g T),iD m,sd (.list (eH g T m)),U (.own ((stI g T m 0).map Z3)),J,J,J,J,J,J]):=by
  walk_at "v";rw[N4 _ Q];unfold stI wy;cases g.lim m with
  |none=>rfl
  |some v=>
   rfl
 unfold jG J5;rw[r9 (by rfl),D4,show U5 3 _ _=U (.next [sd _,iD m,sd _,U _,J,J,J,J,J,J])from rfl,B6,D4,h,B6,w _ rfl];rfl
def sH(s r:fU):Bool:=decide (s.top*r.bot<r.top*s.bot)||(decide (s.top*r.bot=r.top*s.bot)&&decide (s.ch<r.ch))
structure Kw(s:fU):Prop where
 t:Bt 20000 s.top
 b:Bt 20000 s.bot
 p:0<s.bot
theorem Nq{r:fU}(hs:Kw B)(a:Kw r):tM [Z3 B,Z3 r]=sd (.bool (sH B r)):=by
 delta tM Z3;walk_at "v";rw[D6 (hs.t.mono f5) (a.b.mono f5)];walk_at "v";rw[D6 (a.t.mono f5) (hs.b.mono f5)];walk_at "v";delta sH;by_cases c:B.top*r.bot<r.top*B.bot;simp[c];rfl;by_cases d:B.top*r.bot=r.top*B.bot;simp[c];rfl;simp[c];rfl
def jc:Option fU->f9
 |none=>.none
 |some s=>Z3 s
def iT(o:Option fU)(s:fU):Option fU:=match o with
 |none=>U s
 |some r=>if sH s r=Uf then U s else U r
theorem Vn(h:∀s∈d9,Kw s):cv [.list (d9.map Z3)]=sd (jc (d9.foldl iT J)):=by
 have f:∀(d9:List fU) o L x,(∀s∈d9,Kw s)->(∀r,o=U r->Kw r)->∃b,V6 (D7 2) bZ (d9.map Z3) [sd L,sd (jc o),x]=U (.next [sd L,sd (jc (d9.foldl iT o)),b]):=by
  intro d9;induction d9 with
  |nil=>exact λo L x _ _=>⟨x,rfl⟩
  |cons s d9 j=>
   intro o L x i g;have d:=i s F2;have e:bZ [sd L,sd (jc o),sd (Z3 s)]=U (.next [sd L,sd (jc (iT o s)),sd (Z3 s)]):=by
    delta bZ;cases o with
    |none=>
     rfl
    |some r=>
     simp only[jc];simp only[M0,hE,A9,u7,RA,tI,A4,PV.xc,f7,t4,B1,Nq d (g r rfl)];delta iT;cases c:sH s r;simp only[c];rfl;simp only[c];rfl
   rw[E8,O6 rfl e,Hd];refine j _ L _ (λy m=>i y (E7 _ m)) λr a=>?_;unfold iT at a;split at a;cases a;exact d;split at a;cases a;exact d;cases a;exact g _ rfl
 obtain⟨b,e⟩:=f d9 J _ J h (λr z=>nE z);delta cv;walk_at "v";have k:V6 _ bZ _ [sd _,sd .none,J]=U _:=e;rw[k];walk_at "v"
def le(r s:fU):Prop:=r.top*s.bot<s.top*r.bot\/(r.top*s.bot=s.top*r.bot/\r.ch<=s.ch)
theorem Pe{r:fU}(h:sH B r=U'):le r B:=by
 unfold sH at h;rw[QZ,Bool.and_eq_false_iff]at h;obtain⟨b,a⟩:=h;by_cases c:B.top*r.bot=r.top*B.bot
 . rcases a with a|a
   exact absurd c (of_decide_eq_false a);have:=of_decide_eq_false a;exact .inr ⟨c.symm,kC u4⟩
 left;lia
theorem Mc{r:fU}(h:sH B r=Uf):le B r:=by
 unfold sH at h;rw[Qy,pP]at h;rcases h with h|⟨a,b⟩
 exact .inl (mT h);have:=mT a;exact .inr ⟨by assumption,by lia⟩
theorem le_trans{s t:fU}(i:0<B.bot)(hs:0<s.bot)(g:0<t.bot)(d:le B s)(b:le s t):le B t:=by
 have k:B.top*s.bot<=s.top*B.bot:=by unfold le at d;lia
 have j:s.top*t.bot<=t.top*s.bot:=by unfold le at b;omega
 have:=og k (S9 g);have:=og j (S9 i);have:s.top*B.bot*t.bot=s.top*t.bot*B.bot:=by grind
 have a:s.bot*(B.top*t.bot)=B.top*s.bot*t.bot:=by grind
 have:s.bot*(t.top*B.bot)=t.top*s.bot*B.bot:=by grind
 have f:s.bot*(B.top*t.bot)<=s.bot*(t.top*B.bot):=by lia
 have:=AS f hs;by_cases c:B.top*t.bot=t.top*B.bot
 . right;refine⟨c,?_⟩;have e:B.top*s.bot*t.bot=s.top*B.bot*t.bot:=by rw[c]at a;omega
   have h:s.top*t.bot*B.bot=t.top*s.bot*B.bot:=by rw[c]at a;simp_all
   have:=vX L9 e;have:=vX L9 h;unfold le at d b;lia
 left;omega
theorem PH:∀(l:List fU) (o:Option fU),(∀s∈l,0<s.bot)->(∀r,o=U r->0<r.bot)->(l.foldl iT o=J->o=J/\l=[])/\∀r,l.foldl iT o=U r->(o=U r\/r∈l)/\(∀s,o=U s->le r s)/\∀s∈l,le r s:=by
 intro l_;induction l_ with
 |nil=>
  exact λo _ _=>⟨λh=>⟨h,rfl⟩,λr h=>⟨.inl h,λs a=>by have n:o=U r:=h;rw[n]at a;cases a;exact .inr ⟨rfl,V1 _⟩,λs a=>absurd a F5⟩⟩
 |cons x l ih_=>
  intro o h1 h2;have i:=h1 x F2;have q:∃y,iT o x=U y/\0<y.bot/\(o=U y\/y=x)/\le y x/\∀s,o=U s->le y s:=by
   delta iT;cases o with
   |none=>exact⟨x,rfl,i,.inr rfl,.inr ⟨rfl,V1 _⟩,λs z=>nE z⟩
   |some r=>
    cases c:sH x r with
    |true=>exact⟨x,by simp[c],i,.inr rfl,.inr ⟨rfl,V1 _⟩,λs z=>by cases z;exact Mc c⟩
    |false=>exact⟨r,by simp[c],h2 r rfl,.inl rfl,Pe c,λs z=>by cases z;exact .inr ⟨rfl,V1 _⟩⟩
  obtain⟨y,e,g,d,m,t⟩:=q;rw[Hd,e];obtain⟨w,k⟩:=ih_ (U y) (λs a=>h1 s (E7 _ a)) λr z=>by cases z;exact g
  refine⟨λh=>(by have:=(w h).1;exact nS this),λr v=>?_⟩
  obtain⟨b,p,u⟩:=k r v;have f:0<r.bot:=by
   rcases b with b|b
   cases b;exact g;exact h1 r (E7 _ b)
  have j:=p y rfl;refine⟨?_,λs a=>le_trans f g (h2 s a) j (t s a),λs a=>?_⟩
  . rcases b with b|b
    . cases b;rcases d with d|d
      exact .inl d;rw[d];exact .inr F2
    exact .inr (E7 _ b)
  . rcases List.mem_cons.mp a with rfl|a
    exact le_trans f g i j m;exact u s a
end
section
variable{T:Sx.Tb}
theorem fL(h:e<m):gh m (e:Int)=U e:=by
 delta gh
 simp_all
theorem wF(h:r[m]?=U (U (.ob O (E6 g T))))(f:J3 o (N5 g T)=U (.own l))(b:H r=U z)(c:G r=sd (.int (e:Int)))(Q:e<l.length):
  cN "Table" m o G H r=U (.next (r.set m (U (.ob O (.ins "Table" (R7 o (.own (l.set e z.d)) (N5 g T))))))):=by delta cN hZ;rw[b,A4,c,A4,h];simp only[X3,A4,f,uP,PV.xc,fL Q]
theorem Om{pv:PV}(h:r[m]?=U (U (.ob O (E6 g T))))(c:H r=U pv)(hd:pv.d=.bool c7)(f:G r=sd (.int (e:Int)))(Q:e<g.n):
  cN "Table" m "full" G H r=U (.next (r.set m (U (.ob O (E6 g {T with full:=λj=>if j=e then c7 else T.full j}))))):=by
 rw[wF h (BO g T) c f (by rw[E5];exact Q),ik,hd]
 have i:(rl g.n λk=>if k=e then PyData.bool c7 else .bool _)=rl g.n λj=>.bool (if j=e then c7 else T.full j):=T9 λk _=>by split<;>rfl
 rw[i,Yv]
theorem IA{pv:PV}(h:r[m]?=U (U (.ob O (E6 g T))))(b:H r=U pv)(hd:pv.d=.int D)(c:G r=sd (.int (e:Int)))(a:e<g.m):
  cN "Table" m "rights" G H r=U (.next (r.set m (U (.ob O (E6 g {T with rt:=λj=>if j=e then D else T.rt j}))))):=by
 rw[wF h (uS g T) b c (by rw[E5];exact a),ik,hd]
 have Q:(rl g.m λk=>if k=e then cW D else .int _)=rl g.m λj=>.int (if j=e then D else T.rt j):=T9 λk _=>by split<;>rfl
 rw[Q,NM]
theorem IC{Q:W2}{i:Nat}{w:Option Addr}{ds:Ds}{Fk Fv:DV}{pv:PV}{x:Nat}{p:Nat}(h:ds[i]?=U (U (.ob w (E6 Q T))))(b:Fv ds=U pv)(hd:pv.d=.int (x:Int))(c:Fk ds=sd (.int (p:Int)))(a:p<Q.m):
  cN "Table" i "chosen" Fk Fv ds=U (.next (ds.set i (U (.ob w (E6 Q {T with B:=λj=>if j=p then x else T.B j}))))):=by
 rw[wF h (uU Q T) b c (by rw[E5];exact a),ik,hd]
 have e:(rl Q.m λk=>if k=p then cW x else .int _)=rl Q.m λj=>.int ((if j=p then x else T.B j:Nat)):=T9 λk _=>by split<;>rfl
 rw[e,NP]
theorem IB{x:Nat->Int}(h:r[m]?=U (U (.ob O (E6 g T))))(b:H r=U z)(hd:z.d=il g.m x)(c:G r=sd (.int (e:Int)))(a:e<3):
  cN "Table" m "prices" G H r=U (.next (r.set m (U (.ob O (E6 g {T with pr:=λj=>if j=e then x else T.pr j}))))):=by
 rw[wF h (uT g T) b c (by assumption),ik,hd]
 have Q:(rl 3 λk=>if k=e then il g.m x else il g.m _)=rl 3 λj=>il g.m (if j=e then x else T.pr j):=T9 λk _=>by split<;>rfl
 rw[Q,NO]
noncomputable def lV(Q:W2)(T:Sx.Tb)(a:Nat)(by':Int):Sx.Tb:={T with full:=λj=>if j=a then !T.full a else T.full j,rt:=λp=>T.rt p+by'*P2 (Q.col a) p}
theorem PD(i:Bt 60000 E):∀(c:List (Nat×Int)) (T:Sx.Tb) (x3 d:Option PV),(∀e∈c,e.1<g.m/\Bt 60000 e.2) ->
  ∃Q f,V6 (du 2 (M1 3 (M1 4 dA))) eY (c.map λe=>.tuple [.int (e.1:Int),.int e.2]) [U (.ob O (E6 g T)),iD D,iD E,x3,d]=U (.next [U (.ob O (E6 g {T with rt:=λp=>T.rt p+E*P2 c p})),iD D,iD E,Q,f]):=by
 intro l_;induction l_ with
 |nil=>
  exact λT x3 d _=>⟨x3,d,by
   have:({T with rt:=λp=>T.rt p+E*P2 [] p}:Sx.Tb)=T:=by
    have:(λp=>T.rt p+E*P2 [] p)=T.rt:=by funext p;rw[P2,X4,vF]
    rw[this]
   rw[this];rfl⟩
 |cons e c ih_=>
  intro T x3 d h;obtain⟨k,n⟩:=h e F2;have l:eY [U (.ob O (E6 g T)),iD D,iD E,iD e.1,iD e.2]=U (.next [U (.ob O (E6 g {T with rt:=λj=>if j=e.1 then T.rt e.1+E*e.2 else T.rt j})),iD D,iD E,iD e.1,iD e.2]):=by
   delta eY;rw[IA (pv:=.dat (.int _)) rfl ?_ rfl rfl k];rfl;walk_at "v";rw[N4 _ k];walk_at "v";rw[D6 i n];walk_at "v"
  obtain⟨Q,f,q⟩:=ih_ {T with rt:=λj=>if j=e.1 then T.rt e.1+E*e.2 else T.rt j} (iD e.1) _ λx o=>h x (E7 _ o)
  refine⟨Q,f,?_⟩;rw[E8,O6 rfl l,q];have:(λp=>(if p=e.1 then T.rt e.1+E*e.2 else T.rt p)+E*P2 c p)=λp=>T.rt p+E*P2 (e::c) p:=by
   funext p
   rw[P2];by_cases z:e.1=p;rw[r9 z.symm,r9 z,z,dX,Int.add_assoc];rw[s9 λy=>z y.symm,s9 z,O8]
  simp only[this]
theorem Ke(b:m<g.n)(i:g.lim m=U D)(f:Bt 60000 D)(d:∀e∈g.col m,e.1<g.m/\Bt 7000 e.2):U2 [.ob J (E6 g T),.dat (.int (m:Int))]=U (.dat .none,[U (.ob J (E6 g (lV g T m (-(T.sg m*D))))),J]):=by
 refine pa rfl λt=>?_
 have c:Bt 60000 (-(T.sg m*D)):=by
  delta Sx.Tb.sg;split;exact f.of_le C4;exact f.of_le C4
 rw[show((eB t 0 [PV.ob J _,.dat (.int m)]).map U++F7 _ J)=[U _,iD m,J,J,J]from rfl]
 have h:u6 2 (jD (A9 (jU "Table" 0 "full" (u7 1))) (u3 K6 (P9 "Table" 0 "limits") (u7 1)) (iy dD (u3 K6 (P9 "Table" 0 "limits") (u7 1)))) [U (.ob (U (t 0)) (E6 g T)),iD m,J,J,J]=U (.next [U (.ob (U (t 0)) (E6 g T)),iD m,iD (-(T.sg m*D)),J,J]):=by
  walk_at "v";rw[N4 _ b];walk_at "v";rw[N4 _ b,i];walk_at "v";delta Sx.Tb.sg;cases T.full m;simp only[mW,if_false,bq];rfl;simp only[X3,zZ,bq,Int.neg_neg];rfl
 have k:cN "Table" 0 "full" (u7 1) (Ci (jU "Table" 0 "full" (u7 1))) [U (.ob (U (t 0)) (E6 g T)),iD m,iD (-(T.sg m*D)),J,J]=U (.next [U (.ob (U (t 0)) (E6 g {T with full:=λj=>if j=m then !T.full m else T.full j})),iD m,iD (-(T.sg m*D)),J,J]):=by
  rw[Om (pv:=.dat (.bool _)) rfl ?_ rfl rfl b];rfl;walk_at "v";rw[N4 _ b];walk_at "v"
 obtain⟨p,o,l⟩:=PD c _ {T with full:=λj=>if j=m then !T.full m else T.full j} J J λe Q=>⟨(d e Q).1,((d e Q).2).mono f5⟩;rw[D4,h,B6,D4,k,B6];walk_at "v";rw[N4 _ b];walk_at "v";rw[l];simp only[A4,nr,V7];rfl
theorem Kf(K:bK g T)(b:m<g.n)(c:g.lim m=U D):U2 [.ob J (E6 g T),.dat (.int (m:Int))]=U (.dat .none,[U (.ob J (E6 g (lV g T m (-(T.sg m*D))))),J]):=
 Ke b c ((K.lb m D b c).mono f5) (K.cb m b)
end
section
variable{T:Sx.Tb}
theorem a3j(ds:Ds):∀xs:List f9,tF ds (xs.map AV.d)=U (xs.map .dat):=by
 intro l_;induction l_ with
 |nil=>
  exact rfl
 |cons x xs ih_=>
  rw[E8,tF,ih_];rfl
theorem Jv:∀(xs:List f9) (r ds:Ds),hW (xs.map AV.d) r ds=ds
 | [],r,ds=>by simp[hW]
 |x::xs,[],ds=>by simp[hW]
 |x::xs,y::r,ds=>by rw[E8,hW,Jv xs]
theorem Nv:∀xs:List f9,W6 (xs.map AV.d)=[]:=by
 intro l_;induction l_ with
 |nil=>
  exact rfl
 |cons x xs ih_=>
  rw[E8,W6,ih_]
theorem yp{c c':OD}{f:List PV->Option (PV×Ds)}{xs:List f9}(h:L[m]?=U (U (.ob O c)))(e:d3 L=U (.s m::xs.map AV.d))(b:f (.ob J c::xs.map .dat)=U (z,U (.ob J c')::r)):
  jW f d3 L=U (z,L.set m (U (.ob O c'))):=by
 delta jW;rw[e,A4];rw[r9 (by rw[W6,Nv];simp),tF];simp only[h,a3j,A4,b];rw[hW,h,Jv];rfl
theorem sQ{c':OD}{f:List PV->Option (PV×Ds)}{xs:List f9}(h:L[e]?=U (U (.ob O (E6 g T))))(Q:J3 o (N5 g T)=J)(c:d3 L=U (xs.map AV.d))(b:f (.ob J (E6 g T)::xs.map .dat)=U (z,U (.ob J c')::r)):
  W9 "Table" o e f d3 L=U (z,L.set e (U (.ob O c'))):=by
 delta W9 hZ;rw[h];simp only[X3,A4,Q];refine yp h ?_ b;delta iR
 simp_all
noncomputable def yZ(Q:W2)(T:Sx.Tb)(a l:Nat)(g:Int)(t q:Nat):Int:=(T.pr t q*(g*T.A3 (G3 Q) a l)-(-g*T.rest (G3 Q) t a)*T.inv l q).fdiv T.size
noncomputable def fg(Q:W2)(T:Sx.Tb)(a l:Nat)(g:Int)(k q:Nat):Int:=if k=l then g*T.inv l q else(T.inv k q*(g*T.A3 (G3 Q) a l)-(g*T.A3 (G3 Q) a k)*T.inv l q).fdiv T.size
def V5(Q:W2)(T:Sx.Tb)(a:Nat):Sx.Tb:=if T.full a=Uf then lV Q T a (-(T.sg a*(Q.lim a).getD 0))else T
def Z1(Q:W2)(T:Sx.Tb)(a l:Nat)(g:Int):Sx.Tb:=⟨λk=>if k=l then a else T.B k,(V5 Q T a).full,g*T.A3 (G3 Q) a l,fg Q T a l g,λt=>if t<3 then yZ Q T a l g t else T.pr t,(V5 Q T a).rt⟩
theorem xo:(V5 g T a).B=T.B/\(V5 g T a).size=T.size/\(V5 g T a).inv=T.inv/\(V5 g T a).pr=T.pr:=by delta V5;split<;>exact⟨rfl,rfl,rfl,rfl⟩
def aH(Q:W2)(T:Sx.Tb)(a l:Nat)(g:Int)(i:Nat):Sx.Tb:=⟨T.B,(V5 Q T a).full,T.size,T.inv,λt=>if t<i then yZ Q T a l g t else T.pr t,(V5 Q T a).rt⟩
theorem a5K(a l:Nat)(Q:Int):aH g T a l Q 0=V5 g T a:=by
 delta aH;obtain⟨b,c,d,e⟩:=xo;cases hu:V5 g T a;rw[hu]at b c d e
 simp_all
theorem xM(K:bK g T){l t:Nat}(e:m<g.n)(s:l<g.m)(b:t<3)(B:D=1\/D = -1)(w:Option Addr)(x8:Option PV):
  ∃C,eX [U (.ob w (E6 g (aH g T m l D t))),iD (m:Int),iD (l:Int),sd (.list (eH g T m)),iD D,iD (D*T.A3 (G3 g) m l),sd (il g.m (T.inv l)),iD (t:Int),x8,J]=U (.next [U (.ob w (E6 g (aH g T m l D (t+1)))),iD (m:Int),iD (l:Int),sd (.list (eH g T m)),iD D,iD (D*T.A3 (G3 g) m l),sd (il g.m (T.inv l)),iD (t:Int),C,J]):=by
 have o:Bt 10 D:=by rcases B with h|h<;>rw[h]<;>exact⟨by decide⟩
 have d:(aH g T m l D t).pr t=T.pr t:=by show(if t<t then _ else T.pr t)=T.pr t;simp
 have Q:(aH g T m l D t).rest (G3 g) t m=T.rest (G3 g) t m:=by delta Sx.Tb.rest;rw[d];rfl
 have p:=K.rsb t m b e;have u:=Jq (T:=aH g T m l D t) b e (K.cl m e) (K.cb m e) (K.wb t m b e) K.sb (λq hq=>by rw[d];exact K.pb t q b hq);rw[Q]at u;obtain⟨r,A,z⟩:=CA K.m1 (λi f=>(K.pb t i b f).mono f5) (λi f=>(K.ib l i s f).mono f5) ((o.neg.mul p).mono f5) ((o.mul (K.zJ m l e s)).mono f5) (K.sb.mono f5) K.sp
 refine⟨iD (-D*T.rest (G3 g) t m),?_⟩;delta eX;have y:u6 8 (u3 aG (iy dD (u7 4)) (aJ (Z8 "Table" "rest" cw (U6 0) (t4 (u7 7) (t4 (u7 1) B1))))) [U (.ob w (E6 g (aH g T m l D t))),iD m,iD l,sd (.list (eH g T m)),iD D,iD (D*T.A3 (G3 g) m l),sd (il g.m (T.inv l)),iD t,x8,J]=U (.next [U (.ob w (E6 g (aH g T m l D t))),iD m,iD l,sd (.list (eH g T m)),iD D,iD (D*T.A3 (G3 g) m l),sd (il g.m (T.inv l)),iD t,iD (-D*T.rest (G3 g) t m),J]):=by
  walk_at "v";rw[tm (l:=[.int t,.int m]) rfl rfl (JI g _) rfl,u];walk_at "v";simp only[LF,X3,A4,PV.xc];rw[D6 (o.neg.mono f5) (show Bt 60000 _ from p.mono f5)];rfl
 rw[D4,y,B6];rw[IB (x:=yZ g T m l D t) rfl ?_ z rfl b]
 . have:({aH g T m l D t with pr:=λj=>if j=t then yZ g T m l D t else(aH g T m l D t).pr j}:Sx.Tb)=aH g T m l D (t+1):=by
     delta aH;have:(λj=>if j=t then yZ g T m l D t else if j<t then yZ g T m l D j else T.pr j)=λj=>if j<t+1 then yZ g T m l D j else T.pr j:=by
      funext j
      by_cases c:j=t;rw[r9 c,r9 C4,c];rw[s9 c];by_cases v:j<t;rw[r9 v,r9 fF];rw[s9 v,s9 t9]
     simp only[this]
   rw[this];rfl
 . walk_at "v";rw[N4 _ b];walk_at "v"
   rwa [d]
theorem XJ(K:bK g T)(j:m<g.n)(f:e<g.m)(P:T.full m=Uf->g.lim m≠J)(C:D=if 0<T.A3 (G3 g) m e then 1 else -1):
  gF [.ob J (E6 g T),.dat (.int (m:Int)),.dat (.int (e:Int)),.dat (.list (eH g T m))]=U (.dat .none,[U (.ob J (E6 g (Z1 g T m e D))),J,J,J]):=by
 refine pa rfl λt=>?_
 have o:D=1\/D = -1:=by rw[C];split<;>decide
 have p:Bt 10 D:=by rcases o with h|h<;>rw[h]<;>exact⟨by decide⟩
 generalize a:(U (t 0):Option Addr)=w;generalize s:(mN (eH g T m))=PC;rw[show((eB t 0 [PV.ob J (E6 g T),.dat (.int (m:Int)),.dat (.int (e:Int)),.dat PC]).map U++F7 (10-4) J:Ds)=[U (.ob (U (t 0)) (E6 g T)),iD (m:Int),iD (e:Int),sd PC,J,J,J,J,J,J]from rfl,a]
 have G:M0 (A9 (jU "Table" 0 "full" (u7 1))) (R8 (W9 "Table" "flip" 0 U2 (Q6 (u7 1) fN))) F4 [U (.ob w (E6 g T)),iD (m:Int),iD (e:Int),sd PC,J,J,J,J,J,J]=U (.next [U (.ob w (E6 g (V5 g T m))),iD (m:Int),iD (e:Int),sd PC,J,J,J,J,J,J]):=by
  have R:A9 (jU "Table" 0 "full" (u7 1)) [U (.ob w (E6 g T)),iD (m:Int),iD (e:Int),sd PC,J,J,J,J,J,J]=U (T.full m):=by walk_at "v";rw[N4 _ j];walk_at "v"
  delta M0 V5;rw[R,A4];by_cases c:T.full m=Uf;rw[r9 c,r9 c];obtain⟨v,B⟩:=Option.ne_none_iff_exists'.mp (P c);rw[B];delta R8;rw[sQ (xs:=[.int m]) rfl (xZ g T) rfl (Kf K j B)];rfl;rw[s9 c,s9 c];rfl
 have I:u6 4 (jD (A9 (u3 nK (u3 K6 (u7 3) (u7 2)) (fC (.int 0)))) (fC (.int 1)) (iy dD (fC (.int 1)))) [U (.ob w (E6 g (V5 g T m))),iD m,iD e,sd PC,J,J,J,J,J,J]=U (.next [U (.ob w (E6 g (V5 g T m))),iD m,iD e,sd PC,iD D,J,J,J,J,J]):=by subst s;walk_at "v";rw[N4 _ f];walk_at "v";rw[C];split<;>rfl
 have E:u6 5 (u3 aG (u7 4) (u3 K6 (u7 3) (u7 2))) [U (.ob w (E6 g (V5 g T m))),iD m,iD e,sd PC,iD D,J,J,J,J,J]=U (.next [U (.ob w (E6 g (V5 g T m))),iD m,iD e,sd PC,iD D,iD (D*T.A3 (G3 g) m e),J,J,J,J]):=by subst s;walk_at "v";rw[N4 _ f];walk_at "v";rw[D6 (p.mono f5) ((K.zJ m e j f).mono f5)];rfl
 have S:u6 6 (u3 K6 (P9 "Table" 0 "inverse") (u7 2)) [U (.ob w (E6 g (V5 g T m))),iD m,iD e,sd PC,iD D,iD (D*T.A3 (G3 g) m e),J,J,J,J]=U (.next [U (.ob w (E6 g (aH g T m e D 0))),iD m,iD e,sd PC,iD D,iD (D*T.A3 (G3 g) m e),sd (il g.m (T.inv e)),J,J,J]):=by rw[a5K];walk_at "v";rw[N4 _ f,(xo).2.2.1];rfl
 have A:∃b Q,G0 (N2 (fC lI)) (D7 7) eX [U (.ob w (E6 g (aH g T m e D 0))),iD m,iD e,sd PC,iD D,iD (D*T.A3 (G3 g) m e),sd (il g.m (T.inv e)),J,J,J]=U (.next [U (.ob w (E6 g (aH g T m e D 3))),iD m,iD e,sd PC,iD D,iD (D*T.A3 (G3 g) m e),sd (il g.m (T.inv e)),b,Q,J]):=by subst s;obtain⟨O,N⟩:=xM K j f (t:=0) f5 o w J;obtain⟨M,Y⟩:=xM K j f (t:=1) f5 o w O;obtain⟨W,x⟩:=xM K j f (t:=2) f5 o w M;refine⟨iD 2,W,?_⟩;walk_at "v";rw[O6 rfl N,O6 rfl Y,O6 rfl x];rfl
 obtain⟨b,Q,A⟩:=A;have F:U5 9 (D0 (F3 eu (t4 (P9 "Table" 0 "inverse") (t4 (u7 3) B1))) (U4 2) C5 gW) [U (.ob w (E6 g (aH g T m e D 3))),iD m,iD e,sd PC,iD D,iD (D*T.A3 (G3 g) m e),sd (il g.m (T.inv e)),b,Q,J]=U (.next [U (.ob w (E6 g (aH g T m e D 3))),iD m,iD e,sd PC,iD D,iD (D*T.A3 (G3 g) m e),sd (il g.m (T.inv e)),b,Q,U (.own (rl g.m λk=>il g.m λq=>(T.inv k q*(D*T.A3 (G3 g) m e)-(D*T.A3 (G3 g) m k)*T.inv e q).fdiv T.size))]):=by
  subst s;walk_at "v";rw[show(aH g T m e D 3).inv=T.inv from rfl,mi];walk_at "v";rw[r9 (cq K.m1),M6 λk u=>?_];rfl;obtain⟨r,x,H⟩:=CA K.m1 (λi z=>(K.ib k i u z).mono f5) (λi z=>(K.ib e i f z).mono f5) ((p.mul (K.zJ m k j u)).mono f5) ((p.mul (K.zJ m e j f)).mono f5) (K.sb.mono f5) K.sp;refine⟨_,r,rfl,?_,H⟩;delta gW;walk_at "v";rw[D6 (p.mono f5) ((K.zJ m k j u).mono f5)];walk_at "v";exact x
 have Z:Y4 9 (u7 2) (D0 (N2 (u7 6)) C6 C5 eT) [U (.ob w (E6 g (aH g T m e D 3))),iD m,iD e,sd PC,iD D,iD (D*T.A3 (G3 g) m e),sd (il g.m (T.inv e)),b,Q,U (.own (rl g.m λk=>il g.m λq=>(T.inv k q*(D*T.A3 (G3 g) m e)-(D*T.A3 (G3 g) m k)*T.inv e q).fdiv T.size))]=U (.next [U (.ob w (E6 g (aH g T m e D 3))),iD m,iD e,sd PC,iD D,iD (D*T.A3 (G3 g) m e),sd (il g.m (T.inv e)),b,Q,U (.own (rl g.m λk=>il g.m (fg g T m e D k)))]):=by
  have L:D0 (N2 (u7 6)) C6 C5 eT [U (.ob w (E6 g (aH g T m e D 3))),iD m,iD e,sd PC,iD D,iD (D*T.A3 (G3 g) m e),sd (il g.m (T.inv e)),b,Q,U (.own (rl g.m λk=>il g.m λq=>(T.inv k q*(D*T.A3 (G3 g) m e)-(D*T.A3 (G3 g) m k)*T.inv e q).fdiv T.size))]=U (.own (rl g.m λq=>.int (D*T.inv e q))):=by
   walk_at "v";rw[r9 (cq K.m1),M6 λq hq=>⟨_,_,rfl,by delta eT;walk_at "v";rw[D6 (p.mono f5) ((K.ib e q f hq).mono f5)],rfl⟩];rfl
  delta Y4;rw[L,A4];show(gh (rl g.m _).length e).bind _=_
  rw[E5,fL f,A4,ik];have:(rl g.m λk=>if k=e then PV.d (.own (rl g.m λq=>.int (D*T.inv e q)))else il g.m λq=>(T.inv k q*(D*T.A3 (G3 g) m e)-(D*T.A3 (G3 g) m k)*T.inv e q).fdiv T.size)=rl g.m λk=>il g.m (fg g T m e D k):=T9 λk _=>by
   by_cases c:k=e
   . rw[r9 c];show il g.m _=_
     congr 2
     funext q
     delta fg;rw[r9 c]
   . rw[s9 c]
     congr 2
     funext q
     delta fg;rw[s9 c]
  rw[this];rfl
 have X:wY 9 (Z5 "Table" 0 "inverse" jX (u7 9)) [U (.ob w (E6 g (aH g T m e D 3))),iD m,iD e,sd PC,iD D,iD (D*T.A3 (G3 g) m e),sd (il g.m (T.inv e)),b,Q,U (.own (rl g.m λk=>il g.m (fg g T m e D k)))]=U (.next [U (.ob w (E6 g {aH g T m e D 3 with inv:=fg g T m e D})),iD m,iD e,sd PC,iD D,iD (D*T.A3 (G3 g) m e),sd (il g.m (T.inv e)),b,Q,sd (.list (rl g.m λk=>il g.m (fg g T m e D k)))]):=by walk_at "v";rw[r9 (by delta N5;simp),Lg]
 have V:Z5 "Table" 0 "size" jX (u7 5) [U (.ob w (E6 g {aH g T m e D 3 with inv:=fg g T m e D})),iD m,iD e,sd PC,iD D,iD (D*T.A3 (G3 g) m e),sd (il g.m (T.inv e)),b,Q,sd (.list (rl g.m λk=>il g.m (fg g T m e D k)))]=U (.next [U (.ob w (E6 g {aH g T m e D 3 with inv:=fg g T m e D,size:=D*T.A3 (G3 g) m e})),iD m,iD e,sd PC,iD D,iD (D*T.A3 (G3 g) m e),sd (il g.m (T.inv e)),b,Q,sd (.list (rl g.m λk=>il g.m (fg g T m e D k)))]):=by walk_at "v";rw[r9 (by delta N5;simp),Yu]
 have y:cN "Table" 0 "chosen" (u7 2) (u7 1) [U (.ob w (E6 g {aH g T m e D 3 with inv:=fg g T m e D,size:=D*T.A3 (G3 g) m e})),iD m,iD e,sd PC,iD D,iD (D*T.A3 (G3 g) m e),sd (il g.m (T.inv e)),b,Q,sd (.list (rl g.m λk=>il g.m (fg g T m e D k)))]=U (.next [U (.ob w (E6 g (Z1 g T m e D))),iD m,iD e,sd PC,iD D,iD (D*T.A3 (G3 g) m e),sd (il g.m (T.inv e)),b,Q,sd (.list (rl g.m λk=>il g.m (fg g T m e D k)))]):=by rw[IC rfl rfl rfl rfl f];rfl
 rw[D4,G,B6,D4,I,B6,D4,E,B6,D4,S,B6,D4,A,B6,D4,F,B6,D4,Z,B6,D4,X,B6,D4,V,B6,y];subst a;simp only[A4,nr,V7,X3]
end
section
variable{T:Sx.Tb}
theorem FI(s:fU):K6 (Z3 s) (.int 3)=sd (optN s.pl):=rfl
theorem UO(K:bK g T)(d:m<g.n)(e:g.lim m=U D)(hs:B.pl=J):
  sx [.ob J (E6 g T),.dat (.int (m:Int)),.dat A,.dat (Z3 B)]=U (.dat .none,[U (.ob J (E6 g (lV g T m (-(T.sg m*D))))),J,J,J]):=by
 refine pa rfl λt=>?_;rw[show((eB t 0 [PV.ob J _,.dat (.int m),.dat A,.dat (Z3 B)]).map U++F7 _ J)=[U _,iD m,sd A,sd _]from rfl]
 generalize b:(U (t 0))=w;have c:M0 (A9 (u3 oX (u3 K6 (u7 3) (fC (.int 3))) (fC .none))) (t8 (R8 (W9 "Table" "flip" 0 U2 (Q6 (u7 1) fN))) my) F4 [U (.ob w (E6 g T)),iD m,sd A,sd (Z3 B)]=U (.retO (.dat .none) [U (.ob w (E6 g (lV g T m (-(T.sg m*D))))),iD m,sd A,sd (Z3 B)]):=by
  have f:A9 (u3 oX (u3 K6 (u7 3) (fC (.int 3))) (fC .none)) [U (.ob w (E6 g T)),iD m,sd A,sd (Z3 B)]=U Uf:=by walk_at "v";rw[FI,hs];rfl
  delta M0;rw[f,A4,r9 rfl,D4];delta R8;rw[sQ (xs:=[.int m]) rfl (xZ g T) rfl (Kf K d e)];rfl
 rw[D4,c];subst b;show(U _).bind _=_;simp only[A4,nr,V7,X3]
theorem JM(K:bK g T){v:Int}(p:m<g.n)(o:e<g.m)(hs:B.pl=U e)(x:T.full m=Uf->g.lim m≠J)(q:D=if 0<T.A3 (G3 g) m e then 1 else -1)(Q:B.ch<g.n)(h:B.tp=Uf->g.lim B.ch=U v):
  sx [.ob J (E6 g T),.dat (.int (m:Int)),.dat (.list (eH g T m)),.dat (Z3 B)]=U (.dat .none,[U (.ob J (E6 g (if B.tp=Uf then lV g (Z1 g T m e D) B.ch (-((Z1 g T m e D).sg B.ch*v))else Z1 g T m e D))),J,J,J]):=by
 refine pa rfl λt=>?_;generalize r:(mN (eH g T m))=PC;rw[show((eB t 0 [PV.ob J (E6 g T),.dat (.int m),.dat PC,.dat (Z3 B)]).map U++F7 (4-4) J)=[U (.ob (U (t 0)) (E6 g T)),iD m,sd PC,sd (Z3 B)]from rfl]
 generalize i:(U (t 0))=w;have j:M0 (A9 (u3 oX (u3 K6 (u7 3) (fC (.int 3))) (fC .none))) (t8 (R8 (W9 "Table" "flip" 0 U2 (Q6 (u7 1) fN))) my) F4 [U (.ob w (E6 g T)),iD m,sd PC,sd (Z3 B)]=U (.next [U (.ob w (E6 g T)),iD m,sd PC,sd (Z3 B)]):=by
  have f:A9 (u3 oX (u3 K6 (u7 3) (fC (.int 3))) (fC .none)) [U (.ob w (E6 g T)),iD m,sd PC,sd (Z3 B)]=U U':=by walk_at "v";rw[FI,hs];rfl
  delta M0;rw[f];rfl
 have u:R8 (W9 "Table" "turn" 0 gF (Q6 (u7 1) (Q6 (u3 K6 (u7 3) (fC (.int 3))) (Q6 (u7 2) fN)))) [U (.ob w (E6 g T)),iD m,sd PC,sd (Z3 B)]=U (.next [U (.ob w (E6 g (Z1 g T m e D))),iD m,sd PC,sd (Z3 B)]):=by
  delta R8;have b:Q6 (u7 1) (Q6 (u3 K6 (u7 3) (fC (.int 3))) (Q6 (u7 2) fN)) [U (.ob w (E6 g T)),iD m,sd PC,sd (Z3 B)]=U (([.int m,.int e,PC]).map AV.d):=by walk_at "v";rw[FI,hs];rfl
  rw[sQ rfl (UH g T) b (by subst r;exact XJ K p o x q)];rfl
 have y:M0 (A9 (u3 K6 (u7 3) (fC (.int 4)))) (R8 (W9 "Table" "flip" 0 U2 (Q6 (u3 K6 (u7 3) (fC (.int 2))) fN))) F4 [U (.ob w (E6 g (Z1 g T m e D))),iD m,sd PC,sd (Z3 B)]=U (.next [U (.ob w (E6 g (if B.tp=Uf then lV g (Z1 g T m e D) B.ch (-((Z1 g T m e D).sg B.ch*v))else Z1 g T m e D))),iD m,sd PC,sd (Z3 B)]):=by
  have f:A9 (u3 K6 (u7 3) (fC (.int 4))) [U (.ob w (E6 g (Z1 g T m e D))),iD m,sd PC,sd (Z3 B)]=U B.tp:=by rfl
  delta M0;rw[f,A4];by_cases c:B.tp=Uf
  . rw[r9 c,r9 c];delta R8;have b:Q6 (u3 K6 (u7 3) (fC (.int 2))) fN [U (.ob w (E6 g (Z1 g T m e D))),iD m,sd PC,sd (Z3 B)]=U (([.int B.ch]).map AV.d):=by rfl
    rw[sQ rfl (xZ g _) b (Ke Q (h c) ((K.lb _ v Q (h c)).mono f5) (K.cb _ Q))];rfl
  rw[s9 c,s9 c];rfl
 rw[D4,j,B6,D4,u,B6,y];subst i;simp only[A4,nr,V7,X3]
noncomputable def eJ(Q:W2)(T:Sx.Tb)(tp:Nat->Option Q2):Nat->Nat->Q2
 | 0,j=>if T.full j=Uf then(tp j).getD q0 else q0
 |i+1,j=>if j=T.B i then G7 (T.am (G3 Q) i*Q.sc (T.B i)) (T.size*Q.un)else eJ Q T tp i j
theorem a2p{Q:W2}(K:bK Q T){tp:Nat->Option Q2}(hs:∀j,j<Q.n->Bt 7000 (Q.sc j))(o:Bt 900 Q.un)(hz:Bt 7000 T.size)(x:0<Q.un)(u:∀j,j<Q.n->T.full j=Uf->tp j≠J):
  dI [L1 Q T,.list (rl Q.n λj=>bz (tp j))]=U (.own (rl Q.n λj=>fr (eJ Q T tp Q.m j))):=by
 have w:Bt 8000 (T.size*Q.un):=(hz.mul o).mono f5;have a:T.size*Q.un≠0:=by have:=M3 K.sp x;exact L9
 delta dI;walk_at "v";rw[mi];walk_at "v";rw[r9 (cq K.n1),M6 (g:=λj=>fr (eJ Q T tp 0 j)) λj p=>⟨_,if T.full j=Uf then .dat (bz (tp j))else .dat O4,rfl,by
  delta tQ;walk_at "v";split<;>rfl,by
  show PV.d _=fr (if T.full j=Uf then(tp j).getD q0 else q0);by_cases c:T.full j=Uf;rw[r9 c,r9 c];obtain⟨v,s⟩:=Option.ne_none_iff_exists'.mp (u j p c);rw[s];rfl
  . rw[s9 c,s9 c];rfl⟩]
 walk_at "v";rw[tm rfl rfl (yX Q T) rfl,zO K];walk_at "v";rw[mi];walk_at "v";obtain⟨q,h,x3,b,rfl⟩:=dG (gt:=du 2 (M1 3 (M1 4 dA))) (G:=om) (items:=rl Q.m λi=>.tuple [.int (T.B i),.int (T.am (G3 Q) i)])
  (λi l=>∃x3 b,l=[sd (L1 Q T),sd (.list (rl Q.n λj=>bz (tp j))),U (.own (rl Q.n λj=>fr (eJ Q T tp i j))),x3,b])
  ⟨J,J,rfl⟩ (by
   rintro i d l r ⟨x3,b,rfl⟩;obtain⟨f,rfl⟩:=uI r;have e:=K.bn i f;refine⟨[sd _,sd _,U _,iD _,iD _],[sd _,sd _,U _,iD (T.B i),iD (T.am (G3 Q) i)],rfl,.inl ?_,_,_,rfl⟩;delta om;have t:f7 ah (t4 (u3 aG (u7 4) (u3 K6 (J7 "Table" "scales" (u7 0)) (u7 3))) (t4 (u3 aG (J7 "Table" "size" (u7 0)) (J7 "Table" "unit" (u7 0))) B1)) [sd (L1 Q T),sd (.list (rl Q.n λj=>bz (tp j))),U (.own (rl Q.n λj=>fr (eJ Q T tp i j))),iD (T.B i),iD (T.am (G3 Q) i)]=sd (fr (G7 (T.am (G3 Q) i*Q.sc (T.B i)) (T.size*Q.un))):=by walk_at "v";rw[N4 _ e];walk_at "v";rw[D6 ((K.ab i f).mono f5) ((hs _ e).mono f5),D6 (hz.mono f5) (o.mono f5)];walk_at "v";rw[ix a w]
   delta Y4;rw[t,A4];show(gh (rl Q.n _).length _).bind _=_
   rw[E5,fL e,A4,ik];have:(rl Q.n λk=>if k=T.B i then PV.d (.dat (fr _))else fr _)=rl Q.n λj=>fr (eJ Q T tp (i+1) j):=T9 λk _=>by rw[eJ];split<;>rfl
   rw[this];rfl)
 rw[E5]at h;rw[h];walk_at "v"
noncomputable def X8(Q:W2)(T:Sx.Tb)(p:Nat):Tr:=⟨G7 (T.pr 0 p) (T.size*Q.mu 0),G7 (T.pr 1 p) (T.size*Q.mu 1),G7 (T.pr 2 p) (T.size*Q.mu 2)⟩
theorem TU(K:bK g T)(d:m<g.m)(f:∀t,t<3->0<g.mu t/\Bt 900 (g.mu t)):kK [L1 g T,.int (m:Int)]=sd (oF (X8 g T m)):=by
 have one:∀t:Nat,t<3->gG [iD t,sd (L1 g T),iD m,J]=sd (fr _):=λt b=>by
  obtain⟨m0,m1⟩:=f t b;have a:T.size*g.mu t≠0:=by have:=M3 K.sp m0;exact L9
  delta gG;walk_at "v";rw[N4 _ b];walk_at "v";rw[N4 _ d,N4 _ b];walk_at "v";rw[D6 (K.sb.mono f5) (m1.mono f5)];walk_at "v";rw[ix a ((K.sb.mul m1).mono f5)]
 delta kK;walk_at "v";have e:Q8 C6 C5 gG [sd (L1 g T),iD m,J] [.int 0,.int 1,.int 2]=U [fr (G7 (T.pr 0 m) (T.size*g.mu 0)),fr (G7 (T.pr 1 m) (T.size*g.mu 1)),fr (G7 (T.pr 2 m) (T.size*g.mu 2))]:=by
  have:=M6 (gt:=C6) λi c=>⟨_,_,rfl,one i c,rfl⟩;exact this
 rw[e];rfl
theorem BK(x:f9)(h:m<=1000):fR (.list [x]) (.int (m:Int))=U (.own (rl m λ_=>x)):=by
 show(if _/\[x].length*(m:Int).toNat<=100000 then U _ else J)=_;rw[r9 ⟨⟨by simp[*],nI⟩,by rw[cA,HS];lia⟩,cA,a0Z]
noncomputable def hP(Q:W2)(T:Sx.Tb)(a:Nat):Nat->Nat->Q2
 | 0,j=>if j=a then(Q.sc a,1)else q0
 |i+1,j=>if j=T.B i then G7 (-T.A3 (G3 Q) a i*Q.sc (T.B i)) T.size else hP Q T a i j
theorem a0v(K:bK g T)(b:m<g.n)(hs:∀j,j<g.n->Bt 7000 (g.sc j)):lN [L1 g T,.int (m:Int),.list (eH g T m)]=U (.own (rl g.n λj=>fr (hP g T m g.m j))):=by
 have s:U5 3 (u3 fR (N6 (t4 (fC O4) B1)) (f7 C7 (t4 (J7 "Table" "full" (u7 0)) B1))) [sd (L1 g T),iD m,sd (.list (eH g T m)),J,J,J]=U (.next [sd (L1 g T),iD m,sd (.list (eH g T m)),U (.own (rl g.n λ_=>O4)),J,J]):=by walk_at "v";rw[E5];rw[BK _ K.n1];rfl
 have r:Y4 3 (u7 1) (v9 (t4 (u3 K6 (J7 "Table" "scales" (u7 0)) (u7 1)) (t4 (fC (.int 1)) B1))) [sd (L1 g T),iD m,sd (.list (eH g T m)),U (.own (rl g.n λ_=>O4)),J,J]=U (.next [sd (L1 g T),iD m,sd (.list (eH g T m)),U (.own (rl g.n λj=>fr (hP g T m 0 j))),J,J]):=by
  have c:v9 (t4 (u3 K6 (J7 "Table" "scales" (u7 0)) (u7 1)) (t4 (fC (.int 1)) B1)) [sd (L1 g T),iD m,sd (.list (eH g T m)),U (.own (rl g.n λ_=>O4)),J,J]=sd (fr (g.sc m,1)):=by walk_at "v";rw[N4 _ b];walk_at "v"
  delta Y4;rw[c,A4];show(gh (rl g.n _).length m).bind _=_
  rw[E5,fL b,A4,ik];have:(rl g.n λk=>if k=m then PV.d (.dat (fr (g.sc m,1)))else O4)=rl g.n λj=>fr (hP g T m 0 j):=T9 λk _=>by rw[hP];split<;>rfl
  rw[this];rfl
 obtain⟨p,l,e,Q,rfl⟩:=dG (gt:=du 2 (M1 4 (M1 5 dA))) (G:=oj) (items:=rl g.m λi=>.tuple [.int (T.B i),.int (T.A3 (G3 g) m i)])
  (λi o=>∃e Q,o=[sd (L1 g T),iD m,sd (.list (eH g T m)),U (.own (rl g.n λj=>fr (hP g T m i j))),e,Q])
  ⟨J,J,rfl⟩ (by
   rintro i d o q ⟨e,Q,rfl⟩;obtain⟨h,rfl⟩:=uI q;have f:=K.bn i h;refine⟨[sd (L1 g T),iD m,sd (.list (eH g T m)),U (.own (rl g.n λj=>fr _)),iD _,iD _],[sd _,iD m,sd _,U _,iD (T.B i),iD (T.A3 (G3 g) m i)],rfl,.inl ?_,_,_,rfl⟩
   delta oj;have c:f7 ah (t4 (u3 aG (iy dD (u7 5)) (u3 K6 (J7 "Table" "scales" (u7 0)) (u7 4))) (t4 (J7 "Table" "size" (u7 0)) B1)) [sd (L1 g T),iD m,sd (.list (eH g T m)),U (.own (rl g.n λj=>fr (hP g T m i j))),iD (T.B i),iD (T.A3 (G3 g) m i)]=sd (fr (G7 (-T.A3 (G3 g) m i*g.sc (T.B i)) T.size)):=by walk_at "v";rw[N4 _ f];walk_at "v";rw[D6 (((K.zJ m i b h).mono f5).neg) ((hs _ f).mono f5)];walk_at "v";rw[ix (by have:=K.sp;exact L9) (K.sb.mono f5)]
   delta Y4;rw[c,A4];show(gh (rl g.n _).length _).bind _=_
   rw[E5,fL f,A4,ik];have:(rl g.n λk=>if k=T.B i then PV.d (.dat (fr _))else fr _)=rl g.n λj=>fr (hP g T m (i+1) j):=T9 λk _=>by rw[hP];split<;>rfl
   rw[this];rfl)
 rw[E5]at l;delta lN J5;rw[r9 (by rfl),show(U8 [L1 g T,.int m,.list _]++F7 _ J)=[sd _,iD m,sd _,J,J,J]from rfl,D4,s,B6,D4,r,B6];walk_at "v";rw[mi];walk_at "v";rw[l];walk_at "v"
end
def ub(c x:Int):Int:=(G7 c x).1*x
def Xh(l:List Int):Int:=l.foldl ub 1
theorem Qf(y:0<E)(f:0<M)(i:E∣D)(g:M∣D):0<ub E M/\E∣ub E M/\M∣ub E M/\ub E M∣D:=by
 obtain⟨j,l,s,o⟩:=aj f;delta ub;generalize (G7 E M).1=p at *;generalize (G7 E M).2=q at *;obtain⟨r,b⟩:=o;have hq:q≠0:=by exact L9
 have a:E=p*r:=by
  have:q*(p*r)=q*E:=by rw[b]at s;grind
  exact(AU hq this).symm
 have O5:0<r:=by
  rcases fH 0 r with h|h
  exact h;have:=tK (S9 j) h;lia
 have d:0<p:=by
  rcases fH 0 p with h|h
  exact h;have:=RS h (S9 O5);lia
 refine⟨M3 d f,⟨q,by omega⟩,⟨p,K7 _ _⟩,?_⟩
 obtain⟨u,e⟩:=i;obtain⟨v,t⟩:=g;have k:p*u=q*v:=by
  have:r*(p*u)=r*(q*v):=by rw[a]at e;rw[b]at t;grind
  exact AU L9 this
 have n:q∣u:=by
  have:q∣p*u:=⟨v,k⟩;have h:=Int.natAbs_dvd_natAbs.mpr this;rw[fx]at h;refine Int.natAbs_dvd_natAbs.mp (Nat.Coprime.dvd_of_dvd_mul_left ?_ h);show Nat.gcd q.natAbs p.natAbs=1
  rwa [Nat.gcd_comm]
 obtain⟨w,m⟩:=n;exact⟨w,by rw[e,a,m,b];grind⟩
theorem Ef:∀(l:List Int) (c:Int),0<c->c∣D->(∀x∈l,0<x/\x∣D)->0<l.foldl ub c/\c∣l.foldl ub c/\(∀x∈l,x∣l.foldl ub c)/\l.foldl ub c∣D:=by
 intro l_;induction l_ with
 |nil=>
  exact λc h1 h2 _=>⟨h1,fq _,λx k=>absurd k F5,h2⟩
 |cons x l ih_=>
  intro c h1 h2 h3;obtain⟨d,h⟩:=h3 x F2;obtain⟨i,j,n,m⟩:=Qf h1 d h2 h;obtain⟨e,b,f,g⟩:=ih_ _ i m λy a=>h3 y (E7 _ a);refine⟨e,gy j b,λy a=>?_,g⟩
  rcases List.mem_cons.mp a with rfl|a
  exact gy n b;exact f y a
theorem vh(hD:0<D)(a:0<E)(h:E∣D)(b:Bt m D):Bt m E:=b.of_le (by have:=gO hD h;omega)
theorem nt(hD:0<D)(i:Bt 7000 D)(h:∀x∈S,0<x/\x∣D):P0 [.list (S.map .int)]=sd (.int (Xh S)):=by
 have d:∀(k:List Int) c L x,0<c->c∣D->(∀x∈k,0<x/\x∣D)->∃j,V6 (D7 2) aE (k.map .int) [sd L,iD c,x]=U (.next [sd L,iD (k.foldl ub c),j]):=by
  intro k;induction k with
  |nil=>exact λc L x _ _ _=>⟨x,rfl⟩
  |cons y k o=>
   intro c L x g f n;obtain⟨b,m⟩:=n y F2;obtain⟨p,s,t,q⟩:=Qf g b f m;have a:=vh hD b m i;have e:aE [sd L,iD c,iD y]=U (.next [sd L,iD (ub c y),iD y]):=by delta aE;walk_at "r";rw[ix L9 (a.mono f5)];walk_at "r";rw[D6 ((je b (vh hD g f i) a).bt.mono f5) (a.mono f5)];rfl
   rw[E8,O6 rfl e,Hd];exact o _ L _ p q λz r=>n z (E7 _ r)
 obtain⟨j,e⟩:=d S 1 _ J f5 ⟨D,by simp[*]⟩ h;delta P0;walk_at "r";rw[e];rfl
def wh(q:Q2)(b:Int):Int:=q.1*b.fdiv q.2
theorem sC(e:Bt 7000 q.1)(c:Bt 7000 q.2)(a:q.2≠0)(d:Bt 7000 D):lM [fr q,.int D]=sd (.int (wh q D)):=by delta lM;walk_at "r";rw[O7 a (c.mono f5)];walk_at "r";rw[D6 (e.mono f5) (d.fdiv.mono f5)];rfl
theorem yx(h:0<q.2)(hd:q.2∣D):wh q D*q.2=q.1*D:=by obtain⟨c,a⟩:=hd;delta wh;rw[a,RD _ L9];grind
structure J2 where
 m:Nat
 n:Nat
 cost:Nat->Tr
 row:Nat->Nat->Q2
 rg:Nat->Q2
 tp:Nat->Option Q2
 fs:Nat->Nat
variable{f:J2}
def Q0(x:Tr):Nat->Q2
 | 0=>x.a
 | 1=>x.b
 | 2=>x.c
 |_=>q0
theorem a2G(x:Tr)(h:m<3):K6 (oF x) (.int (m:Int))=sd (fr (Q0 x m)):=by rcases(by lia:m=0\/m=1\/m=2)with rfl|rfl|rfl<;>rfl
def J2.sc(I:J2)(j:Nat):Int:=Xh ((D3 I.m).map λp=>(I.row p j).2)
def J2.dH(I:J2)(j:Nat):Nat->List (Nat×Int)
 | 0=>[]
 |i+1=>I.dH j i++(if I.row i j≠q0 then[(i,wh (I.row i j) (I.sc j))]else[])
def J2.wq(I:J2)(t j:Nat):Q2:=R5 (Q0 (I.cost j) t) (I.sc j,1)
def J2.mu(I:J2)(t:Nat):Int:=Xh ((D3 I.n).map λj=>(I.wq t j).2)
def J2.wt(I:J2)(t j:Nat):Int:=wh (I.wq t j) (I.mu t)
def J2.hq(I:J2)(j:Nat):Option Q2:=(I.tp j).map λq=>R5 q (1,I.sc j)
def J2.qI(I:J2):List Int:=((D3 I.m).map λp=>(I.rg p).2)++(D3 I.n).filterMap λj=>(I.hq j).map (·.2)
def J2.un(I:J2):Int:=Xh I.qI
def J2.lim(I:J2)(j:Nat):Option Int:=(I.hq j).map λq=>wh q I.un
def J2.b(I:J2)(p:Nat):Int:=wh (I.rg p) I.un
def J2.M7(I:J2):W2:=⟨I.m,I.n,I.sc,λj=>I.dH j I.m,I.mu,I.wt,I.un,I.lim⟩
def J2.tab(I:J2):Sx.Tb:=⟨I.fs,λ_=>U',1,λk q=>if k=q then 1 else 0,λt k=>I.wt t (I.fs k),I.b⟩
structure I0(I:J2)(D E F:Int):Prop where
 m1:I.m<=1000
 n1:I.n<=1000
 d0:0<D
 e0:0<E
 f0:0<F
 db:Bt 900 D
 eb:Bt 900 E
 fb:Bt 900 F
 row:∀p j,p<I.m->j<I.n->F0 800 (I.row p j)/\(I.row p j).2∣D
 cost:∀t j,t<3->j<I.n->F0 800 (Q0 (I.cost j) t)/\(Q0 (I.cost j) t).2∣E
 rg:∀p,p<I.m->F0 800 (I.rg p)/\(I.rg p).2∣F
 tp:∀j q,j<I.n->I.tp j=U q->F0 800 q/\∀s,s∣D->q.2*s∣F
 fs:∀k,k<I.m->I.fs k<I.n
theorem I0.sc(H:I0 f D E M)(I:m<f.n):0<f.sc m/\f.sc m∣D/\Bt 900 (f.sc m)/\∀p,p<f.m->(f.row p m).2∣f.sc m:=by
 have:=Ef (D:=D) _ 1 f5 ⟨D,by simp[*]⟩ λx e=>by obtain⟨p,a,rfl⟩:=mem_map.mp e;have:=H.row p m (mem_range.mp a) I;exact⟨this.1.pos,this.2⟩
 obtain⟨b,g,d,c⟩:=this;exact⟨b,c,vh H.d0 b c H.db,λp a=>d _ (mem_map.mpr ⟨p,mem_range.mpr a,rfl⟩)⟩
theorem SO(H:I0 f D E M)(b:m<f.n):kJ [.list (rl f.m λp=>.list (rl f.n λm=>fr (f.row p m))),.int (m:Int)]=sd (.int (f.sc m)):=by
 delta kJ;walk_at "r";rw[r9 (cq H.m1),M6 λp a=>⟨_,.dat (.int (f.row p m).2),rfl,by delta pZ;walk_at "r";rw[N4 _ b];walk_at "r",rfl⟩]
 walk_at "r";have e:(rl f.m λp=>cW (f.row p m).2)=((D3 f.m).map λp=>(f.row p m).2).map cW:=by rw[fw];rfl
 rw[e,nt H.d0 (H.db.mono f5) λx c=>by obtain⟨p,a,rfl⟩:=mem_map.mp c;have:=H.row p m (mem_range.mp a) b;exact⟨this.1.pos,this.2⟩];rfl
theorem a2n(p q:Q2):dE (fr p) (fr q)=sd (.bool (decide (p≠q))):=BJ p q
theorem Qe(H:I0 f D E M)(s:m<f.n):iN [.list (rl f.m λp=>.list (rl f.n λm=>fr (f.row p m))),.int (m:Int),.int (f.sc m)]=U (.own ((f.dH m f.m).map λe=>.tuple [.int (e.1:Int),.int e.2])):=by
 obtain⟨_,_,G,_⟩:=H.sc s;have u:∀k,k<=f.m->Q8 (U4 2) ao aq [sd (.list (rl f.m λp=>.list (rl f.n λm=>fr (f.row p m)))),iD m,iD (f.sc m)] ((rl f.m λi=>.tuple [.int (0+i),.list (rl f.n λm=>fr (f.row i m))]).take k)=U ((f.dH m k).map λe=>.tuple [.int e.1,.int e.2]):=by
  have w:∀(q g o I) d,Q8 (U4 2) ao aq d q=U o->Q8 (U4 2) ao aq d g=U I->Q8 (U4 2) ao aq d (q++g)=U (o++I):=by
   intro q;induction q with
   |nil=>intro g o I d a r;cases a;exact r
   |cons x q t=>
    intro g o I d a r;rw[cz];unfold Q8 at a⊢;obtain⟨bs,K,a⟩:=t5 a;obtain⟨b,L,a⟩:=t5 a;rw[K,A4,L,A4];cases b with
    |false=>
     exact t g o I d a r
    |true=>
     obtain⟨y,C,a⟩:=t5 a;obtain⟨l,B,a⟩:=t5 a;cases a;rw[C,A4,t g l I d B r];rfl
  intro k;induction k with
  |zero=>intro _;rfl
  |succ k t=>
   intro O;have h:k<f.m:=by assumption
   obtain⟨v,N⟩:=H.row k m h s;have A:(rl f.m λi=>fV [.int (0+i),.list (rl f.n λm=>fr (f.row i m))]).take (k+1)=(rl f.m λi=>fV [.int (0+i),.list (rl f.n λm=>fr (f.row i m))]).take k++[.tuple [.int (0+k),.list (rl f.n λm=>fr (f.row k m))]]:=by rw[List.take_succ,M9,gQ h];rfl
   rw[A,J2.dH,W4];refine w _ _ _ _ _ (t eI) ?_;unfold Q8;simp only[U4,Y7,kA,X3,A4];have eq:ao (U8 [.int (0+k),.list (rl f.n λm=>fr (f.row k m))]++[sd (.list (rl f.m λp=>.list (rl f.n λm=>fr (f.row p m)))),iD m,iD (f.sc m)])=U (decide (f.row k m≠q0)):=by unfold ao;walk_at "r";rw[N4 _ s];walk_at "r";rw[a2n _ q0];walk_at "r"
   rw[eq,A4];by_cases c:f.row k m=q0;rw[s9 (by simp[c]),s9 (λz=>z c)];rfl
   . rw[r9 (by simpa using c),r9 c]
     have F:aq (U8 [.int (0+k),.list (rl f.n λm=>fr (f.row k m))]++[sd (.list (rl f.m λp=>.list (rl f.n λm=>fr (f.row p m)))),iD m,iD (f.sc m)])=sd (.tuple [.int (0+k),.int (wh (f.row k m) (f.sc m))]):=by
      unfold aq;walk_at "r";rw[N4 _ s];walk_at "r";rw[sC (v.bt.mono f5) (v.bb.mono f5) (by have:=v.pos;exact L9) (G.mono f5)];walk_at "r"
     rw[F,A4];simp only[Q8,A4,E8,rS,O8,PV.xc]
 have:=u f.m G8;rw[HX (by rw[E5];simp[*])]at this;unfold iN;walk_at "r";rw[xa,r9 (cq H.m1),this];rfl
theorem VE(I:J2)(j:Nat):∀k e,e∈I.dH j k->e.1<k/\e.2=wh (I.row e.1 j) (I.sc j):=by
 intro l_;induction l_ with
 |zero=>
  exact λe h=>absurd h (by simp[J2.dH])
 |succ k ih_=>
  intro e h;rcases List.mem_append.mp h with h|h
  have:=ih_ e h;exact⟨by lia,this.2⟩
  simp_all
theorem VF(I:J2)(j:Nat):∀k,(I.dH j k).length<=k:=by
 intro l_;induction l_ with
 |zero=>
  simp[J2.dH]
 |succ k ih_=>
  rw[J2.dH,T7];split<;>simp<;>omega
theorem VD(c d:List (Nat×Int))(r:Nat):P2 (c++d) r=P2 c r+P2 d r:=by
 induction c with
 |nil=>simp[P2]
 |cons e c a=>rw[cz,P2,P2,a];lia
theorem Qd(I:J2)(j p:Nat):∀k,P2 (I.dH j k) p=if p<k then wh (I.row p j) (I.sc j)else 0:=by
 intro l_;induction l_ with
 |zero=>
  rfl
 |succ k ih_=>
  rw[J2.dH,VD,ih_];by_cases c:p=k;subst c;have g:(if p<p then wh (I.row p j) (I.sc j)else 0)=0:=s9 C4;have f:(if p<p+1 then wh (I.row p j) (I.sc j)else 0)=wh _ _:=r9 C4;rw[g,f];by_cases z:I.row p j=q0;have a:(if I.row p j≠q0 then[(p,wh (I.row p j) (I.sc j))]else[])=[]:=s9 (λy=>y z);rw[a,z];show 0+0=0*_;simp[*];have a:(if I.row p j≠q0 then[(p,wh (I.row p j) (I.sc j))]else[])=[(p,wh _ _)]:=r9 z;rw[a];simp[P2]
  . have e:P2 (if I.row k j≠q0 then[(k,wh (I.row k j) (I.sc j))]else[]) p=0:=by
      split;have d:¬k=p:=λz=>c z.symm;simp[P2,d];rfl
    rw[e];by_cases b:p<k;rw[r9 b,r9 fF];simp[*];rw[s9 b,s9 t9];rfl
theorem zb:∀fs:List (Str×PF),(fs.map (·.1)).contains o=U'->J3 o fs=J:=by
 intro l_;induction l_ with
 |nil=>
  exact λ_=>rfl
 |cons a_ r ih_=>
  obtain⟨g,x⟩:=a_;intro h;rw[E8,List.contains_cons,QZ]at h;rw[J3,s9 (λz=>by lia)];exact ih_ h.2
theorem Tt:∀fs:List (Str×PF),J3 o fs=J->R7 o b7 fs=fs++[(o,b7)]:=by
 intro l_;induction l_ with
 |nil=>
  exact λ_=>rfl
 |cons a_ r ih_=>
  obtain⟨g,x⟩:=a_;intro h;rw[J3]at h;split at h;exact nS h;rename_i c;rw[R7,s9 c,ih_ h];rfl
theorem bB{a:PV->Option PF}{pv:PV}{p:PF}(h:r[m]?=U (U (.ob O (.ins "Table" b3))))(b:b3.length<900)(c:(b3.map (·.1)).contains o=U')(d:G r=U pv)(e:a pv=U p):Z5 "Table" m o a G r=U (.next (r.set m (U (.ob O (.ins "Table" (b3++[(o,p)])))))):=by delta Z5 hZ;rw[d,A4,e,A4,h];simp only[X3,A4];rw[r9 b,Tt b3 (zb b3 c)]
theorem oQ(h:r[m]?=U (U (.ob O (.ins "Table" b3))))(a:J3 o b3=U (.dat A)):P9 "Table" m o r=U (.dat A):=by delta P9 hZ;rw[h];simp only[X3,A4,a,Gf]
theorem JF(h:r[m]?=U (U (.ob O (.ins "Table" b3))))(a:J3 o b3=U (.own l))(b:l.length<1000000)(c:G r=U z):nX "Table" m o G r=U (.next (r.set m (U (.ob O (.ins "Table" (R7 o (.own (l++[z.d])) b3)))))):=by delta nX hZ;rw[c,A4,h];simp only[X3,A4,a,uP];rw[r9 b]
theorem CQ{c':OD}{f:List PV->Option (PV×Ds)}{xs:List f9}(h:L[e]?=U (U (.ob O (.ins "Table" b3))))(m:(b3.map (·.1)).contains o=U')(c:d3 L=U (xs.map AV.d))(b:f (.ob J (.ins "Table" b3)::xs.map .dat)=U (z,U (.ob J c')::r)):
  W9 "Table" o e f d3 L=U (z,L.set e (U (.ob O c'))):=by delta W9 hZ;rw[h];simp only[X3,A4,zb b3 m];refine yp h ?_ b;delta iR;rw[h];simp only[c,A4]
theorem sR:J3 o ((o,b7)::b3)=U b7:=by rw[J3,r9 rfl]
theorem gK{g:Str}(h:(g==o)=U'):J3 o ((g,b7)::b3)=J3 o b3:=by rw[J3,s9 (by simpa using h)]
theorem a5H{q:PF}:R7 o q ((o,b7)::b3)=(o,q)::b3:=by rw[R7,r9 rfl]
theorem put2{g:Str}{q:PF}(h:(g==o)=U'):R7 o q ((g,b7)::b3)=(g,b7)::R7 o q b3:=by rw[R7,s9 (by simpa using h)]
abbrev J2.L4(I:J2):f9:=.list (rl I.n λj=>oF (I.cost j))
abbrev J2.bf(I:J2):f9:=.list (rl I.m λp=>.list (rl I.n λj=>fr (I.row p j)))
abbrev J2.K4(I:J2):f9:=.list (rl I.m λp=>fr (I.rg p))
abbrev J2.P8(I:J2):f9:=.list (rl I.n λj=>bz (I.tp j))
abbrev J2.Y0(I:J2):f9:=.list (rl I.m λk=>.int (I.fs k:Int))
theorem I0.wq(H:I0 f D E M){t:Nat}(I:t<3)(c:m<f.n):F0 1700 (f.wq t m)/\(f.wq t m).2∣E:=by
 obtain⟨i,h,d,g⟩:=H.sc c;obtain⟨a,e⟩:=H.cost t m I c;refine⟨yE a (sM d f5),?_⟩;have:=(aj (t:=(Q0 (f.cost m) t).1*f.sc m) (b:=(Q0 (f.cost m) t).2*1) (by have:=a.pos;simp[*])).2.2.2;rw[gs]at this;delta J2.wq R5;rw[gs];exact gy this e
theorem I0.mu(H:I0 f D E M)(e:m<3):0<f.mu m/\f.mu m∣E/\Bt 900 (f.mu m)/\∀j,j<f.n->(f.wq m j).2∣f.mu m:=by
 obtain⟨b,g,I,c⟩:=Ef (D:=E) _ 1 f5 ⟨E,by simp[*]⟩ λx d=>by obtain⟨p,a,rfl⟩:=mem_map.mp d;have:=H.wq e (mem_range.mp a);exact⟨this.1.pos,this.2⟩
 exact⟨b,c,vh H.e0 b c H.eb,λp a=>I _ (mem_map.mpr ⟨p,mem_range.mpr a,rfl⟩)⟩
theorem I0.wt(H:I0 f D E M)(a:m<3)(b:e<f.n):Bt 2600 (f.wt m e):=(H.wq a b).1.bt.mul (H.mu a).2.2.1.fdiv
theorem I0.hq(H:I0 f D E M)(c:m<f.n)(h:f.hq m=U q):F0 1700 q/\q.2∣M:=by
 obtain⟨b,g,d,i⟩:=H.sc c;obtain⟨r,I,rfl⟩:=Option.map_eq_some_iff.mp h;obtain⟨a,e⟩:=H.tp m r c I;have k:F0 900 (1,f.sc m):=⟨b,by simp,⟨by simp⟩,d⟩;refine⟨yE a k,?_⟩;have:=(aj (t:=r.1*1) (M3 a.pos b)).2.2.2;exact gy this (e _ g)
theorem I0.Ql(H:I0 f D E M):∀x∈f.qI,0<x/\x∣M:=by
 intro x a;rcases List.mem_append.mp a with a|a
 obtain⟨p,b,rfl⟩:=mem_map.mp a;have:=H.rg p (mem_range.mp b);exact⟨this.1.pos,this.2⟩;obtain⟨j,c,h⟩:=List.mem_filterMap.mp a;obtain⟨q,hq,rfl⟩:=Option.map_eq_some_iff.mp h;have:=H.hq (mem_range.mp c) hq;exact⟨this.1.pos,this.2⟩
theorem I0.un(H:I0 f D E M):0<f.un/\f.un∣M/\Bt 900 f.un/\(∀p,p<f.m->(f.rg p).2∣f.un)/\∀j q,j<f.n->f.hq j=U q->q.2∣f.un:=by
 obtain⟨a,I,c,b⟩:=Ef f.qI 1 f5 ⟨M,by simp[*]⟩ H.Ql;refine⟨a,b,vh H.f0 a b H.fb,λp d=>c _ (List.mem_append.mpr (.inl (mem_map.mpr ⟨p,mem_range.mpr d,rfl⟩))),λj q e hq=>c _ (List.mem_append.mpr (.inr (List.mem_filterMap.mpr ⟨j,mem_range.mpr e,by rw[hq];rfl⟩)))⟩
theorem I0.lim(H:I0 f D E M){v:Int}(a:m<f.n)(h:f.lim m=U v):Bt 2600 v:=by obtain⟨q,hq,rfl⟩:=Option.map_eq_some_iff.mp h;exact(H.hq a hq).1.bt.mul H.un.2.2.1.fdiv
theorem I0.b(H:I0 f D E M){p:Nat}(a:p<f.m):Bt 1700 (f.b p):=(H.rg p a).1.bt.mul H.un.2.2.1.fdiv
abbrev fs2(I:J2):List (Str×PF):=[("scales",.dat (il I.n I.sc)),("columns",.dat (.list (rl I.n λj=>ia (I.dH j I.m))))]
abbrev rD(I:J2)(u v:List f9):List (Str×PF):=[("scales",.dat (il I.n I.sc)),("columns",.dat (.list (rl I.n λj=>ia (I.dH j I.m)))),("multiples",.own u),("weights",.own v)]
theorem qE(H:I0 f D E M){t:Nat}(a:t<3)(w:Option Addr)(u v:List f9)(s:u.length<1000)(r:v.length<1000)(x3 c:Option PV):∃q k,bx [U (.ob w (.ins "Table" (rD f u v))),sd f.L4,iD (t:Int),x3,c]=U (.next [U (.ob w (.ins "Table" (rD f (u++[.int (f.mu t)]) (v++[il f.n (f.wt t)])))),sd f.L4,iD (t:Int),q,k]):=by
 refine⟨sd (.list (rl f.n λj=>fr (f.wq t j))),iD (f.mu t),?_⟩
 delta bx;have i:u6 3 (D0 (F3 eu (t4 (u7 1) (t4 (P9 "Table" 0 "scales") B1))) (U4 2) C5 Y3) [U (.ob w (.ins "Table" (rD f u v))),sd f.L4,iD t,x3,c]=U (.next [U (.ob w (.ins "Table" (rD f u v))),sd f.L4,iD t,sd (.list (rl f.n λj=>fr (f.wq t j))),c]):=by
  have m:P9 "Table" 0 "scales" [U (.ob w (.ins "Table" (rD f u v))),sd f.L4,iD t,x3,c]=sd _:=oQ rfl sR;have g:D0 (F3 eu (t4 (u7 1) (t4 (P9 "Table" 0 "scales") B1))) (U4 2) C5 Y3 [U (.ob w (.ins "Table" (rD f u v))),sd f.L4,iD t,x3,c]=U (.own (rl f.n λj=>fr (f.wq t j))):=by
   walk_at "r";rw[m];walk_at "r";rw[mi];walk_at "r";rw[r9 (cq H.n1),M6 λj b=>⟨_,.dat (fr (f.wq t j)),rfl,by delta Y3;walk_at "r";rw[a2G _ a];walk_at "r";rw[yF (H.cost t j a b).1 (sM (H.sc b).2.2.1 f5) f5];rfl,rfl⟩];walk_at "r"
  rw[fm,g];rfl
 rw[D4,i,B6];have l:u6 4 (f7 P0 (t4 (D0 (N2 (u7 3)) C6 C5 eV) B1)) [U (.ob w (.ins "Table" (rD f u v))),sd f.L4,iD t,sd (.list (rl f.n λj=>fr (f.wq t j))),c]=U (.next [U (.ob w (.ins "Table" (rD f u v))),sd f.L4,iD t,sd (.list (rl f.n λj=>fr (f.wq t j))),iD (f.mu t)]):=by
  walk_at "r";rw[r9 (cq H.n1),M6 λj b=>⟨_,.dat (.int (f.wq t j).2),rfl,by rfl,rfl⟩]
  walk_at "r";have e:(rl f.n λj=>cW (f.wq t j).2)=((D3 f.n).map λj=>(f.wq t j).2).map cW:=by rw[fw];rfl
  rw[e,nt H.e0 (H.eb.mono f5) λx I=>by obtain⟨p,h,rfl⟩:=mem_map.mp I;have:=H.wq a (mem_range.mp h);exact⟨this.1.pos,this.2⟩];rfl
 rw[D4,l,B6];rw[D4,JF rfl (by rw[gK M8,gK M8,sR]) (B7 u4 f5) rfl,B6];rw[show R7 "multiples" (.own _) _=rD f (u++[.int _]) v from by rw[put2 M8,put2 M8,a5H];rfl]
 have o:D0 (N2 (u7 3)) C6 C5 eU [U (.ob w (.ins "Table" (rD f (u++[.int (f.mu t)]) v))),sd f.L4,iD t,sd (.list (rl f.n λj=>fr (f.wq t j))),iD (f.mu t)]=U (.own (rl f.n λj=>.int (f.wt t j))):=by
  walk_at "r";rw[r9 (cq H.n1),M6 λj b=>⟨_,.dat (.int (f.wt t j)),rfl,by walk_at "r";exact sC ((H.wq a b).1.bt.mono f5) ((H.wq a b).1.bb.mono f5) (by have:=(H.wq a b).1.pos;exact L9) ((H.mu a).2.2.1.mono f5),rfl⟩];walk_at "r"
 simp only[ki];rw[JF rfl (by rw[gK M8,gK M8,gK M8,sR]) nI o];rfl
theorem KG(H:I0 f D E M):cC [.ob J (.ins "Table" (fs2 f)),.dat f.L4]=U (.dat .none,[U (.ob J (.ins "Table" (rD f (rl 3 λt=>.int (f.mu t)) (rl 3 λt=>il f.n (f.wt t))))),J]):=by
 refine pa rfl λt=>?_;generalize a:(U (t 0))=w;generalize h:f.L4=C;rw[show((eB t 0 [PV.ob J _,.dat C]).map U++F7 _ J)=[U _,sd C,J,J,J]from rfl,a];rw[D4,bB rfl (by show 2<900;decide) (by show(["scales","columns"]:List Str).contains _=U';decide +kernel) rfl rfl,B6];rw[D4,bB rfl (by show 3<900;decide) (by show(["scales","columns","multiples"]:List Str).contains _=U';decide +kernel) rfl rfl,B6];simp only[ki];subst h;obtain⟨e,I,j⟩:=qE H (t:=0) f5 w [] [] f5 f5 J J;obtain⟨c,i,b⟩:=qE H (t:=1) f5 w [.int _] [il f.n _] (by show 1<1000;decide) (by show 1<1000;decide) e I;obtain⟨g,k,d⟩:=qE H (t:=2) f5 w [.int _,.int _] [il f.n _,il f.n _] (by show 2<1000;decide) (by show 2<1000;decide) c i;delta G0;rw[show N2 _ [U _,sd f.L4,J,J,J]=U [.int 0,.int 1,.int 2]from rfl];rw[A4];rw[O6 rfl j];rw[O6 rfl b];rw[O6 rfl d];show nr [PV.ob J _,.dat f.L4] t (.next [U (.ob w (.ins "Table" (rD f (rl 3 λt=>.int _) (rl 3 λt=>il f.n _)))),sd f.L4,_,g,k])=_;rw[<-a];simp only[nr,V7,X3]
abbrev FQ(I:J2):List (Str×PF):=rD I (rl 3 λt=>.int (I.mu t)) (rl 3 λt=>il I.n (I.wt t))
abbrev fsU(I:J2):List (Str×PF):=[("scales",.dat (il I.n I.sc)),("columns",.dat (.list (rl I.n λj=>ia (I.dH j I.m)))),("multiples",.own (rl 3 λt=>.int (I.mu t))),("weights",.own (rl 3 λt=>il I.n (I.wt t))),("unit",.dat (.int I.un))]
abbrev fsR(I:J2):List (Str×PF):=[("scales",.dat (il I.n I.sc)),("columns",.dat (.list (rl I.n λj=>ia (I.dH j I.m)))),("multiples",.own (rl 3 λt=>.int (I.mu t))),("weights",.own (rl 3 λt=>il I.n (I.wt t))),("unit",.dat (.int I.un)),("rights",.own (rl I.m λp=>.int (I.b p)))]
abbrev fsM(I:J2):List (Str×PF):=[("scales",.dat (il I.n I.sc)),("columns",.dat (.list (rl I.n λj=>ia (I.dH j I.m)))),("multiples",.own (rl 3 λt=>.int (I.mu t))),("weights",.own (rl 3 λt=>il I.n (I.wt t))),("unit",.dat (.int I.un)),("rights",.own (rl I.m λp=>.int (I.b p))),("limits",.dat (.list (rl I.n λj=>jf (I.lim j))))]
theorem a2g(H:I0 f D E M)(a:m<f.n):F0 900 (1,f.sc m):=by obtain⟨c,e,b,d⟩:=H.sc a;exact⟨c,by simp,⟨by simp⟩,b⟩
theorem Qc(k:Nat)(h:Nat->Option Q2)(ds:Ds):Q8 C6 V0 V4 ds (rl k λj=>bz (h j))=U (((D3 k).filterMap λj=>(h j).map (·.2)).map .int):=by
 have a:∀l:List Nat,Q8 C6 V0 V4 ds (l.map λj=>bz (h j))=U ((l.filterMap λj=>(h j).map (·.2)).map .int):=by
  intro l;induction l with
  |nil=>rfl
  |cons j l b=>
   rw[E8];unfold Q8;simp only[C6,A4];have c:V0 (U8 [bz (h j)]++ds)=U (h j).isSome:=by walk_at "r";cases h j<;>rfl
   rw[c,A4,AL];cases hj:h j with
   |none=>
    exact b
   |some q=>
    have d:V4 (U8 [bz (U q)]++ds)=sd (.int q.2):=by rfl
    rw[d,A4,b];rfl
 exact a _
theorem Pa(H:I0 f D E M):de [.ob J (.ins "Table" (FQ f)),.dat f.K4,.dat f.P8]=U (.dat .none,[U (.ob J (.ins "Table" (fsM f))),J,J]):=by
 refine pa rfl λt=>?_;obtain⟨u1,u2,e,r,o⟩:=H.un;generalize I:(U (t 0))=w;rw[show((eB t 0 [PV.ob J (.ins "Table" (FQ f)),.dat f.K4,.dat f.P8]).map U++F7 (5-3) J)=[U (.ob (U (t 0)) (.ins "Table" (FQ f))),sd f.K4,sd f.P8,J,J]from rfl,I]
 have i:D0 (F3 eu (t4 (u7 2) (t4 (P9 "Table" 0 "scales") B1))) (U4 2) C5 bS [U (.ob w (.ins "Table" (FQ f))),sd f.K4,sd f.P8,J,J]=U (.own (rl f.n λj=>bz (f.hq j))):=by
  have c:P9 "Table" 0 "scales" [U (.ob w (.ins "Table" (FQ f))),sd f.K4,sd f.P8,J,J]=sd (il f.n f.sc):=oQ rfl sR;walk_at "r";rw[c];walk_at "r";rw[mi];walk_at "r";rw[r9 (cq H.n1),M6 λj a=>⟨_,.dat (bz (f.hq j)),rfl,by
   delta bS;walk_at "r";delta J2.hq;cases hq:f.tp j with
   |none=>rfl
   |some q=>
    simp only[mW,if_false,bz,rY];rw[yF (H.tp j q a hq).1 (a2g H a) f5],rfl⟩]
  walk_at "r"
 rw[D4,fm,i];simp only[uV,B6,PV.Mt,HE,ki];have g:u3 C8 (D0 (N2 (u7 1)) C6 C5 bR) (D0 (N2 (u7 3)) C6 V0 V4) [U (.ob w (.ins "Table" (FQ f))),sd f.K4,sd f.P8,sd (.list (rl f.n λj=>bz (f.hq j))),J]=U (.own (f.qI.map .int)):=by
  walk_at "r";rw[r9 (cq H.m1),M6 λp d=>⟨_,.dat (.int (f.rg p).2),rfl,by delta bR;walk_at "r",rfl⟩]
  walk_at "r";rw[r9 (cq H.n1),Qc];walk_at "r";rw[Qo (by
   rw[E5,F9];have:=List.length_filterMap_le (λj=>(f.hq j).map (·.2)) (D3 f.n);rw[kF]at this;have:=H.m1;have:=H.n1
   lia)]
  delta J2.qI;rw[W4,fw];rfl
 rw[D4,fm,g];simp only[uV,B6,PV.Mt,HE,ki];have k:f7 P0 (t4 (u7 4) B1) [U (.ob w (.ins "Table" (FQ f))),sd f.K4,sd f.P8,sd (.list (rl f.n λj=>bz (f.hq j))),sd (.list (f.qI.map .int))]=sd (.int f.un):=by walk_at "r";rw[nt H.f0 (H.fb.mono f5) H.Ql];rfl
 rw[D4,bB (p:=.dat (.int f.un)) rfl (by show 4<900;decide) (by show(["scales","columns","multiples","weights"]:List Str).contains _=U';decide +kernel) k rfl,B6]
 simp only[ki,cz,cZ];have h:D0 (N2 (u7 1)) C6 C5 bQ [U (.ob w (.ins "Table" (fsU f))),sd f.K4,sd f.P8,sd (.list (rl f.n λj=>bz (f.hq j))),sd (.list (f.qI.map .int))]=U (.own (rl f.m λp=>.int (f.b p))):=by
  walk_at "r";rw[r9 (cq H.m1),M6 λp d=>⟨_,.dat (.int (f.b p)),rfl,by
   delta bQ;have c:P9 "Table" 1 "unit" (U8 [fr (f.rg p)]++[U (.ob w (.ins "Table" (fsU f))),sd f.K4,sd f.P8,sd (.list (rl f.n λj=>bz (f.hq j))),sd (.list (f.qI.map .int))])=sd _:=oQ rfl (by rw[gK M8,gK M8,gK M8,gK M8,sR]);simp only[f7,t4];rw[c];walk_at "r";rw[sC ((H.rg p d).1.bt.mono f5) ((H.rg p d).1.bb.mono f5) (by have:=(H.rg p d).1.pos;exact L9) (e.mono f5)]
   rfl,rfl⟩]
  walk_at "r"
 rw[D4,bB rfl (by show 5<900;decide) (by show(["scales","columns","multiples","weights","unit"]:List Str).contains _=U';decide +kernel) h rfl,B6]
 simp only[ki,cz,cZ];have l:D0 (N2 (u7 3)) C6 C5 bP [U (.ob w (.ins "Table" (fsR f))),sd f.K4,sd f.P8,sd (.list (rl f.n λj=>bz (f.hq j))),sd (.list (f.qI.map .int))]=U (.own (rl f.n λj=>jf (f.lim j))):=by
  walk_at "r";rw[r9 (cq H.n1),M6 λj a=>⟨_,.dat (jf (f.lim j)),rfl,by
   delta bP;have c:P9 "Table" 1 "unit" (U8 [bz (f.hq j)]++[U (.ob w (.ins "Table" (fsR f))),sd f.K4,sd f.P8,sd (.list (rl f.n λj=>bz (f.hq j))),sd (.list (f.qI.map .int))])=sd _:=oQ rfl (by rw[gK M8,gK M8,gK M8,gK M8,sR])
   simp only[f7,t4,jD];rw[c];walk_at "r";delta J2.lim;cases hq:f.hq j with
   |none=>rfl
   |some q=>
    simp only[mW,if_false,bz,rY,jf];rw[sC ((H.hq a hq).1.bt.mono f5) ((H.hq a hq).1.bb.mono f5) (by have:=(H.hq a hq).1.pos;exact L9) (e.mono f5)],rfl⟩]
  walk_at "r"
 rw[bB (p:=.dat (.list _)) rfl (by show 6<900;decide) (by show(["scales","columns","multiples","weights","unit","rights"]:List Str).contains _=U';decide +kernel) l rfl,A4];simp only[ki,cz,cZ];rw[<-I];simp only[nr,V7,X3]
theorem Ye{i:Nat}{Fk Fv:DV}{ds:Ds}(h:ds[i]?=U (U (.own l)))(c:Fv ds=U z)(b:Fk ds=sd (.int (m:Int)))(e:m<l.length):Y4 i Fk Fv ds=U (.next (ds.set i (U (.own (l.set m z.d))))):=by delta Y4;rw[c,A4,b,A4,h];simp only[PV.xc,fL e,A4]
theorem Iw(f:m<=1000)(g:e<m):oh [.int (m:Int),.int (e:Int)]=U (.own (rl m λq=>.int (if e=q then 1 else 0))):=by
 have b:U5 2 (u3 fR (N6 (t4 (fC (.int 0)) B1)) (u7 0)) [iD m,iD e,J]=U (.next [iD m,iD e,U (.own (rl m λ_=>.int 0))]):=by walk_at "r";rw[BK _ f];rfl
 have a:=Ye (i:=2) (Fk:=u7 1) (Fv:=fC (.int 1)) (ds:=[iD m,iD e,U (.own (rl m λ_=>.int 0))]) rfl rfl rfl (by rw[E5];exact g);rw[ik]at a;delta oh;delta J5;rw[show(U8 [.int m,.int e]++F7 _ J)=[iD m,iD e,J]from rfl]
 rw[D4,b,B6,D4,a,B6];have k:(rl m λq=>if q=e then(PV.dat (cW 1)).d else cW 0)=rl m λq=>.int (if e=q then 1 else 0):=T9 λq _=>by
  by_cases c:q=e;rw[r9 c,r9 c.symm];rfl;rw[s9 c,s9 λz=>c z.symm]
 rw[k];rfl
abbrev fsP(I:J2):List (Str×PF):=[("scales",.dat (il I.n I.sc)),("columns",.dat (.list (rl I.n λj=>ia (I.dH j I.m)))),("multiples",.own (rl 3 λt=>.int (I.mu t))),("weights",.own (rl 3 λt=>il I.n (I.wt t))),("unit",.dat (.int I.un)),("rights",.own (rl I.m λp=>.int (I.b p))),("limits",.dat (.list (rl I.n λj=>jf (I.lim j)))),("chosen",.own (rl I.m λk=>.int (I.fs k:Int))),("full",.own (rl I.n λ_=>.bool U')),("size",.dat (.int 1)),("inverse",.dat (.list (rl I.m λk=>il I.m λq=>if k=q then 1 else 0)))]
abbrev nsP:List Str:=["scales","columns","multiples","weights","unit","rights","limits","chosen","full","size","inverse"]
abbrev lP(I:J2):List f9:=[il I.n I.sc,.list (rl I.n λj=>ia (I.dH j I.m)),.list (rl 3 λt=>.int (I.mu t)),.list (rl 3 λt=>il I.n (I.wt t)),.int I.un,.list (rl I.m λp=>.int (I.b p)),.list (rl I.n λj=>jf (I.lim j)),.list (rl I.m λk=>.int (I.fs k:Int)),.list (rl I.n λ_=>.bool U'),.int 1,.list (rl I.m λk=>il I.m λq=>if k=q then 1 else 0)]
def EI(I:J2):f9:=(OD.ins "Table" (fsP I)).d
theorem a1E(I:J2):EI I=BX "Table" nsP (lP I):=rfl
theorem JW(I:J2):wQ "Table" (EI I)=U (nsP.map .str,lP I):=by rw[a1E];exact Pp _ _ _
theorem Li(I:J2):Z6 "Table" "chosen" (EI I)=U (.list (rl I.m λk=>.int (I.fs k:Int))):=by delta Z6;rw[JW,A4];simp only[E8,W0];walk_at "f"
theorem Iz(I:J2):Z6 "Table" "weights" (EI I)=U (.list (rl 3 λt=>il I.n (I.wt t))):=by delta Z6;rw[JW,A4];simp only[E8,W0];walk_at "f"
theorem zy(H:I0 f D E M)(b:m<3):V3 [EI f,.int (m:Int)]=U (.own (rl f.m λk=>.int (f.wt m (f.fs k)))):=by
 delta V3;walk_at "v";rw[Li];walk_at "r";rw[r9 (cq H.m1),M6 λk a=>⟨_,.dat (.int (f.wt m (f.fs k))),rfl,by delta dM;walk_at "v";rw[Iz];walk_at "r";rw[N4 _ b];walk_at "r";rw[N4 _ (H.fs k a)];walk_at "r",rfl⟩];rfl
theorem FC(n:Nat)(f:Nat->Int):mF (rl n λk=>.int (f k))=Uf:=by
 have:∀l:List Nat,mF (l.map λk=>cW (f k))=Uf:=by
  intro l;induction l with
  |nil=>rfl
  |cons x l a=>rw[E8,mF,a];rfl
 exact this _
theorem ZJ(H:I0 f D E M):bY [.ob J (.ins "Table" []),.dat f.L4,.dat f.bf,.dat f.K4,.dat f.P8,.dat f.Y0]=U (.dat .none,[U (.ob J (E6 f.M7 f.tab)),J,J,J,J,J]):=by
 refine pa rfl λt=>?_;generalize c:(U (t 0))=w;rw[show((eB t 0 [PV.ob J (.ins "Table" []),.dat f.L4,.dat f.bf,.dat f.K4,.dat f.P8,.dat f.Y0]).map U++F7 (6-6) J)=[U _,sd f.L4,sd f.bf,sd f.K4,sd f.P8,sd f.Y0]from rfl,c]
 have I:D0 (F3 G9 (t4 (f7 C7 (t4 (u7 1) B1)) B1)) C6 C5 jq [U (.ob w (.ins "Table" [])),sd f.L4,sd f.bf,sd f.K4,sd f.P8,sd f.Y0]=U (.own (rl f.n λj=>.int (f.sc j))):=by
  walk_at "r";rw[E5,T8 (by have:=H.n1;lia),cA,yN];walk_at "r";rw[r9 (cq H.n1),M6 λj b=>⟨_,.dat (.int _),rfl,by walk_at "r";exact SO H b,rfl⟩];walk_at "r"
 rw[D4,bB (p:=.dat (il f.n f.sc)) rfl F5 (by rfl) I rfl,B6]
 simp only[ki,cZ];have g:D0 (F3 cQ (t4 (P9 "Table" 0 "scales") B1)) (U4 2) C5 jo [U (.ob w (.ins "Table" [("scales",.dat (il f.n f.sc))])),sd f.L4,sd f.bf,sd f.K4,sd f.P8,sd f.Y0]=U (.own (rl f.n λj=>ia (f.dH j f.m))):=by
  have l:P9 "Table" 0 "scales" [U (.ob w (.ins "Table" [("scales",.dat (il f.n f.sc))])),sd f.L4,sd f.bf,sd f.K4,sd f.P8,sd f.Y0]=sd _:=oQ rfl sR;walk_at "r";rw[l];walk_at "r";rw[xa,r9 (cq H.n1),M6 λj b=>⟨_,.own _,rfl,by walk_at "r";rw[O8];exact Qe H b,rfl⟩];walk_at "r"
 rw[D4,bB rfl (by show 1<900;decide) (by show(["scales"]:List Str).contains _=U';decide +kernel) g rfl,B6];rw[D4,R8,CQ (xs:=[f.L4]) rfl (by show(["scales","columns"]:List Str).contains _=U';decide +kernel) rfl (KG H),A4,B6];rw[D4,R8,CQ (xs:=[f.K4,f.P8]) rfl (by show(["scales","columns","multiples","weights"]:List Str).contains _=U';decide +kernel) rfl (Pa H),A4,B6];rw[D4,bB rfl (by show 7<900;decide) (by show(["scales","columns","multiples","weights","unit","rights","limits"]:List Str).contains _=U';decide +kernel) rfl rfl,B6];rw[D4,bB rfl (by show 8<900;decide) (by show(["scales","columns","multiples","weights","unit","rights","limits","chosen"]:List Str).contains _=U';decide +kernel) (by walk_at "r";rw[E5,BK _ H.n1]) rfl,B6];rw[D4,bB (p:=.dat (.int 1)) rfl (by show 9<900;decide) (by show(["scales","columns","multiples","weights","unit","rights","limits","chosen","full"]:List Str).contains _=U';decide +kernel) rfl rfl,B6]
 rw[D4,bB (pv:=.own (rl f.m λk=>il f.m λq=>if k=q then 1 else 0)) (p:=.dat (.list _)) rfl (by show 10<900;decide) (by show(["scales","columns","multiples","weights","unit","rights","limits","chosen","full","size"]:List Str).contains _=U';decide +kernel) (by
  walk_at "r";rw[E5,T8 (by have:=H.m1;lia),cA,yN];walk_at "r";rw[r9 (cq H.m1),M6 λk d=>⟨_,.own _,rfl,by delta jn;walk_at "r";rw[E5];exact Iw H.m1 d,rfl⟩]
  walk_at "r") rfl,B6]
 simp only[ki,cz,cZ];rw[bB rfl (by show 11<900;decide) (by show nsP.contains _=U';decide +kernel) (by
  delta D0;rw[show N2 _ _=U (rl 3 λi=>.int i)from rfl,A4]
  rw[r9 (cq f5),M6 λa h=>⟨_,.own (rl f.m λk=>.int (f.wt a (f.fs k))),rfl,by
   delta jm aJ;have e:Z8 "Table" "first_prices" V3 (U6 1) (t4 (u7 0) B1) (U8 [.int a]++[U (.ob w (.ins "Table" (fsP f))),sd f.L4,sd f.bf,sd f.K4,sd f.P8,sd f.Y0])=U (.own (rl f.m λk=>.int (f.wt a (f.fs k)))):=by exact zy H h
   rw[e,A4];simp only[FC,X3],rfl⟩]
  rfl) rfl,A4]
 simp only[ki];rw[<-c];simp only[nr,V7];rfl
open Sx (sN pN sm det J9 dot)
theorem a1U(d:1<=m)(g:1<=e):∀(n:Nat) (f:Nat->Nat),(∀i,i<n->i≠N->f i<=m)->(N<n->f N<=e)->pN n f<=m^n*e:=by
 intro l_;induction l_ with
 |zero=>
  intro f _ _;rw[pN,Nat.pow_zero];simp[*]
 |succ n ih_=>
  intro f h1 h2;by_cases c:n=N
  . have a:pN n f<=m^n:=by
      have:∀x,x<=n->pN x f<=m^x:=by
       intro x;induction x with
       |zero=>intro _;rw[pN,Nat.pow_zero];simp[*]
       |succ x h=>
        exact λj=>An (h eI) (h1 x fF t9)
      exact this n G8
    have b:f n<=e:=by rw[c];exact h2 C4
    have y:m^n*e<=m^(n+1)*e:=pX _ (by rw[GI];exact Nat.le_mul_of_pos_right _ d);exact B7 (An a b) y
  . have a:=ih_ f (λi l=>h1 i fF) λz=>h2 fF
    calc pN n f*f n<=(m^n*e)*m:=An a (h1 n C4 c)
     _=m^(n+1)*e:=by rw[GI,GQ,GQ,vG e m]
theorem yJ:∀{n:Nat}{f:Nat->Nat},n<=1000->(∀i,i<n->f i<2^e)->sN n f<2^(e+10):=by
 intro n f a h;have:∀m,m<=n->sN m f<=m*2^e:=by
  intro m;induction m with
  |zero=>intro _;rw[sN];exact iH _
  |succ m c=>
   intro b;have:=h m u4;rw[sN,Nat.succ_mul];lia
 have:=this n G8;have:0<2^e:=GD f5;have:n*2^e<=1000*2^e:=pX _ a;lia
theorem Bt.sm(a:m<=1000)(h:∀i,i<m->Bt e (C i)):Bt (e+10) (Sx.sm m C):=⟨mV (Sx.Nu m C) (yJ a λi b=>(h i b).lt)⟩
theorem Cp{d k:Nat}{M:Nat->Nat->Int}(b:∀i,i<m->i≠k->sN m (λr=>(M i r).natAbs)<=2^e)(a:k<m->sN m (λr=>(M k r).natAbs)<=2^d):Bt (e*m+d+1) (det m M):=⟨by
 have h:=B7 (Sx.PY m M) (a1U (GD f5) (GD f5) m _ b a);rw[<-Nat.pow_mul,<-Nat.pow_add]at h;exact mV h (HN f5 C4)⟩
theorem Bt.sign(hs:D=1\/D = -1)(h:D*E=M)(b:Bt e M):Bt e E:=b.of_le (by rw[<-h];rcases hs with rfl|rfl<;>simp)
structure Small(Q:W2)(b:Nat->Int)(c:Nat):Prop where
 m1:Q.m<=1000
 n1:Q.n<=1000
 c1:c*Q.m<=2000
 c2:c<=1000
 cn:∀j,j<Q.n->sN Q.m (λp=>(P2 (Q.col j) p).natAbs)<=2^c
 cl:∀j,j<Q.n->(Q.col j).length<=1000
 cb:∀j,j<Q.n->∀e∈Q.col j,e.1<Q.m/\Bt 7000 e.2
 wb:∀t j,t<3->j<Q.n->Bt 2600 (Q.wt t j)
 w0:∀t j,3<=t->Q.wt t j=0
 lb:∀j v,j<Q.n->Q.lim j=U v->Bt 2600 v/\0<=v
 bb:∀p,p<Q.m->Bt 2600 (b p)
section
variable{T:Sx.Tb}
theorem a3M{f:Nat->Nat}(h:e<m):f e<=sN m f:=by
 induction m with
 |zero=>simp_all
 |succ m a=>
  rw[sN];by_cases z:e=m;rw[z];simp[*];have:=a (pV (mS u4) u4);exact Nat.le_add_right_of_le u4
theorem Small.col(S:Small g C m)(d:e<g.n)(a:N<g.m):Bt (m+1) (P2 (g.col e) N):=⟨by
 have:=S.cn e d;have:=a3M (f:=λN=>(P2 (g.col e) N).natAbs) a;have:2^m<2^(m+1):=HN f5 C4
 lia⟩
theorem Small.det(S:Small g C m)(L:Sx.T4 (g.pb C) T){k:Nat}(h:k<g.m){x:Nat->Int}(b:sN g.m (λr=>(x r).natAbs)<=2^e):Bt (m*g.m+e+1) (dot g.m (T.inv k) x):=by
 obtain⟨s,Q,l,f⟩:=L.sg;refine Bt.sign Q (f k h x) (Cp (k:=k) (λi j a=>?_) λ_=>?_);rw[show(λr=>(J9 _ k x i r).natAbs)=λr=>(P2 _ r).natAbs from by funext r;rw[Sx.aT _ _ _ a];rfl];exact S.cn _ (L.bn i j)
 . rwa [show(λr=>(J9 _ k x k r).natAbs)=λr=>(x r).natAbs from by funext r;rw[Sx.cj]]
theorem Small.tab(S:Small g C e)(K:Sx.Ok (g.pb C) T):bK g T:=by
 have L:=K.J6;have:=S.c1;have:=S.c2;have l:Bt 2001 T.size:=by
  obtain⟨s,x,D,E⟩:=L.sg;have:=Cp (d:=0) (k:=g.m) (λi b _=>S.cn _ (L.bn i b)) (λz=>by simp_all);exact(Bt.sign x D this).mono (Ay u4)
 have w:∀k q,k<g.m->q<g.m->Bt 2012 _:=λk q c hq=>by
  have h:sN g.m (λr=>(Sx.unit q r).natAbs)<2^(1+10):=yJ S.m1 λi _=>by delta Sx.unit;split<;>decide
  have:=S.det L c (br h);rw[Sx.tj _ hq]at this;exact this.mono C4
 have A3:∀a k,a<g.n->k<g.m->Bt 3001 _:=λa k o c=>(S.det L c (S.cn a o)).mono t9
 have rt:∀p,p<g.m->Bt 3612 (T.rt p):=λp f=>by
  rw[K.rt p f];have x:Bt (2600+(e+1)+10) (Sx.fsum (g.pb C) T λj=>(g.pb C).A j p):=Bt.sm S.n1 λj u=>by
   split
   . refine Bt.mul ?_ (S.col u f);show Bt 2600 ((g.lim j).getD 0)
     cases hl:g.lim j with
     |none=>exact Bt.mono (m:=1) ⟨by decide⟩ f5
     |some v=>exact(S.lb j v u hl).1
   exact Bt.mono ⟨by decide⟩ (Nat.succ_pos _)
  exact(((S.bb p f).mono f5).sub (x.mono t9))
 have am:∀k,k<g.m->Bt 5623 _:=λk c=>by exact(S.det L c (br (yJ S.m1 λp f=>(rt p f).lt))).mono C4
 have y:∀t q,t<3->q<g.m->Bt 4622 (T.pr t q):=λt q Q hq=>by rw[L.pr t q hq];exact Bt.sm S.m1 λk c=>((S.wb t _ Q (L.bn k c)).mul (w k q c hq)).mono f5
 exact⟨S.m1,S.n1,S.cl,S.cb,λt j Q u=>(S.wb t j Q u).mono f5,λj v u B=>(S.lb j v u B).1.mono f5,L.bn,λp f=>(rt p f).mono f5,λk q c hq=>(w k q c hq).mono f5,λt q Q hq=>(y t q Q hq).mono f5,l.mono f5,L.pos,λk c=>(am k c).mono f5,λa k o c=>(A3 a k o c).mono f5,λt a Q o=>((((S.wb t a Q o).mul l).mono (n:=5633) f5).sub ((Bt.sm S.m1 λp f=>(y t p Q f).mul (S.col o f)).mono t9)).mono f5⟩
end
open Sx (sN pN sm det J9 dot)
section
variable{T:Sx.Tb}
theorem zB(hs:0<D)(h:D*E=M):D*M.fdiv D=M:=by rw[<-h,RD _ L9]
theorem Iy{Q:W2}(S:Small Q C m)(K:Sx.Ok (Q.pb C) T){a:Nat}{g:Int}(n:e<Q.m):Sx.Gv (Q.pb C) T a e g (Z1 Q T a e g):=by
 have L:=K.J6;refine⟨λk w=>rfl,rfl,λq hq=>?_,λr q s hq d=>?_,λt q hq=>?_⟩;show fg Q T a e g e q=_;delta fg;simp;show T.size*fg Q T a e g r q=_;delta fg;rw[s9 d];obtain⟨z,f⟩:=L.exact n g r q s hq d;exact zB L.pos f
 . show T.size*(if t<3 then yZ Q T a e g t else T.pr t) q=_;by_cases h:t<3
   . rw[r9 h];delta yZ;obtain⟨z,f⟩:=L.a2X n g t hq;have b:T.pr t q*(g*T.A3 (G3 Q) a e)-(-g*T.rest (G3 Q) t a)*T.inv e q=T.pr t q*(g*T.A3 (Q.pb C) a e)+g*T.rest (Q.pb C) t a*T.inv e q:=by
      show T.pr t q*(g*T.A3 _ a e)-(-g*T.rest _ t a)*T.inv e q=T.pr t q*(g*T.A3 (G3 Q) a e)+g*T.rest (G3 Q) t a*T.inv e q;lia
     rw[b];exact zB L.pos f
   . rw[s9 h];have i:∀j,(Q.pb C).c t j=0:=λj=>S.w0 t j (kC u4)
     have o:∀q,q<Q.m->T.pr t q=0:=λq hq=>by rw[L.pr t q hq];exact Sx.jw λk _=>by rw[i,cX]
     have v:T.rest (Q.pb C) t a=0:=by
      delta Sx.Tb.rest;rw[i,cX];have:dot (Q.pb C).m (T.pr t) ((Q.pb C).A a)=0:=Sx.jw λp u=>by rw[o p u,cX]
      rw[this];rfl
     rw[o q hq,v];simp
theorem flip_flip(c:g.lim m=U D):Sx.MI (g.pb C) T m (lV g T m (-(T.sg m*D))):=by
 refine⟨λ_ _=>rfl,rfl,λ_ _ _ _=>rfl,λ_ _ _=>rfl,λj _=>rfl,λp _=>?_⟩;show T.rt p + -(T.sg m*D)*P2 _ p=T.rt p-T.sg m*(Sx.uv _ m*P2 _ p)
 have:Sx.uv (g.pb C) m=D:=by delta Sx.uv;show(g.lim m).getD 0=D;rw[c];rfl
 rw[this,zZ,O0];rfl
theorem bc:∀{k:Nat},B∈stI g T m k↔B∈wy g m\/∃i,i<k/\B∈stK g T m i:=by
 intro l_;induction l_ with
 |zero=>
  constructor;exact .inl;rintro(h|⟨i,b,_⟩);exact h;exact nZ
 |succ k ih_=>
  rw[stI,kz,ih_];constructor;rintro((h|⟨i,b,h⟩)|h);exact .inl h;exact .inr ⟨i,fF,h⟩;exact .inr ⟨k,by simp[*],h⟩;rintro(h|⟨i,b,h⟩);exact .inl (.inl h);by_cases z:i=k;rw[z]at h;exact .inr h;exact .inl (.inr ⟨i,pV (mS u4) u4,h⟩)
theorem jy:B∈wy g m ↔ ∃v,g.lim m=U v/\B=⟨v,1,m,J,U'⟩:=by
 delta wy;cases h:g.lim m with
 |none=>simp
 |some v=>simp
theorem aZ:B∈stK g T m e↔(0<T.sg m*T.A3 (G3 g) m e/\B=⟨T.am (G3 g) e,T.sg m*T.A3 (G3 g) m e,T.B e,U e,U'⟩)\/(T.sg m*T.A3 (G3 g) m e<0/\∃v,g.lim (T.B e)=U v/\B=⟨v*T.size-T.am (G3 g) e,-(T.sg m*T.A3 (G3 g) m e),T.B e,U e,Uf⟩):=by
 delta stK;by_cases c:0<T.sg m*T.A3 (G3 g) m e;rw[r9 c];constructor;exact λh=>.inl ⟨c,by simpa using h⟩;rintro(⟨_,h⟩|⟨h,_⟩);simpa using h;lia
 . rw[s9 c];by_cases b:T.sg m*T.A3 (G3 g) m e<0
   . rw[r9 b];cases h:g.lim _ with
     |none=>
      constructor;intro z;simp at z;rintro(⟨z,_⟩|⟨_,v,z,_⟩);exact nZ;exact nE z
     |some v=>
      constructor;intro z;exact .inr ⟨b,v,rfl,by simpa using z⟩;rintro(⟨z,_⟩|⟨_,d,z,Q⟩);exact nZ;cases z;simpa using Q
   . rw[s9 b];constructor;intro z;simp at z
     . rintro(⟨z,_⟩|⟨z,_⟩)<;>exact nZ
theorem Bp(h:B∈stI g T m e):0<B.bot:=by
 rcases bc.mp h with h|⟨i,_,h⟩
 obtain⟨v,_,rfl⟩:=jy.mp h;exact Int.one_pos
 . rcases aZ.mp h with ⟨b,rfl⟩|⟨b,v,_,rfl⟩
   exact b
   simp_all
theorem a0R(K:bK g T)(f:m<g.n)(h:B∈stI g T m g.m):Kw B:=by
 have d:∀x:Int,Bt 7000 x->Bt 7000 (T.sg m*x):=λx Q=>by
  rcases Sx.sJ T m with ⟨_,e⟩|⟨_,e⟩<;>rw[e]
  exact Q.of_le C4;exact Q.of_le C4
 refine⟨?_,?_,Bp h⟩
 . rcases bc.mp h with h|⟨i,b,h⟩
   obtain⟨v,c,rfl⟩:=jy.mp h;exact(K.lb m v f c).mono f5
   . rcases aZ.mp h with ⟨_,rfl⟩|⟨_,v,c,rfl⟩
     exact(K.ab i b).mono f5;exact((((K.lb _ v (K.bn i b) c).mul K.sb)).sub ((K.ab i b).mono f5)).mono f5
 . rcases bc.mp h with h|⟨i,b,h⟩
   obtain⟨v,c,rfl⟩:=jy.mp h;exact Bt.mono ⟨by show(1:Int).natAbs<2^1;decide⟩ f5
   . rcases aZ.mp h with ⟨_,rfl⟩|⟨_,v,c,rfl⟩
     exact(d _ (K.zJ m i f b)).mono f5;exact(d _ (K.zJ m i f b)).neg.mono f5
theorem XS(S:Small g C m)(K:Sx.Ok (g.pb C) T)(l:e<g.n)(hs:B∈stI g T e g.m)(p:∀r∈stI g T e g.m,le B r):Sx.vq (g.pb C) T e B.top B.bot:=by
 have b:∀r∈stI g T e g.m,B.top*r.bot<=r.top*B.bot:=λr o=>by
  have:=p r o;unfold le at this;lia
 refine⟨?_,(Bp hs),λv d=>?_,λk f Q=>?_,λk v f Q d=>?_⟩
 . rcases bc.mp hs with h|⟨i,j,h⟩
   obtain⟨v,d,rfl⟩:=jy.mp h;exact(S.lb e v l d).2
   . rcases aZ.mp h with ⟨_,rfl⟩|⟨_,v,d,rfl⟩
     exact K.lo i j;have:=K.hi i v j d;show 0<=v*T.size-T.am (g.pb C) i;simp[*]
 . have:=b ⟨v,1,e,J,U'⟩ (bc.mpr (.inl (jy.mpr ⟨v,d,rfl⟩)))
   simp_all
 exact b ⟨T.am _ k,T.sg e*T.A3 _ e k,T.B k,U k,U'⟩ (bc.mpr (.inr ⟨k,f,aZ.mpr (.inl ⟨Q,rfl⟩)⟩));exact b ⟨v*T.size-T.am _ k,-(T.sg e*T.A3 _ e k),T.B k,U k,Uf⟩ (bc.mpr (.inr ⟨k,f,aZ.mpr (.inr ⟨Q,v,d,rfl⟩)⟩))
def nextT(Q:W2)(T:Sx.Tb)(a:Nat)(s:fU):Sx.Tb:=match s.pl with
 |none=>lV Q T a (-(T.sg a*(Q.lim a).getD 0))
 |some l=>if s.tp=Uf then lV Q (Z1 Q T a l (if 0<T.A3 (G3 Q) a l then 1 else -1)) s.ch (-((Z1 Q T a l (if 0<T.A3 (G3 Q) a l then 1 else -1)).sg s.ch*(Q.lim s.ch).getD 0))else Z1 Q T a l (if 0<T.A3 (G3 Q) a l then 1 else -1)
theorem Zr(KT:bK g T)(K:Sx.Ok (g.pb C) T)(d:m<g.n)(hs:B∈stI g T m g.m):sx [.ob J (E6 g T),.dat (.int (m:Int)),.dat (.list (eH g T m)),.dat (Z3 B)]=U (.dat .none,[U (.ob J (E6 g (nextT g T m B))),J,J,J]):=by
 rcases bc.mp hs with h|⟨l,e,h⟩
 . obtain⟨v,c,rfl⟩:=jy.mp h;rw[UO KT d c rfl];delta nextT
   simp_all
 . have f:=λz=>(K.fu m d z).1
   rcases aZ.mp h with ⟨Q,rfl⟩|⟨Q,v,c,rfl⟩
   rw[JM KT (v:=0) d e rfl f rfl (KT.bn l e) (λz=>nT z)];rfl;rw[JM KT d e rfl f rfl (KT.bn l e) (λ_=>c)];delta nextT;simp only[c,Option.getD_some]
theorem ON{Q:W2}(S:Small Q C m)(K:Sx.Ok (Q.pb C) T){a:Nat}(E:Sx.S0 (Q.pb C) T a)(hs:B∈stI Q T a Q.m)(H:∀r∈stI Q T a Q.m,le B r):Sx.Step (Q.pb C) T a B.top (nextT Q T a B):=by
 have I:=XS S K E.an hs H;rcases bc.mp hs with h|⟨l,q,h⟩
 obtain⟨v,i,rfl⟩:=jy.mp h;refine .flip i rfl I ?_;delta nextT;simp only[i];exact flip_flip i
 . have N:=K.J6.bn l q;have o:T.full (T.B l)=U':=by
    cases z:T.full _ with
    |false=>rfl
    |true=>exact absurd rfl ((K.fu _ N z).2 l q)
   have n:=(E.nb K.J6) l q;have:B.pl=U l/\B.ch=T.B l:=by rcases aZ.mp h with ⟨_,rfl⟩|⟨_,v,_,rfl⟩<;>exact⟨rfl,rfl⟩
   have:T.A3 _ a l≠0:=λz=>by rcases aZ.mp h with ⟨f,_⟩|⟨f,_⟩<;>rw[z,X4]at f<;>exact nZ
   generalize F:(if 0<T.A3 (G3 Q) a l then 1 else -1)=g
   have b:g=1\/g = -1:=by rw[<-F];split<;>decide
   have D:0<g*T.A3 (Q.pb C) a l:=by
    show 0<g*T.A3 (G3 Q) a l
    rw[<-F];split<;>lia
   have x:B.top=0->∀k,k<(Q.pb C).m->(0<T.sg a*T.A3 (Q.pb C) a k/\T.am (Q.pb C) k=0)\/(T.sg a*T.A3 (Q.pb C) a k<0/\∃v,(Q.pb C).u (T.B k)=U v/\T.am (Q.pb C) k=v*T.size)->T.B l<=T.B k:=by
    intro R k M O;rcases O with ⟨f,G⟩|⟨f,v,i,G⟩
    . have:=H ⟨T.am _ k,T.sg a*T.A3 _ a k,T.B k,U k,U'⟩ (bc.mpr (.inr ⟨k,M,aZ.mpr (.inl ⟨f,rfl⟩)⟩));unfold le at this;have:T.am (G3 Q) k=0:=G
      simp_all
    . have:=H ⟨v*T.size-T.am _ k,-(T.sg a*T.A3 _ a k),T.B k,U k,Uf⟩ (bc.mpr (.inr ⟨k,M,aZ.mpr (.inr ⟨f,v,i,rfl⟩)⟩));unfold le at this;have:T.am (G3 Q) k=v*T.size:=G
      simp_all
   have d:∀j,(Z1 Q T a l g).full j=if j=a then U' else T.full j:=λj=>by
    show(V5 Q T a).full j=_;delta V5;by_cases z:T.full a=Uf;rw[r9 z];show(if j=a then !T.full a else T.full j)=_;rw[z];rfl;rw[s9 z];by_cases y:j=a;rw[r9 y,y];simpa using z;rw[s9 y]
   have w:∀p,(Z1 Q T a l g).rt p=T.rt p+(if T.full a=Uf then Sx.uv (Q.pb C) a*(Q.pb C).A a p else 0):=λp=>by
    show(V5 Q T a).rt p=_;delta V5;by_cases z:T.full a=Uf
    . rw[r9 z,r9 z];show T.rt p + -(T.sg a*(Q.lim a).getD 0)*P2 _ p=T.rt p+(Q.lim a).getD 0*P2 _ p
      have:T.sg a = -1:=by delta Sx.Tb.sg;rw[r9 z]
      congr 1
      congr 1
      simp[*]
    rw[s9 z,s9 z,vF]
   have t:=Iy S K (a:=a) (g:=g) q;rcases aZ.mp h with ⟨f,rfl⟩|⟨f,v,i,rfl⟩
   . refine .move q b D I ⟨λ_=>⟨rfl,rfl⟩,λz=>nT z⟩ ?_ x;delta nextT;simp only[mW,if_false];rw[F];refine⟨t,λj P=>?_,λp f=>?_⟩;rw[d];by_cases z:j=a;rw[r9 z,r9 z];rw[s9 z,s9 z];by_cases y:j=T.B l;rw[r9 y,y,o];rw[s9 y];rw[w];simp
   . refine .move q b D I ⟨λz=>(nF z),λ_=>⟨?_,rfl,?_⟩⟩ ?_ x
     . show v*T.size-_=Sx.uv _ _*T.size-_
       have:Sx.uv (Q.pb C) (T.B l)=v:=by delta Sx.uv;show(Q.lim _).getD 0=v;rw[i];rfl
       rw[this];rfl
     show Q.lim _≠J;rw[i];simp
     delta nextT;simp only[X3];rw[F];have L:(Z1 Q T a l g).sg (T.B l)=1:=by delta Sx.Tb.sg;rw[d,s9 n,o];rfl
     refine⟨⟨t.b,t.size,t.il,t.ir,t.pr⟩,λj P=>?_,λp f=>?_⟩;show(if j=T.B l then !(Z1 Q T a l g).full _ else(Z1 Q T a l g).full j)=_;rw[d,d,s9 n,o];by_cases z:j=a;rw[s9 (by rw[z];exact λy=>n y.symm),r9 z,r9 z];rw[s9 z,s9 z];rfl;show(Z1 Q T a l g).rt p + -((Z1 Q T a l g).sg _*(Q.lim _).getD 0)*P2 _ p=_;have e:(if Uf=Uf then Sx.uv (Q.pb C) (T.B l)*(Q.pb C).A (T.B l) p else 0)=(Q.lim _).getD 0*P2 _ p:=r9 rfl;rw[w,L,e,bq,zZ];rfl
end
structure Data where
 c:f9
 r:f9
 g:f9
 t:f9
 f:f9
section
variable{Q:W2}{b:Nat->Int}{c:Nat}{tp:Nat->Option Q2}
noncomputable abbrev fe(Z:Data)(Q:W2)(w:Option Addr)(T:Sx.Tb)(r:Option Nat)(x7 x8:Option PV):Ds:=[U (.dat Z.c),U (.dat Z.r),U (.dat Z.g),U (.dat Z.t),U (.dat Z.f),U (.ob w (E6 Q T)),U (.dat (optN r)),x7,x8]
abbrev KQ(Q:W2)(tp:Nat->Option Q2):f9:=.list (rl Q.n λj=>bz (tp j))
abbrev LQ(Q:W2)(tp:Nat->Option Q2)(T:Sx.Tb):f9:=.list (rl Q.n λj=>fr (eJ Q T tp Q.m j))
abbrev Sg(Q:W2)(T:Sx.Tb)(a:Nat):f9:=.list (rl Q.n λj=>fr (hP Q T a Q.m j))
theorem JQ(h:∀d∈l,LF d=Uf):mF l=Uf:=by
 induction l with
 |nil=>rfl
 |cons x l b=>rw[mF,h x F2,b λd a=>h d (E7 _ a)];rfl
theorem LZ(q:Q2):LF (fr q)=Uf:=rfl
theorem FA(h:∀i,LF (d5 i)=Uf):mF (rl m d5)=Uf:=JQ λd a=>by obtain⟨i,_,rfl⟩:=mem_map.mp a;exact h i
theorem a2x(s:fU):LF (Z3 s)=Uf:=by delta Z3;cases s.pl<;>rfl
theorem ry(h:G r=U (.own l))(a:mF l=Uf):aJ G r=U (.own l):=by
 delta aJ
 simp_all
theorem BZ(h:G r=sd A)(a:LF A=Uf):aJ G r=sd A:=by
 delta aJ
 simp_all
theorem a4t(h:G r=U z):f7 a8 (t4 G B1) r=a8 [z.d]:=by delta f7 t4 B1;rw[h];rfl
theorem call2(h:H r=U z)(a:G r=U R):f7 a8 (t4 H (t4 G B1)) r=a8 [z.d,R.d]:=by delta f7 t4 B1;rw[h];rw[a];rfl
theorem JR(r:Option Nat):LF (optN r)=Uf:=by cases r<;>rfl
structure Gw(Q:W2)(b:Nat->Int)(c:Nat)(tp:Nat->Option Q2):Prop where
 s:Small Q b c
 sc:∀j,j<Q.n->Bt 900 (Q.sc j)
 un:0<Q.un/\Bt 900 Q.un
 mu:∀t,t<3->0<Q.mu t/\Bt 900 (Q.mu t)
 tl:∀j,j<Q.n->(tp j=J↔Q.lim j=J)
theorem Gw.mix(H:Gw Q b c tp)(K:Sx.Ok (Q.pb b) b8):dI [L1 Q b8,KQ Q tp]=U (.own (rl Q.n λj=>fr (eJ Q b8 tp Q.m j))):=
 a2p (H.s.tab K) (λj a=>(H.sc j a).mono f5) H.un.2 (H.s.tab K).sb H.un.1 λj a z y=>(K.fu j a z).1 ((H.tl j a).mp y)
theorem KU(H:Gw Q b c tp)(K:Sx.Ok (Q.pb b) b8)(E:Sx.S0 (Q.pb b) b8 m)(Z:Data)(A:Z.t=KQ Q tp)(w:Option Addr)(x7 x8:Option PV):
  (stI Q b8 m Q.m=[]/\bT (fe Z Q w b8 (U m) x7 x8)=U (.ret (.dat (.tuple [.str "endless",LQ Q tp b8,Sg Q b8 m])))) \/
  ∃s T' r x L,bT (fe Z Q w b8 (U m) x7 x8)=U (.next (fe Z Q w T' r x L))/\Sx.Step (Q.pb b) b8 m s T'/\(r=J->∀j,j<Q.n->¬Sx.S0 (Q.pb b) T' j)/\∀a',r=U a'->Sx.S0 (Q.pb b) T' a'/\(s=0->∀j,j<a'->¬Sx.S0 (Q.pb b) T' j):=by
 have KT:=H.s.tab K;have h:=E.an;generalize l:(mN (eH Q b8 m))=PC;have S:u6 7 (aJ (Z8 "Table" "paces" bC (U6 5) (t4 (u7 6) B1))) (fe Z Q w b8 (U m) x7 x8)=U (.next (fe Z Q w b8 (U m) (sd PC) x8)):=by
  have e:Z8 "Table" "paces" bC (U6 5) (t4 (u7 6) B1) (fe Z Q w b8 (U m) x7 x8)=U (.own (eH Q b8 m)):=by exact Us KT h
  rw[fm,ry e (FC _ _),<-l];rfl
 have C:u6 8 (f7 cv (t4 (aJ (f7 jG (t4 (U6 5) (t4 (u7 6) (t4 (u7 7) B1))))) B1)) (fe Z Q w b8 (U m) (sd PC) x8)=U (.next (fe Z Q w b8 (U m) (sd PC) (sd (jc ((stI Q b8 m Q.m).foldl iT J))))):=by
  have e:f7 jG (t4 (U6 5) (t4 (u7 6) (t4 (u7 7) B1))) (fe Z Q w b8 (U m) (sd PC) x8)=U (.own ((stI Q b8 m Q.m).map Z3)):=by rw[<-l];exact SH KT h
  have p:f7 cv (t4 (aJ (f7 jG (t4 (U6 5) (t4 (u7 6) (t4 (u7 7) B1))))) B1) (fe Z Q w b8 (U m) (sd PC) x8)=sd (jc ((stI Q b8 m Q.m).foldl iT J)):=by
   rw[a4t (ry e (JQ λd G=>by obtain⟨s,_,rfl⟩:=mem_map.mp G;exact a2x s))];exact Vn λs f=>a0R KT h f
  rw[fm,p];rfl
 have u:=PH (stI Q b8 m Q.m) J (λs f=>Bp f) (λr z=>by exact nE z)
 delta bT;rw[D4,S,B6,D4,C,B6,D4];cases ho:(stI Q b8 m Q.m).foldl iT J with
 |none=>
  refine .inl ⟨(u.1 ho).2,?_⟩;have M:aJ (f7 dI (t4 (U6 5) (t4 (u7 3) B1))) (fe Z Q w b8 (U m) (sd PC) (sd (jc J)))=U (.own (rl Q.n λj=>fr (eJ Q b8 tp Q.m j))):=by
   refine ry ?_ (FA λi=>LZ _);show dI [L1 Q b8,Z.t]=_;rw[A];exact H.mix K
  have p:aJ (f7 lN (t4 (U6 5) (t4 (u7 6) (t4 (u7 7) B1)))) (fe Z Q w b8 (U m) (sd PC) (sd (jc J)))=U (.own (rl Q.n λj=>fr (hP Q b8 m Q.m j))):=by
   refine ry ?_ (FA λi=>LZ _);rw[<-l];exact a0v KT h λj g=>(H.sc j g).mono f5
  delta M0;simp only[C9,v9,t4,M,p];rfl
 |some s=>
  obtain⟨m1,_,B⟩:=u.2 s ho;have f:s∈stI Q b8 m Q.m:=by
   rcases m1 with z|z
   exact nE z;exact z
  have q:=ON H.s K E f B;have P:A9 (u3 oX (u7 8) (fC .none)) (fe Z Q w b8 (U m) (sd PC) (sd (jc (U s))))=U U':=rfl;have N:R8 (jW sx (iR 5 (Q6 (u7 6) (Q6 (u7 7) (Q6 (u7 8) fN))))) (fe Z Q w b8 (U m) (sd PC) (sd (jc (U s))))=U (.next (fe Z Q w (nextT Q b8 m s) (U m) (sd PC) (sd (jc (U s))))):=by
   delta R8;rw[yp (xs:=[.int m,PC,Z3 s]) rfl rfl (by rw[<-l];exact Zr KT K h f)];rfl
  obtain⟨r,D,F,V⟩:=CP (H.s.tab (q.ok K E)) (decide (s.top=0));refine .inr ⟨s.top,nextT Q b8 m s,r,sd PC,sd (jc (U s)),?_,q,λy j g z=>?_,λa' o=>?_⟩
  . delta M0;rw[P];simp only[A4,mW,if_false,F4,B6,D4,N];rw[fm,BZ ?_ (JR r)];rfl
    . have:(u3 X0 (u3 K6 (u7 8) (fC (.int 0))) (fC (.int 0))) (fe Z Q w (nextT Q b8 m s) (U m) (sd PC) (sd (jc (U s))))=sd (.bool (decide (s.top=0))):=by rfl
      exact D
  have:=(gn_enter g b).mpr z;rw[F y j g]at this;exact nT this;obtain⟨O,I,R⟩:=V a' o;refine⟨(gn_enter O b).mp I,λv j g z=>?_⟩;have:=(gn_enter (ky u4 u4) b).mpr z;rw[R (by simpa using v) j g]at this;exact nT this
structure WS where
 T:Sx.Tb
 a:Nat
 cf:Bool
 x7:Option PV
 x8:Option PV
structure WS.Ok(Q:W2)(b:Nat->Int)(s:WS):Prop where
 ok:Sx.Ok (Q.pb b) s.T
 en:Sx.S0 (Q.pb b) s.T s.a
 cr:s.cf=Uf->∀j,j<s.a->¬Sx.S0 (Q.pb b) s.T j
inductive Ends(Z:Data)(Q:W2)(b:Nat->Int)(tp:Nat->Option Q2)(w:Option Addr):Out->Prop
 |best {T x7 x8}:Sx.Ok (Q.pb b) T->(∀j,j<Q.n->¬Sx.S0 (Q.pb b) T j)->Ends Z Q b tp w (.next (fe Z Q w T J x7 x8))
 |endless {T:Sx.Tb}{a:Nat}:Sx.Ok (Q.pb b) T->Sx.S0 (Q.pb b) T a->stI Q T a Q.m=[]->Ends Z Q b tp w (.ret (.dat (.tuple [.str "endless",LQ Q tp T,Sg Q T a])))
theorem yw{Fc:DB}(a:Fc r=U Uf)(b:a7 r=U (.next L)):P1 Fc a7 (m+1) r=P1 Fc a7 m L:=by
 rw[P1,a]
 simp_all
theorem MP(H:Gw Q b c tp)(Z:Data)(B:Z.t=KQ Q tp)(w:Option Addr)(g:WS)(A:g.Ok Q b):∃m o,P1 df bT m (fe Z Q w g.T (U g.a) g.x7 g.x8)=U o/\Ends Z Q b tp w o:=by
 have l:∀T a (x7 x8),df (fe Z Q w T (U a) x7 x8)=U Uf:=λ_ _ _ _=>rfl;have I:∀T (x7 x8),df (fe Z Q w T J x7 x8)=U U':=λ_ _ _=>rfl
 let j:WS->Prop:=λs=>∃m o,P1 df bT m (fe Z Q w s.T (U s.a) s.x7 s.x8)=U o/\Ends Z Q b tp w o
 refine vW λK=>?_
 have u:∀s:{s:WS // s.Ok Q b/\¬j s},∃x:{s:WS // s.Ok Q b/\¬j s},∃top,Sx.Step (Q.pb b) s.1.T s.1.a top x.1.T/\(x.1.cf=Uf↔top=0):=by
  rintro⟨s,f,k⟩;rcases KU H f.ok f.en Z B w s.x7 s.x8 with ⟨h,N⟩|⟨top,F,r,n,v,h,q,E,O⟩
  refine absurd ⟨1,_,?_,.endless f.ok f.en h⟩ k;rw[P1,l];simp only[A4,X3,N]
  . have p:=q.ok f.ok f.en;cases r with
    |none=>
     refine absurd ⟨2,_,?_,.best (x7:=n) (x8:=v) p (E rfl)⟩ k;rw[yw (l _ _ _ _) h,P1,I];rfl
    |some y=>
     obtain⟨M,G⟩:=O y rfl;refine⟨⟨⟨F,y,decide _,n,v⟩,⟨p,M,λz=>G (mT z)⟩,λz=>k ?_⟩,top,q,by simp⟩;obtain⟨m,o,L,D⟩:=z;exact⟨m+1,o,by rw[yw (l _ _ _ _) h];exact L,D⟩
 let q0:{s:WS // s.Ok Q b/\¬j s}:=⟨g,A,K⟩
 let d:Nat->{s:WS // s.Ok Q b/\¬j s}:=λi=>Nat.rec q0 (λ_ s=>(u s).choose) i
 have e:=λi=>(u (d i)).choose_spec;exact Sx.UK (C:=⟨λi=>(d i).1.T,λi=>(d i).1.a,λi=>(e i).choose,λi=>(d i).1.cf⟩) ⟨λi=>(d i).2.1.ok,λi=>(d i).2.1.en,λi=>(d i).2.1.cr,λi=>(e i).choose_spec.1,λi=>(e i).choose_spec.2⟩
end
open Sx (sN pN sm det J9 dot)
structure kH(I:J2)(c:Nat):Prop where
 fi:∀k p,k<I.m->p<I.m->I.row p (I.fs k)=if p=k then(1,1)else q0
 inj:∀k l,k<I.m->l<I.m->I.fs k=I.fs l->k=l
 r0:∀p,p<I.m->0<=(I.rg p).1
 t0:∀j q,j<I.n->I.tp j=U q->0<=q.1
 ft:∀k q,k<I.m->I.tp (I.fs k)=U q->(I.rg k).1*q.2<=q.1*(I.rg k).2
 cn:∀j,j<I.n->sN I.m (λp=>(wh (I.row p j) (I.sc j)).natAbs)<=2^c
 c1:c*I.m<=2000
 c2:c<=1000
section
variable{I:J2}
theorem SR{g:Nat->Nat}(h:∀i,i<m->g8 i=g i):sN m g8=sN m g:=Nat.le_antisymm (Sx.DN λi a=>rT (h i a)) (Sx.DN λi a=>rT (h i a).symm)
theorem Gg(I:J2)(j:Nat)(a:m<I.m):P2 (I.M7.col j) m=wh (I.row m j) (I.sc j):=by
 show P2 (I.dH j I.m) m=_;rw[Qd,r9 a]
theorem Fz(H:I0 I D E M){v:Int}(b:m<I.n)(h:I.lim m=U v):∃q,I.tp m=U q/\0<q.2/\v*(q.2*I.sc m)=q.1*I.un:=by
 obtain⟨e,k,l,s⟩:=H.sc b;obtain⟨r,c,rfl⟩:=Option.map_eq_some_iff.mp h;have g:=H.un.2.2.2.2 m r b c;obtain⟨q,hq,rfl⟩:=Option.map_eq_some_iff.mp c;obtain⟨d,o⟩:=H.tp m q b hq;obtain⟨i,p,f,F⟩:=aj (M3 d.pos e);refine⟨q,hq,d.pos,?_⟩;have a:wh (R5 q _) I.un*(G7 _ _).2=(G7 _ _).1*I.un:=(yx (H.hq b c).1.pos g);generalize wh _ I.un=v at a⊢;generalize (G7 _ _).1=x at *;generalize (G7 _ _).2=y at *;have:y*(v*(q.2*I.sc m))=y*(q.1*I.un):=by
  calc y*(v*(q.2*I.sc m))=(v*y)*(q.2*I.sc m):=by grind
   _=(x*I.un)*(q.2*I.sc m):=by rw[a]
   _=(x*(q.2*I.sc m))*I.un:=by grind
   _=(q.1*1*y)*I.un:=by rw[f]
   _=y*(q.1*I.un):=by grind
 exact AU L9 this
theorem oW:I.tp m=J↔I.lim m=J:=by delta J2.lim J2.hq;simp
theorem wt0(I:J2)(t j:Nat)(h:3<=t):I.wt t j=0:=by
 have:Q0 (I.cost j) t=q0:=by
  match t,h with
  |t+3,_=>rfl
 delta J2.wt wh J2.wq;have:(R5 q0 (I.sc j,1)).1=0:=by delta R5 G7;rw[cX,Int.zero_fdiv]
 simp_all
theorem J2.side(H:I0 I D E M)(G:kH I m):Gw I.M7 I.b m I.tp:=by
 refine⟨⟨H.m1,H.n1,G.c1,G.c2,λj a=>?_,λj a=>B7 (VF I j I.m) H.m1,λj a e k=>?_,λt j d a=>H.wt d a,λt j d=>wt0 I t j d,λj v a g=>⟨H.lim a g,?_⟩,λp f=>(H.b f).mono f5⟩,λj a=>(H.sc a).2.2.1,⟨H.un.1,H.un.2.2.1⟩,λt d=>⟨(H.mu d).1,(H.mu d).2.2.1⟩,λj _=>oW⟩;rw[SR λp f=>by rw[Gg I j f]];exact G.cn j a;obtain⟨h,i⟩:=VE I j I.m e k;refine⟨h,?_⟩;rw[i];exact((H.row e.1 j h a).1.bt.mul (H.sc a).2.2.1.fdiv).mono f5
 . obtain⟨q,hq,q2,e⟩:=Fz H a g;have:=iJ (G.t0 j q a hq) (S9 H.un.1);rcases fH v 0 with z|z
   have:=AR z (M3 q2 (H.sc a).1);lia;exact z
theorem Ew(H:I0 I D E M)(G:kH I m)(g:e<I.m):I.sc (I.fs e)=1:=by
 obtain⟨F,i,h,d⟩:=Ef ((D3 I.m).map λp=>(I.row p _).2) 1 f5 ⟨1,by rfl⟩ λx b=>by
  obtain⟨p,f,rfl⟩:=mem_map.mp b;rw[G.fi e p g (mem_range.mp f)];split;exact⟨by decide,⟨1,rfl⟩⟩;decide
 have:=gO f5 d;exact Int.le_antisymm u4 u4
theorem zx(H:I0 I D E M)(G:kH I m)(b:e<I.m)(a:N<I.m):P2 (I.M7.col (I.fs e)) N=if e=N then 1 else 0:=by
 rw[Gg I _ a,Ew H G b,G.fi e N b a];by_cases z:N=e;rw[r9 z,r9 z.symm];rfl;rw[s9 z,s9 λy=>z y.symm];rfl
theorem Kj(x:Nat->Int)(b:e<m):dot m (λq=>if e=q then 1 else 0) x=x e:=by
 delta Sx.dot;rw[Sx.X7 b λi _ a=>by
  show(if e=i then 1 else 0)*x i=0
  rw[s9 (λz=>a z.symm),cX]]
 simp
theorem PJ(H:I0 I D E M)(G:kH I m):Sx.T4 (I.M7.pb I.b) I.tab:=by
 have l:∀k r,k<I.m->r<I.m->I.tab.M (I.M7.pb I.b) k r=if k=r then 1 else 0:=λk r h j=>zx H G h j;refine⟨H.fs,G.inj,⟨1,.inl rfl,?_,λr j x=>?_⟩,by show 0<1;decide,λp q e hq=>?_,λt q hq=>?_⟩;show 1*1=det I.m _;rw[Sx.ak l,Sx.Kn];rfl
 . show 1*dot I.m (λq=>if r=q then 1 else 0) x=det I.m _
   have a:r<I.m:=j;rw[Kj x a,bq];have n:det I.m (J9 (I.tab.M _) r x)=det I.m (J9 _ r λp=>sm I.m λi=>x i*Sx.unit i p):=Sx.ak λk p h e=>by
    by_cases z:k=r;rw[z,Sx.cj,Sx.cj,Sx.MQ x e];rw[Sx.aT _ _ _ z,Sx.aT _ _ _ z,l k p h e]
   rw[n,Sx.Km _ a x Sx.unit I.m,Sx.X7 a λi f g=>?_]
   . have:det I.m (J9 (λm r=>if m=r then 1 else 0) r (Sx.unit r))=1:=by
       refine zS ?_ (Sx.Kn I.m);exact Sx.ak λk p h e=>by
        by_cases z:k=r;rw[z,Sx.cj];delta Sx.unit;by_cases y:p=r;rw[r9 y,r9 y.symm];rw[s9 y,s9 λw=>y w.symm];rw[Sx.aT _ _ _ z]
     rw[this,gs]
   . have:det I.m (J9 (λm r=>if m=r then 1 else 0) r (Sx.unit i))=0:=Sx.tq f a g λp e=>by
       rw[Sx.aT _ _ _ g,Sx.cj];delta Sx.unit;by_cases y:i=p;rw[r9 y,r9 y.symm];rw[s9 y,s9 λw=>y w.symm]
     rw[this,X4]
 show sm I.m (λk=>(if k=q then 1 else 0)*P2 (I.M7.col (I.fs k)) p)=if p=q then 1 else 0;have d:q<I.m:=hq;rw[Sx.X7 d λi _ f=>by rw[s9 f,cX],r9 rfl,bq,zx H G d e];by_cases y:p=q;rw[r9 y,r9 y.symm];rw[s9 y,s9 λw=>y w.symm];show I.wt t _=sm I.m λk=>I.wt t (I.fs k)*(if k=q then 1 else 0);have d:q<I.m:=hq;rw[Sx.X7 d λi _ f=>by simp_all,r9 rfl,gs]
theorem Vm(H:I0 I D E M)(G:kH I m):Sx.Ok (I.M7.pb I.b) I.tab:=by
 have g:∀k,k<I.m->I.tab.am (I.M7.pb I.b) k=I.b k:=λk a=>Kj I.b a;have i:∀k,k<I.m->I.b k*(I.rg k).2=(I.rg k).1*I.un:=λk a=>yx (H.rg k a).1.pos (H.un.2.2.2.1 k a);refine⟨PJ H G,λp o=>?_,λj n z=>(nT z),λk a=>?_,λk v a l=>?_⟩
 . have:Sx.fsum (I.M7.pb I.b) I.tab (λj=>(I.M7.pb I.b).A j p)=0:=Sx.jw λj _=>by rfl
   rw[this];show I.b p=I.b p-0;simp[*]
 . rw[g k a];have h:=i k a;have:=iJ (G.r0 k a) (S9 H.un.1);have f:=(H.rg k a).1.pos;rcases fH (I.b k) 0 with z|z
   have:=AR z f;lia;exact z
 . rw[g k a];show I.b k<=v*1
   rw[gs];have d:=a;obtain⟨q,hq,q2,e⟩:=Fz H (H.fs k d) l;rw[Ew H G d,gs]at e;have h:=i k d;have f:=(H.rg k d).1.pos;have:=og (G.ft k q d hq) (S9 H.un.1);generalize (I.rg k).1=x at *;generalize (I.rg k).2=y at *;have:(q.2*y)*I.b k<=(q.2*y)*v:=by
    have:(q.2*y)*I.b k=x*q.2*I.un:=by
     calc _*I.b k=q.2*(I.b k*y):=by grind
      _=q.2*(x*I.un):=by rw[h]
      _=x*q.2*I.un:=by grind
    lia
   exact AS this (M3 q2 f)
inductive Res(I:J2):f9->Prop
 |best {T}:Sx.Ok (I.M7.pb I.b) T->(∀j,j<I.n->¬Sx.S0 (I.M7.pb I.b) T j)->Res I (.tuple [.str "best",LQ I.M7 I.tp T,.list (rl I.m λp=>oF (X8 I.M7 T p))])
 |endless {T:Sx.Tb}{a:Nat}:Sx.Ok (I.M7.pb I.b) T->Sx.S0 (I.M7.pb I.b) T a->stI I.M7 T a I.m=[]->Res I (.tuple [.str "endless",LQ I.M7 I.tp T,Sg I.M7 T a])
theorem a2w(x:Tr):LF (oF x)=Uf:=rfl
theorem Nr(H:I0 I D E M)(G:kH I m):∃d,pY [I.L4,I.bf,I.K4,I.P8,I.Y0]=sd d/\Res I d:=by
 have S:=J2.side H G;have l:=Vm H G;have y:U5 5 (sY "Table" bY (t4 (u7 0) (t4 (u7 1) (t4 (u7 2) (t4 (u7 3) (t4 (u7 4) B1)))))) [sd I.L4,sd I.bf,sd I.K4,sd I.P8,sd I.Y0,J,J,J,J]=U (.next [sd I.L4,sd I.bf,sd I.K4,sd I.P8,sd I.Y0,U (.ob J (E6 I.M7 I.tab)),J,J,J]):=by
  have e:sY "Table" bY (t4 (u7 0) (t4 (u7 1) (t4 (u7 2) (t4 (u7 3) (t4 (u7 4) B1))))) [sd I.L4,sd I.bf,sd I.K4,sd I.P8,sd I.Y0,J,J,J,J]=U (.ob J (E6 I.M7 I.tab)):=by
   delta sY;rw[show t4 _ _ [sd I.L4,sd I.bf,sd I.K4,sd I.P8,sd I.Y0,J,J,J,J]=U [I.L4,I.bf,I.K4,I.P8,I.Y0]from rfl,A4];rw[show([I.L4,I.bf,I.K4,I.P8,I.Y0]).map PV.dat=[.dat I.L4,.dat I.bf,.dat I.K4,.dat I.P8,.dat I.Y0]from rfl,ZJ H];rfl
  rw[Ce,e];rfl
 generalize k:(⟨I.L4,I.bf,I.K4,I.P8,I.Y0⟩:Data)=Z;obtain⟨r,q,K,N⟩:=CP (S.s.tab l) U';have A:u6 6 (aJ (f7 jj (t4 (U6 5) (t4 (fC (.bool U')) B1)))) [sd I.L4,sd I.bf,sd I.K4,sd I.P8,sd I.Y0,U (.ob J (E6 I.M7 I.tab)),J,J,J]=U (.next (fe Z I.M7 J I.tab r J J)):=by
  rw[fm,BZ ?_ (JR r),<-k];rfl
  . rwa [call2 rfl rfl]
 have wh:∃c o,P1 df bT c (fe Z I.M7 J I.tab r J J)=U o/\Ends Z I.M7 I.b I.tp J o:=by
  cases r with
  |none=>
   refine⟨1,_,?_,.best (x7:=J) (x8:=J) l λj t z=>?_⟩;rfl;have:=(gn_enter t I.b).mpr z;rw[K rfl j t]at this;exact nT this
  |some a=>
   obtain⟨F,u,_⟩:=N a rfl;exact MP S Z (by rw[<-k];rfl) J ⟨I.tab,a,U',J,J⟩ ⟨l,(gn_enter F I.b).mp u,λz=>nT z⟩
 obtain⟨c,o,w,L⟩:=wh;delta pY J5;rw[show(U8 [I.L4,I.bf,I.K4,I.P8,I.Y0]++F7 _ J)=[sd I.L4,sd I.bf,sd I.K4,sd I.P8,sd I.Y0,J,J,J,J]from rfl]
 rw[D4,y,B6,D4,A,B6,D4,(Mj w)];cases L with
 |endless f k2 v=>exact⟨_,rfl,.endless f k2 v⟩
 | @best T g h f k2=>
  refine⟨_,?_,.best f k2⟩;have C:aJ (f7 dI (t4 (U6 5) (t4 (u7 3) B1))) (fe Z I.M7 J T J g h)=U (.own (rl I.n λj=>fr (eJ I.M7 T I.tp I.m j))):=by
   refine ry ?_ (FA λi=>LZ _);rw[call2 rfl (by rw[<-k];rfl)];exact S.mix f
  have q:D0 (F3 G9 (t4 (f7 C7 (t4 (u7 1) B1)) B1)) C6 C5 tP (fe Z I.M7 J T J g h)=U (.own (rl I.m λp=>oF (X8 I.M7 T p))):=by
   have B:F3 G9 (t4 (f7 C7 (t4 (u7 1) B1)) B1) (fe Z I.M7 J T J g h)=U (rl I.m λi=>.int i):=by rw[<-k];walk_at "r";rw[E5,T8 (by have:=H.m1;lia),cA,yN]
   delta D0;rw[B,A4,r9 (cq H.m1),M6 λp x=>⟨_,.dat (oF _),rfl,by refine BZ ?_ (a2w _);exact TU (S.s.tab f) x S.mu,rfl⟩];rfl
  rw[B6];simp only[C9,v9,t4,C,q];rfl
end
abbrev Nc:Tr:=⟨q0,q0,q0⟩
def smI(costs:List Tr)(mix:List Q2):Nat->Tr
 | 0=>Nc
 |i+1=>a4i (smI costs mix i) (costs.getD i Nc) (mix.getD i q0)
theorem PR{a c d:Int}(j:0<D)(hd:0<d):((a:Rat)/(D:Rat)<(c:Rat)/(d:Rat))↔a*d<c*D:=by
 have e:(0:Rat)<D:=by exact_mod_cast j
 have f:(0:Rat)<d:=by exact_mod_cast hd
 have i:(a:Rat)/D*(D*d)=a*d:=by grind
 have g:(c:Rat)/d*(D*d)=c*D:=by grind
 constructor
 . intro h;have:=RN h (fo e f);rw[i,g]at this
   exact_mod_cast this
 . intro h;have:(a:Rat)*d<c*D:=by exact_mod_cast h
   refine Rat.lt_of_mul_lt_mul_right ?_ (pH (fo e f))
   rwa [i,g]
theorem ml{p:Q2}(a:0<p.2)(hq:0<q.2):yz p q=decide (val p<val q):=by delta yz val;rw[decide_eq_decide];exact(PR a hq).symm
theorem N8:val (0,1)=0:=by rw[val_one];rfl
theorem Zt(b:0<q.2):q.1<0↔val q<0:=by
 have:=PR (a:=q.1) (c:=0) (d:=1) b f5;have:(0:Rat)/(1)=0:=by rw[show((0:Rat))=0 from rfl];grind
 delta val
 simp_all
theorem oT(a:0<q.2):0<=q.1↔0<=val q:=by
 have:=Zt a;constructor
 . exact λh=>Rat.not_lt.mp λz=>by lia
 exact λh=>Int.not_lt.mp λz=>Rat.not_lt.mpr h (this.mp z)
def Vs(row mix:List Q2):Nat->Rat
 | 0=>0
 |i+1=>Vs row mix i+val (row.getD i q0)*val (mix.getD i q0)
abbrev m1:Q2:=(-1,1)
def v5(f:Nat->Rat):Nat->Rat
 | 0=>0
 |n+1=>v5 f n+f n
theorem B4{g:Nat->Rat}:∀n,(∀i,i<n->v i=g i)->v5 v n=v5 g n:=by
 intro l_;induction l_ with
 |zero=>
  exact λ_=>rfl
 |succ n ih_=>
  intro h;show v5 v n+v n=v5 g n+g n;rw[ih_ λi a=>h i fF,h n C4]
theorem oI(f g:Nat->Rat):∀n,v5 (λi=>f i-g i) n=v5 f n-v5 g n:=by
 intro l_;induction l_ with
 |zero=>
  show 0=0-0;grind
 |succ n ih_=>
  show v5 _ n+(f n-g n)=(v5 f n+f n)-(v5 g n+g n);grind
theorem gb(f:Nat->Rat)(c:Rat):∀n,v5 f n*c=v5 (λi=>f i*c) n:=by
 intro l_;induction l_ with
 |zero=>
  show 0*c=0;simp
 |succ n ih_=>
  show(v5 f n+f n)*c=v5 _ n+f n*c;grind
theorem aF(f g:Nat->Rat):∀n,v5 (λi=>f i+g i) n=v5 f n+v5 g n:=by
 intro l_;induction l_ with
 |zero=>
  show 0=0+0;grind
 |succ n ih_=>
  show v5 _ n+(f n+g n)=(v5 f n+f n)+(v5 g n+g n);grind
theorem jv:∀n,v5 (λ_=>0) n=0:=by
 intro l_;induction l_ with
 |zero=>
  exact rfl
 |succ n ih_=>
  show v5 _ n+0=0;rw[ih_];grind
theorem CF(f:Nat->Nat->Rat)(m:Nat):∀n,v5 (λj=>v5 (λi=>f i j) m) n=v5 (λi=>v5 (λj=>f i j) n) m:=by
 intro l_;induction l_ with
 |zero=>
  show 0=v5 (λi=>0) m;rw[jv]
 |succ n ih_=>
  show v5 _ n+v5 _ m=v5 (λi=>v5 _ n+f i n) m;rw[ih_,aF]
def NN(a b c:Rat):Prop:=0<a\/(a=0/\(0<b\/(b=0/\0<=c)))
theorem Co(row mix:List Q2):∀n,Vs row mix n=v5 (λj=>val (row.getD j q0)*val (mix.getD j q0)) n:=by
 intro l_;induction l_ with
 |zero=>
  exact rfl
 |succ n ih_=>
  show Vs row mix n+_=v5 _ n+_;rw[ih_]
open Sx (sm)
theorem El(h:0<q.2)(hd:q.2∣D):((wh q D:Int):Rat)=val q*(D:Rat):=by
 have:((wh q D):Rat)*q.2=q.1*D:=by exact_mod_cast (yx h hd)
 have:=gM (show q.2≠0 by exact L9);delta val;grind
theorem oC(f:Nat->Int):∀n,((sm n f:Int):Rat)=v5 (λi=>((f i:Int):Rat)) n:=by
 intro l_;induction l_ with
 |zero=>
  exact rfl
 |succ n ih_=>
  show((sm n f+f n:Int))=v5 _ n+_;rw[Rat.intCast_add,ih_]
section
variable{T:Sx.Tb}
noncomputable def pick(P:Sx.Pb)(T:Sx.Tb)(g:Nat->Int)(j:Nat):Int:=sm P.m λk=>if T.B k=j then g k else 0
theorem EL(L:Sx.T4 a9 T)(g f:Nat->Int):sm a9.n (λj=>f j*pick a9 T g j)=sm a9.m λk=>g k*f (T.B k):=by
 have e:sm a9.n (λj=>f j*pick a9 T g j)=sm a9.n λj=>sm a9.m λk=>if T.B k=j then g k*f j else 0:=Sx.C1 λj _=>by delta pick;rw[<-Sx.M4];exact Sx.C1 λk _=>by split<;>grind
 rw[e,Sx.qQ];exact Sx.C1 λk b=>by rw[Sx.X7 (L.bn k b) λi _ a=>s9 λz=>a z.symm,r9 rfl]
theorem By(L:Sx.T4 a9 T)(g:Nat->Int)(b:m<a9.m):pick a9 T g (T.B m)=g m:=by delta pick;rw[Sx.X7 b λi c a=>s9 λz=>a (L.inj i m c b z),r9 rfl]
theorem wB(g:Nat->Int)(h:∀k,k<a9.m->T.B k≠m):pick a9 T g m=0:=Sx.jw λk a=>s9 (h k a)
def yv(P:Sx.Pb)(T:Sx.Tb)(j:Nat):Int:=(if T.full j=Uf then T.size*Sx.uv P j else 0)+pick P T (T.am P) j
theorem Wi(L:Sx.T4 a9 T)(f:Nat->Int):sm a9.n (λj=>f j*yv a9 T j)=T.size*Sx.fsum a9 T f+sm a9.m λk=>T.am a9 k*f (T.B k):=by
 have e:sm a9.n (λj=>f j*yv a9 T j)=sm a9.n λj=>(T.size*(if T.full j=Uf then Sx.uv a9 j*f j else 0))+f j*pick a9 T (T.am a9) j:=Sx.C1 λj _=>by delta yv;split<;>grind
 rw[e,Sx.jK,Sx.M4,EL L];rfl
theorem a0f(K:Sx.Ok a9 T)(a:m<a9.m):sm a9.n (λj=>a9.A j m*yv a9 T j)=T.size*a9.b m:=by rw[Wi K.J6,K.J6.SV a,K.rt m a];grind
theorem a0g(K:Sx.Ok a9 T)(t:Nat):sm a9.n (λj=>a9.c t j*yv a9 T j)=T.obj a9 t:=Wi K.J6 _
theorem Ve(P:Sx.Pb)(T:Sx.Tb)(x y:Int)(f g:Nat->Int):Sx.fsum P T (λj=>x*f j-y*g j)=x*Sx.fsum P T f-y*Sx.fsum P T g:=by delta Sx.fsum;rw[<-Sx.M4,<-Sx.M4,<-Sx.jJ];exact Sx.C1 λj _=>by split<;>grind
theorem LG(K:Sx.Ok a9 T)(t:Nat):T.obj a9 t=Sx.dot a9.m (T.pr t) a9.b+Sx.fsum a9 T (T.rest a9 t):=by
 have f:(sm a9.m λk=>T.am a9 k*a9.c t (T.B k))=Sx.dot a9.m (T.pr t) T.rt:=by rw[Sx.yO K.J6];exact Sx.C1 λk _=>K7 _ _
 have e:Sx.dot a9.m (T.pr t) T.rt=Sx.dot a9.m (T.pr t) a9.b-Sx.fsum a9 T λj=>Sx.dot a9.m (T.pr t) (a9.A j):=by
  have a:Sx.dot a9.m (T.pr t) T.rt=Sx.dot a9.m _ λp=>a9.b p-Sx.fsum a9 T λj=>a9.A j p:=Sx.C1 λp d=>by rw[K.rt p d]
  rw[a,Sx.Ki]
  congr 1
  delta Sx.dot Sx.fsum;have b:(sm a9.m λr=>T.pr t r*sm a9.n λj=>if T.full j=Uf then Sx.uv a9 j*a9.A j r else 0)=sm a9.m λr=>sm a9.n λj=>if T.full j=Uf then Sx.uv a9 j*(T.pr t r*a9.A j r)else 0:=Sx.C1 λr _=>by rw[<-Sx.M4];exact Sx.C1 λj _=>by split<;>grind
  rw[b,Sx.qQ];exact Sx.C1 λj _=>by
   split;rw[Sx.M4];exact Sx.jw λ_ _=>rfl
 have g:Sx.fsum a9 T (T.rest a9 t)=Sx.fsum a9 T (λj=>T.size*a9.c t j-1*Sx.dot a9.m (T.pr t) (a9.A j)):=Sx.C1 λj _=>by
  split;delta Sx.Tb.rest;grind;rfl
 delta Sx.Tb.obj;rw[f,e,g,Ve];grind
def vv(P:Sx.Pb)(T:Sx.Tb)(a j:Nat):Int:=(if j=a then T.size else 0)-pick P T (T.A3 P a) j
theorem v_sum(L:Sx.T4 a9 T)(b:m<a9.n)(f:Nat->Int):sm a9.n (λj=>f j*vv a9 T m j)=f m*T.size-sm a9.m λk=>T.A3 a9 m k*f (T.B k):=by
 have e:sm a9.n (λj=>f j*vv a9 T m j)=sm a9.n λj=>(if j=m then f m*T.size else 0)-f j*pick a9 T (T.A3 a9 m) j:=Sx.C1 λj _=>by
  delta vv;by_cases z:j=m;rw[r9 z,r9 z,z];grind;rw[s9 z,s9 z];grind
 rw[e,Sx.jJ,EL L,Sx.X7 b λi _ c=>s9 c,r9 rfl]
theorem a0w(L:Sx.T4 a9 T)(b:m<a9.n)(t:Nat):sm a9.n (λj=>a9.c t j*vv a9 T m j)=T.rest a9 t m:=by rw[v_sum L b,Sx.qj L];grind
end
section
variable{T:Sx.Tb}
abbrev J2.pb(I:J2):Sx.Pb:=I.M7.pb I.b
theorem Jo(H:I0 f D E M)(a:m<f.m)(b:e<f.n):((f.pb.A e m:Int):Rat)=val (f.row m e)*(f.sc e:Rat):=by
 show((P2 _ m):Rat)=_;rw[Gg f e a];exact El (H.row m e a b).1.pos ((H.sc b).2.2.2 m a)
theorem yn(H:I0 f D E M)(b:m<3)(a:e<f.n):((f.pb.c m e:Int):Rat)=val (Q0 (f.cost e) m)*(f.sc e:Rat)*(f.mu m:Rat):=by
 show((f.wt m e):Rat)=_;delta J2.wt;rw[El (H.wq b a).1.pos ((H.mu b).2.2.2 e a)];delta J2.wq;rw[qe (H.cost m e b a).1.pos F5,val_one]
theorem NH(H:I0 f D E M)(a:m<f.m):((f.pb.b m:Int):Rat)=val (f.rg m)*(f.un:Rat):=El (H.rg m a).1.pos (H.un.2.2.2.1 m a)
theorem wo(H:I0 f D E M)(c:m<f.n)(h:f.tp m=U q):((Sx.uv f.pb m:Int):Rat)*(f.sc m:Rat)=val q*(f.un:Rat)/\∃v,f.lim m=U v/\Sx.uv f.pb m=v:=by
 cases hl:f.lim m with
 |none=>rw[oW.mpr hl]at h;exact nE h
 |some v=>
  obtain⟨I,a,d,b⟩:=Fz H c hl;rw[h]at a;cases a;have e:Sx.uv f.pb m=v:=by delta Sx.uv;show(f.lim m).getD 0=v;rw[hl];rfl
  refine⟨?_,v,rfl,e⟩;have:(v:Rat)*(q.2*(f.sc m))=q.1*f.un:=by exact_mod_cast b
  have:=gM (show q.2≠0 by exact L9);delta val;grind
theorem Q3(h:0<D):(0:Rat)<(D:Rat):=by exact_mod_cast h
abbrev dF(I:J2)(T:Sx.Tb)(j:Nat):Q2:=eJ I.M7 T I.tp I.m j
theorem Zv:∀i,(∀k,k<i->T.B k≠m)->eJ f.M7 T f.tp i m=eJ f.M7 T f.tp 0 m:=by
 intro l_;induction l_ with
 |zero=>
  exact λ_=>rfl
 |succ i ih_=>
  intro h;show(if m=T.B i then _ else eJ f.M7 T f.tp i m)=_;rw[s9 λz=>h i C4 z.symm];exact ih_ λk a=>h k fF
theorem Zw(L:Sx.T4 f.pb T)(a:m<f.m):∀i,m<i->i<=f.m->eJ f.M7 T f.tp i (T.B m)=G7 (T.am (G3 f.M7) m*f.sc (T.B m)) (T.size*f.un):=by
 intro l_;induction l_ with
 |zero=>
  exact λh _=>absurd h (vK _)
 |succ i ih_=>
  intro h hi;rw[eJ];by_cases z:i=m;rw[z,r9 rfl];rfl;rw[s9 λy=>z (L.inj i m (by assumption) a y.symm)];exact ih_ t9 eI
theorem sP(K:Sx.Ok f.pb T)(b:m<f.n):(∃k,k<f.m/\T.B k=m/\T.full m=U'/\dF f T m=G7 (T.am f.pb k*f.sc m) (T.size*f.un))\/((∀k,k<f.m->T.B k≠m)/\((T.full m=Uf/\∃q,f.tp m=U q/\dF f T m=q)\/(T.full m=U'/\dF f T m=q0))):=by
 by_cases h:∃k,k<f.m/\T.B k=m
 . obtain⟨k,a,rfl⟩:=h;refine .inl ⟨k,a,rfl,?_,Zw K.J6 a f.m a G8⟩;cases z:T.full _ with
   |false=>rfl
   |true=>exact absurd rfl ((K.fu _ b z).2 k a)
 . have c:=λk a z=>h ⟨k,a,z⟩
   refine .inr ⟨c,?_⟩;have e:dF f T m=eJ f.M7 T f.tp 0 m:=Zv f.m c;cases z:T.full m with
   |false=>exact .inr ⟨rfl,by rw[e,eJ,s9 (by rw[z];decide)]⟩
   |true=>
    cases hq:f.tp m with
    |none=>exact absurd (oW.mp hq) ((K.fu m b z).1)
    |some q=>exact .inl ⟨rfl,q,rfl,by rw[e,eJ,r9 z,hq];rfl⟩
theorem BM(H:I0 f D E M)(K:Sx.Ok f.pb T)(c:m<f.n):val (dF f T m)*((T.size:Rat)*(f.un:Rat))=(f.sc m:Rat)*((yv f.pb T m:Int):Rat):=by
 rcases sP K c with ⟨k,d,rfl,a,e⟩|⟨b,⟨a,q,hq,e⟩|⟨a,e⟩⟩
 . rw[e,gH (M3 K.J6.pos H.un.1)];have:yv f.pb T (T.B k)=T.am f.pb k:=by delta yv;rw[s9 (by simp_all),By K.J6 _ d,O8]
   have:=fo (Q3 K.J6.pos) (Q3 H.un.1);grind
 . rw[e];have:yv f.pb T m=T.size*Sx.uv f.pb m:=by delta yv;rw[r9 a,wB _ b,vF]
   have:=(wo H c hq).1;rw[‹yv f.pb T m=_›,iK];grind
 . rw[e];have:yv f.pb T m=0:=by delta yv;rw[s9 (by rw[a];decide),wB _ b,O8]
   rw[this,N8];simp
theorem UQ(H:I0 f D E M)(K:Sx.Ok f.pb T)(a:m<f.m):v5 (λj=>val (f.row m j)*val (dF f T j)) f.n=val (f.rg m):=by
 have:v5 (λj=>val (f.row m j)*val (dF f T j)) f.n*(T.size*f.un)=val (f.rg m)*(T.size*f.un):=by
  rw[gb,B4 (g:=λj=>((f.pb.A j m*yv f.pb T j:Int))) f.n λj b=>by have:=BM H K b;rw[iK,Jo H a b];grind];rw[<-oC _,show sm f.n _=_ from a0f K a,iK,NH H a];grind
 have:((T.size:Rat)*f.un)≠0:=by have:=fo (Q3 K.J6.pos) (Q3 H.un.1);grind
 grind
theorem UR(H:I0 f D E M)(K:Sx.Ok f.pb T)(b:m<3):v5 (λj=>val (Q0 (f.cost j) m)*val (dF f T j)) f.n*((T.size:Rat)*(f.un:Rat)*(f.mu m:Rat))=((T.obj f.pb m:Int):Rat):=by
 rw[gb,B4 (g:=λj=>((f.pb.c m j*yv f.pb T j:Int))) f.n λj a=>by have:=BM H K a;rw[iK,yn H b a];grind];rw[<-oC _,show sm f.n _=_ from a0g K m]
end
open Sx (sm)
section
variable{T:Sx.Tb}
abbrev Bk(I:J2)(T:Sx.Tb)(a j:Nat):Q2:=hP I.M7 T a I.m j
theorem XF:∀i,(∀k,k<i->T.B k≠e)->hP f.M7 T m i e=if e=m then(f.sc m,1)else q0:=by
 intro l_;induction l_ with
 |zero=>
  exact λ_=>rfl
 |succ i ih_=>
  intro h;show(if e=T.B i then _ else hP f.M7 T m i e)=_;rw[s9 λz=>h i C4 z.symm];exact ih_ λk b=>h k fF
theorem XG(L:Sx.T4 f.pb T)(b:e<f.m):∀i,e<i->i<=f.m->hP f.M7 T m i (T.B e)=G7 (-T.A3 (G3 f.M7) m e*f.sc (T.B e)) T.size:=by
 intro l_;induction l_ with
 |zero=>
  exact λh _=>absurd h (vK _)
 |succ i ih_=>
  intro h hi;rw[hP];by_cases z:i=e;rw[z,r9 rfl];rfl;rw[s9 λy=>z (L.inj i e (by assumption) b y.symm)];exact ih_ t9 eI
theorem Ej(L:Sx.T4 f.pb T)(j:Nat):(∃k,k<f.m/\T.B k=j/\Bk f T m j=G7 (-T.A3 f.pb m k*f.sc j) T.size)\/((∀k,k<f.m->T.B k≠j)/\Bk f T m j=if j=m then(f.sc m,1)else q0):=by
 by_cases h:∃k,k<f.m/\T.B k=j;obtain⟨k,b,rfl⟩:=h;exact .inl ⟨k,b,rfl,XG L b f.m b G8⟩;have c:=λk b z=>h ⟨k,b,z⟩;exact .inr ⟨c,XF f.m c⟩
theorem XD(L:Sx.T4 f.pb T)(nb:∀k,k<f.m->T.B k≠m)(j:Nat):val (Bk f T m j)*(T.size:Rat)=(f.sc j:Rat)*((vv f.pb T m j:Int):Rat):=by
 have:=Q3 L.pos;rcases Ej L j with ⟨k,c,rfl,e⟩|⟨b,e⟩
 . rw[e,gH L.pos];have:vv f.pb T m (T.B k) = -T.A3 f.pb m k:=by delta vv;rw[s9 (nb k c),By L _ c,Int.zero_sub]
   rw[this,iK];grind
 . rw[e];by_cases z:j=m
   . have:vv f.pb T m j=T.size:=by delta vv;rw[r9 z,wB _ b,vE]
     rw[this,r9 z,val_one,z]
   . have:vv f.pb T m j=0:=by delta vv;rw[s9 z,wB _ b,vE]
     rw[this,s9 z,N8];simp
theorem Sf(H:I0 f D E M)(L:Sx.T4 f.pb T)(d:m<f.n)(nb:∀k,k<f.m->T.B k≠m)(b:e<3):v5 (λj=>val (Q0 (f.cost j) e)*val (Bk f T m j)) f.n*((T.size:Rat)*(f.mu e:Rat))=((T.rest f.pb e m:Int):Rat):=by
 rw[gb,B4 (g:=λj=>((f.pb.c e j*vv f.pb T m j:Int))) f.n λj I=>by have:=XD L nb j;rw[iK,yn H b I];grind];rw[<-oC _,show sm f.n _=_ from a0w L d e]
theorem DG(K:Sx.Ok f.pb T)(i:Sx.S0 f.pb T m)(h:stI f.M7 T m f.m=[]):f.lim m=J/\T.full m=U'/\∀k,k<f.m->T.A3 f.pb m k<=0/\(T.A3 f.pb m k<0->f.lim (T.B k)=J):=by
 have b:∀s,s∉stI f.M7 T m f.m:=λs c=>by simp_all
 have d:f.lim m=J:=by
  cases z:f.lim m with
  |none=>rfl
  |some v=>exact absurd (bc.mpr (.inl (jy.mpr ⟨v,z,rfl⟩))) (b ⟨v,1,m,J,U'⟩)
 have I:T.full m=U':=by
  cases z:T.full m with
  |false=>rfl
  |true=>exact absurd d (K.fu m i.an z).1
 have sg:T.sg m=1:=by delta Sx.Tb.sg;rw[I];rfl
 refine⟨d,I,λk e=>⟨?_,λg=>?_⟩⟩
 . rcases fH 0 _ with z|z
   exact absurd (bc.mpr (.inr ⟨k,e,aZ.mpr (.inl ⟨by rw[sg,bq];exact z,rfl⟩)⟩)) (b _);exact z
 . cases z:f.lim _ with
   |none=>rfl
   |some v=>exact absurd (bc.mpr (.inr ⟨k,e,aZ.mpr (.inr ⟨by rw[sg,bq];exact g,v,z,rfl⟩)⟩)) (b _)
theorem Es(f:0<u)(h:y*u=(D:Rat)):(0<y↔0<D)/\(y=0↔D=0)/\(0<=y↔0<=D):=by
 have c:0<y->0<D:=λz=>by
  have:=fo z f;rw[h]at this
  exact_mod_cast this
 have d:y=0->D=0:=λz=>by
  have:(D:Rat)=0:=by simp_all
  exact_mod_cast this
 have b:y<0->D<0:=λz=>by
  have:=fo (show 0 < -y by grind) f
  have e : -y*u=((-D:Int)):=by rw[pL,<-h];grind
  rw[e]at this;have:0 < -D:=by exact_mod_cast this
  simp_all
 have a:y<0\/y=0\/0<y:=by grind
 refine⟨⟨c,λz=>?_⟩,⟨d,λz=>?_⟩,⟨λz=>?_,λz=>?_⟩⟩
 . rcases a with t|t|t
   have:=b t;lia
   . have:=d t;simp_all
   exact t
 . rcases a with t|t|t
   . have:=b t;simp_all
   exact t
   . have:=c t;simp_all
 . rcases a with t|t|t
   grind;have:=d t;simp[*];have:=c t;exact eN
 . rcases a with t|t|t
   have:=b t;lia
   . simp_all
   grind
theorem nnI(a b c:Int):(0<a\/(a=0/\(0<b\/(b=0/\0<=c))))↔¬(a<0\/(a=0/\(b<0\/(b=0/\c<0)))):=by lia
theorem WQ{z k l m:Rat}{r:Nat->Int}(e:0<k)(b:0<l)(c:0<m)(a:u*k=(r 0:Rat))(f:y*l=(r 1:Rat))(d:z*m=(r 2:Rat)):NN u y z↔¬Sx.Neg r:=by obtain⟨i,n,_⟩:=Es e a;obtain⟨g,h,_⟩:=Es b f;obtain⟨_,_,j⟩:=Es c d;delta NN;rw[i,n,g,h,j];exact nnI ..
theorem CM(H:I0 f D E M)(L:Sx.T4 f.pb T){p:Nat}(a:m<3):val (Q0 (X8 f.M7 T p) m)*((T.size:Rat)*(f.mu m:Rat))=((T.pr m p:Int):Rat):=by
 have e:Q0 (X8 f.M7 T p) m=G7 (T.pr m p) (T.size*f.mu m):=by rcases tW a with rfl|rfl|rfl<;>rfl
 have:=fo (Q3 L.pos) (Q3 (H.mu a).1);rw[e,gH (M3 L.pos (H.mu a).1),iK];grind
def lR(I:J2)(T:Sx.Tb)(t j:Nat):Rat:=val (Q0 (I.cost j) t)-v5 (λp=>val (Q0 (X8 I.M7 T p) t)*val (I.row p j)) I.m
theorem xP(H:I0 f D E M)(L:Sx.T4 f.pb T){t:Nat}(a:t<3)(b:m<f.n):lR f T t m*((f.sc m:Rat)*(f.mu t:Rat)*(T.size:Rat))=((T.rest f.pb t m:Int):Rat):=by
 have e:v5 (λp=>val (Q0 (X8 f.M7 T p) t)*val (f.row p m)) f.m*((f.sc m)*(f.mu t)*T.size)=((Sx.dot f.m (T.pr t) (f.pb.A m))):=by
  rw[gb,B4 (g:=λp=>((T.pr t p*f.pb.A m p:Int))) f.m λp d=>by have:=CM (p:=p) H L a;rw[iK,Jo H d b];grind];rw[<-oC _];rfl
 have I:((T.rest f.pb t m):Rat)=((f.pb.c t m))*T.size-((Sx.dot f.m (T.pr t) (f.pb.A m))):=by
  show((f.pb.c t m*T.size-Sx.dot f.m _ _:Int):Rat)=_;simp
 delta lR;rw[I,yn H a b,<-e];grind
theorem EH(H:I0 f D E M)(L:Sx.T4 f.pb T)(c:m<3):v5 (λp=>val (Q0 (X8 f.M7 T p) m)*val (f.rg p)) f.m*((T.size:Rat)*(f.un:Rat)*(f.mu m:Rat))=((Sx.dot f.m (T.pr m) f.pb.b:Int):Rat):=by
 rw[gb,B4 (g:=λp=>((T.pr m p*f.pb.b p:Int))) f.m λp a=>by have:=CM (p:=p) H L c;rw[iK,NH H a];grind];rw[<-oC _];rfl
theorem MB(K:Sx.Ok f.pb T)(ne:∀m,m<f.n->¬Sx.S0 f.pb T m)(a:m<f.n):(f.lim m=U 0)\/(T.full m=U'/\¬Sx.Neg λt=>T.rest f.pb t m)\/(T.full m=Uf/\(Sx.Neg (λt=>T.rest f.pb t m)\/∀t,t<3->T.rest f.pb t m=0)):=by
 by_cases z:f.lim m=U 0;exact .inl z
 . have nn:=λy=>ne m a ⟨a,z,y⟩
   cases hf:T.full m with
   |false=>
    have sg:T.sg m=1:=by delta Sx.Tb.sg;rw[hf];rfl
    refine .inr (.inl ⟨rfl,λy=>nn (y.congr λt _=>by rw[sg,bq])⟩)
   |true=>
    have sg:T.sg m = -1:=by delta Sx.Tb.sg;rw[hf];rfl
    exact .inr (.inr ⟨rfl,(Sx.tri _).imp_right λy=>y.elim (λy=>(nn (y.congr λt _=>by rw[sg,Int.neg_one_mul])).elim) id⟩)
theorem Dg(H:I0 f D E M)(K:Sx.Ok f.pb T)(ne:∀m,m<f.n->¬Sx.S0 f.pb T m)(d:m<f.n)(I:c7=Uf↔Sx.Neg λt=>T.rest f.pb t m):(c7=Uf->f.tp m≠J)/\∀t,t<3->(if c7=Uf then lR f T t m*val ((f.tp m).getD q0)else 0)*((T.size:Rat)*(f.un:Rat)*(f.mu t:Rat))=((if T.full m=Uf then Sx.uv f.pb m*T.rest f.pb t m else 0:Int):Rat):=by
 have k:=MB K ne d;constructor
 . intro a c;have g:=oW.mp c;rcases k with k|⟨_,k⟩|⟨i,_⟩
   lia;exact k (I.mp a);exact(K.fu m d i).1 g
 . intro t c;have:val ((f.tp m).getD q0)*f.un=((Sx.uv f.pb m))*(f.sc m):=by
    cases htp:f.tp m with
    |none=>
     have:Sx.uv f.pb m=0:=by delta Sx.uv;show(f.lim m).getD 0=0;rw[oW.mp htp];rfl
     rw[this];show val q0*_=0*_;rw[N8];simp
    |some q=>
     have:=(wo H d htp).1
     simp_all
   have h:f.lim m=U 0->Sx.uv f.pb m=0:=λz=>by delta Sx.uv;show(f.lim m).getD 0=0;rw[z];rfl
   by_cases a:c7=Uf
   . rw[r9 a];have e:((if T.full m=Uf then Sx.uv f.pb m*T.rest f.pb t m else 0))=Sx.uv f.pb m*T.rest f.pb t m:=by
      by_cases b:T.full m=Uf;rw[r9 b]
      . rw[s9 b];rcases k with k|⟨_,k⟩|⟨k,_⟩
        rw[h k,cX];exact absurd (I.mp a) k;exact absurd k b
     rw[e,iK,<-(xP H K.J6 c d)];grind
   . rw[s9 a];have e:((if T.full m=Uf then Sx.uv f.pb m*T.rest f.pb t m else 0))=0:=by
      by_cases b:T.full m=Uf
      . rw[r9 b];rcases k with k|⟨k,_⟩|⟨_,k|k⟩
        rw[h k,cX]
        . simp_all
        exact absurd (I.mpr k) a;rw[k t c,X4]
      rw[s9 b]
     rw[e];simp
theorem IS(H:I0 f D E M)(K:Sx.Ok f.pb T)(ne:∀j,j<f.n->¬Sx.S0 f.pb T j){ch:Nat->Bool}(d:∀j,j<f.n->(ch j=Uf↔Sx.Neg λm=>T.rest f.pb m j))(a:m<3):
  v5 (λp=>val (Q0 (X8 f.M7 T p) m)*val (f.rg p)) f.m+v5 (λj=>if ch j=Uf then lR f T m j*val ((f.tp j).getD q0)else 0) f.n=v5 (λj=>val (Q0 (f.cost j) m)*val (dF f T j)) f.n:=by
 have:=fo (fo (Q3 K.J6.pos) (Q3 H.un.1)) (Q3 (H.mu a).1);have:=EH H K.J6 a;have:=UR H K a;have:v5 (λj=>if ch j=Uf then lR f T m j*val ((f.tp j).getD q0)else 0) f.n*(T.size*f.un*(f.mu m))=((Sx.fsum f.pb T (T.rest f.pb m))):=by
  rw[gb,B4 f.n λj c=>(Dg H K ne c (d j c)).2 m a];rw[<-oC _];rfl
 have:((T.obj f.pb m):Rat)=((Sx.dot f.m (T.pr m) f.pb.b))+((Sx.fsum f.pb T (T.rest f.pb m))):=by rw[LG K m,Rat.intCast_add];rfl
 generalize (T.size:Rat)*f.un*(f.mu m)=z at *;grind
end
open Sx (sN pN sm det J9 dot)
section
variable{T:Sx.Tb}
theorem EZ{c:Rat}(h:¬NN y u c):NN (-y) (-u) (-c):=by unfold NN at *;grind
end
section
variable{T:Sx.Tb}
theorem Fy(h:f.tp m=U q):f.lim m≠J:=by delta J2.lim J2.hq;rw[h];simp
theorem XE(K:Sx.Ok f.pb T)(I:Sx.S0 f.pb T m)(h:stI f.M7 T m f.m=[])(hq:f.tp e=U q):val (Bk f T m e)=0:=by
 obtain⟨g,_,a⟩:=DG K I h;rcases Ej K.J6 e with ⟨k,d,k2,b⟩|⟨_,b⟩
 . obtain⟨c,l⟩:=a k d;have i:T.A3 f.pb m k=0:=by
    rcases HF c with z|z
    exact absurd (k2▸l z) (Fy hq);exact z
   rw[b,i,gH K.J6.pos,Int.neg_zero,cX];show 0/_=0;rw[GC,GH]
 rw[b,s9 (λz=>Fy hq (by rw[z];exact g))];exact N8
theorem IJ(H:I0 f D E M)(K:Sx.Ok f.pb T)(b:Sx.S0 f.pb T m)(h:stI f.M7 T m f.m=[])(fr:∀j,j<f.n->f.tp j=J->f.cost j=Nc):False:=by
 have z:∀t,t<3->T.rest f.pb t m=0:=λt c=>by
  have w:=Sf H K.J6 b.an (b.nb K.J6) c;have e:v5 (λj=>val (Q0 (f.cost j) t)*val (Bk f T m j)) f.n=0:=by
   rw[B4 f.n λj d=>?_,jv]
   cases q:f.tp j with
   |none=>
    rw[fr j d q];have:val (Q0 Nc t)=0:=by rcases(tW u4)with rfl|rfl|rfl<;>exact N8
    rw[this,GH]
   |some I=>rw[XE K b h q,Rat.mul_zero]
  rw[e,GH]at w
  exact_mod_cast w.symm
 exact Sx.jA (λt c=>by rw[z t c,X4]) b.neg
end
open Sx (sN pN sm det J9 dot)
structure Hr where
 S6:Int
 need:Int
 line:Option (Int×Int×Int×Int)
variable{b9:List Hr}{c9:Hr}
noncomputable def DX:Option (Int×Int×Int×Int)->f9
 |none=>.none
 |some (a,b,c,d)=>.tuple [.int a,.int b,.int c,.int d]
def D2(h:Hr):f9:=.tuple [.int h.S6,.int h.need,DX h.line]
structure Wk where
 name:Str
 L5:Int
 first:Int
 last:Int
 most:Int
noncomputable def P4(w:Wk):f9:=.tuple [.str w.name,.int w.L5,.int w.first,.int w.last,.int w.most]
structure A7 where
 hs:List Hr
 size:Int
 start:Int
 fill:Int
 take:Int
 kept:Q2
 left:Q2
 rest:Int
 ws:List Wk
variable{d:A7}
abbrev A7.n(h:A7):Nat:=h.hs.length
abbrev A7.w(h:A7):Nat:=h.ws.length
noncomputable def eF(h:A7):f9:=.tuple [.int h.size,.int h.start,.int h.fill,.int h.take,fr h.kept,fr h.left,.int h.rest]
def A8(h:A7):f9:=.tuple [.tuple (h.hs.map D2),eF h,.tuple (h.ws.map P4)]
theorem WK{p:Q2}(a:F0 m p)(hq:F0 e q)(h:m+e<=7998):kM [fr p,fr q]=sd (fr (iQ p q)):=by
 have n:Bt 60000 p.1:=a.bt.mono (B7 rh f5);have b:Bt 60000 p.2:=a.bb.mono (B7 rh f5);have g:Bt 60000 q.1:=hq.bt.mono (B7 uR f5);have c:Bt 60000 q.2:=hq.bb.mono (B7 uR f5);obtain⟨i,j,d⟩:=Ub a.pos hq.pos a.low hq.low;have bs:Bt 8000 (gc p.2 q.2):=(a2Q a.pos a.bb).mono (B7 rh f5);have f:∀t,Bt 8000 (gc t _):=λt=>zq L9 bs;delta kM;walk_at "r";rw[mB (S9 a.pos) (S9 hq.pos)];walk_at "r";simp only[O7 (show gc p.2 q.2≠0 by exact L9) bs];walk_at "r";simp only[D6,n,b.fdiv,g,c.fdiv];walk_at "r";rw[mB (by split<;>omega) C4,Cc];walk_at "r";simp only[O7 (show gc _ _≠0 by exact L9) (f _),O7 (show gc p.2 q.2≠0 by exact L9) bs];walk_at "r";rw[D6 b.fdiv c.fdiv];delta iQ;rw[d];rfl
theorem Vf{q:Int×Int}(h:F0 m q):F0 m (-q.1,q.2):=⟨h.pos,by have:=h.low;simpa using this,h.bt.neg,h.bb⟩
theorem TZ(p q:Int×Int):iQ p (-q.1,q.2)=eL p q:=by
 show G7 _ _=G7 _ _;rw[zZ];rfl
theorem OV{p:Q2}(a:F0 m p)(hq:F0 e q)(h:m+e<=7998):cJ [fr p,fr q]=sd (fr (eL p q)):=by
 delta cJ;walk_at "r";rw[show(fV [.int (-q.1),.int q.2])=fr (-q.1,q.2)from rfl,WK a (Vf hq) h,TZ];rfl
structure Ch where
 k:List Key
 c:Tr
 t:Option Q2
 ns:List (Nat×Q2)
variable{b5:Ch}{d8:List Ch}
noncomputable def oR(p:Nat×Q2):f9:=.tuple [.int (p.1:Int),fr p.2]
def Y1(x:Ch):f9:=.tuple [W7 x.k,oF x.c,bz x.t,.list (x.ns.map oR)]
def T6(h:Hr):Q2:=if h.S6<=h.need then(1,1)else(-1,1)
def outF(h:Hr):Q2:=if h.S6<=h.need then(-1,1)else(1,1)
def gL(p:Int):Tr:=⟨(0,1),(0,1),(p,1)⟩
def k2(s:Str)(t:Nat):List Key:=[.inr s,.inl (t:Int)]
def BU:Tr:=⟨(1,1),(0,1),(0,1)⟩
def a0y:Tr:=⟨(0,1),(1,1),(0,1)⟩
noncomputable def bF(t:Nat)(h:Hr):List Ch:=match h.line with
 |none=>[]
 |some (a,b,c,d)=>[⟨k2 "bought" t,gL a,U (b,1),[(t,T6 h)]⟩,⟨k2 "given" t,gL (-c),U (d,1),[(t,outF h)]⟩]
def eO(t:Nat)(h:Hr):List Ch:=[⟨k2 "lacked" t,BU,U (h.need,1),[(t,T6 h)]⟩,⟨k2 "spilt" t,⟨(0,1),(0,1),(0,1)⟩,J,[(t,outF h)]⟩]++bF t h
theorem rq(h:Hr):gE [D2 h]=sd (fr (T6 h)):=by
 delta gE;walk_at "r";simp only[D2];walk_at "r";delta T6;by_cases e:h.S6<=h.need;rw[r9 e,r9 e];rfl;rw[s9 e,s9 e];rfl
theorem ER(h:Hr):gB [D2 h]=sd (fr (outF h)):=by
 delta gB;walk_at "r";rw[rq];delta T6 outF;by_cases e:h.S6<=h.need
 . rw[r9 e,r9 e];kernel_rfl
 . rw[s9 e,s9 e];kernel_rfl
theorem yo(p:Int):sy [.int p]=sd (oF (gL p)):=rfl
theorem dU(h:u7 m r=sd (.int (e:Int))):Y5 (t4 (fC (.str o)) (t4 (u7 m) B1)) r=sd (W7 (k2 o e)):=by
 delta Y5;have:t4 (fC (.str o)) (t4 (u7 m) B1) r=U [.str o,.int e]:=by delta t4;rw[h];rfl
 rw[this];rfl
theorem ZL(t:Nat)(h:Hr):gV [.int (t:Int),D2 h]=U (.own ((eO t h).map Y1)):=by
 have g:=rq h;have f:=ER h;obtain⟨j,i,e⟩:=h;delta gV;cases e with
 |none=>
  walk_at "r";rw[g,f,dU rfl,dU rfl];rfl
 |some l=>
  obtain⟨a,b,c,d⟩:=l;walk_at "r";rw[g,f,dU rfl,dU rfl];simp only[D2,DX]at g f⊢;walk_at "r";rw[dU rfl,yo,g];walk_at "r";rw[tG _ rfl F5];walk_at "r";rw[dU rfl,yo,f];rfl
theorem t6{G2:DO}{ds1:Ds}{r:Option Out}(h:a7 L=U (.next ds1))(b:G2 ds1=r):t8 a7 G2 L=r:=by rw[D4,h,B6,b]
theorem K8{pv:PV}(a:l.length=m)(h:a7 (U8 l++F7 (N-m) J)=U (.ret pv)):J5 m N a7 l=U pv:=by delta J5;rw[r9 a,h];rfl
theorem v7{ds1:Ds}{pv:PV}(h:G r=U pv)(a:r.set m (sd pv.d)=ds1):u6 m G r=U (.next ds1):=by rw[fm,h,<-a];rfl
theorem Z9{gt:f9->Option (List f9)}{items:List f9}(h:c8 r=U items)(b:items.length<=1000000)(c:Q8 gt C5 G r items=U l):D0 c8 gt C5 G r=U (.own l):=by
 delta D0
 simp_all
def O5:Hr:=⟨0,0,J⟩
abbrev A7.hr(h:A7)(i:Nat):Hr:=h.hs.getD i O5
def fP(N t:Nat)(q:Q2):List (Nat×Q2):=(D3 (N-t)).map λi=>(N+t+i,q)
def pf(h:A7)(t:Nat):Int:=if t+1=h.hs.length then h.rest else 0
noncomputable def cH(h:A7)(t:Nat):List Ch:=
 [⟨k2 "filled" t,⟨(0,1),(0,1),(0,1)⟩,U (h.fill,1),(t,outF (h.hs.getD t O5))::fP h.hs.length t (eL (0,1) h.kept)⟩,
  ⟨k2 "taken" t,⟨(0,1),(0,1),(0,1)⟩,U (h.take,1),(t,R5 (T6 (h.hs.getD t O5)) h.left)::fP h.hs.length t (1,1)⟩,
  ⟨k2 "level" t,gL (-pf h t),U (h.size,1),[(h.hs.length+t,(1,1))]⟩]
theorem Ez(l:m<=N)(k:N<=1000)(a:u7 2 r=sd (.int (N:Int)))(d:u7 1 r=sd (.int (m:Int)))(h:∀p:Nat,G (sd (.int (p:Int))::r)=sd (oR (p,q))):
  D0 (F3 jM (t4 (u3 C8 (u7 2) (u7 1)) (t4 (u3 aG (fC (.int 2)) (u7 2)) B1))) C6 C5 G r=U (.own ((fP N m q).map oR)):=by
 have e:F3 jM (t4 (u3 C8 (u7 2) (u7 1)) (t4 (u3 aG (fC (.int 2)) (u7 2)) B1)) r=U (bA ((N+m:Nat)) (N-m)):=by
  have b:Bt 60000 1000:=⟨by lia⟩
  have:aG (.int 2) (.int N)=sd _:=D6 (b.of_le f5) (b.of_le C4);have c:u3 C8 (u7 2) (u7 1) r=sd (.int (N+m)):=by delta u3;rw[a,d];rfl
  have g:u3 aG (fC (.int 2)) (u7 2) r=sd (.int (2*N)):=by
   delta u3 fC
   simp_all
  delta F3 t4;rw[c,g];show jM [.int _,.int _]=_;rw[EA ⟨⟨vT _,by lia⟩,by lia,by lia⟩];rw[show(2*(N:Int)-(N+m)).toNat=N-m by lia];rfl
 refine Z9 e ?_ ?_;rw[qU];lia;rw[tD λi j=>⟨_,h _,rfl⟩];delta fP;rw[fw];rfl
theorem SG(h:A7)(j:F0 20 h.kept)(k:F0 20 h.left)(f:e<h.hs.length)(c:h.hs.length<=1000):fY [A8 h,.int (e:Int)]=U (.own ((cH h e).map Y1)):=by
 refine K8 rfl ?_;refine t6 (v7 (pv:=.dat (.int h.hs.length)) ?_ rfl) ?_;show C7 [.tuple (h.hs.map D2)]=_;delta C7 d1;simp;refine t6 (v7 (pv:=.dat (D2 (h.hs.getD e O5))) ?_ rfl) ?_;show K6 (.tuple (h.hs.map D2)) (.int e)=_;rw[rn,fM rfl (by simp_all),M9,lX,L6 f];rfl;refine t6 (v7 rfl rfl) (t6 (v7 (Ez (q:=eL (0,1) h.kept) eI c rfl rfl λp=>?_) rfl) ?_);show((((cJ [fr (0,1),fr h.kept]).bind λx=>U [x.d]).bind λl=>U (cW p::l)).bind λl=>if l.length<=1000000 then U _ else J)=_;rw[OV (m:=1) ⟨by decide,by rfl,⟨by decide⟩,⟨by decide⟩⟩ j f5];rfl;refine t6 (v7 (Ez (q:=(1,1)) eI c rfl rfl λp=>rfl) rfl) (t6 (v7 (pv:=.dat (.int (pf h e))) ?_ rfl) ?_);show(((X0 (.int e) (.int _)).bind λx=>Xk x.d).bind λb=>if b=Uf then U _ else sd _)=_;rw[yj];delta pf;by_cases t:e+1=h.hs.length;rw[r9 t,cy (show(e:Int)=h.hs.length-1 by lia)];rfl;rw[s9 t,ay (show ¬(e:Int)=h.hs.length-1 by lia)];rfl
 have g:∀q,((fP h.hs.length e q).map oR).length<=1000:=λq=>by rw[F9];delta fP;rw[F9,kF];exact B7 (Gz _ _) u4
 have a:∀d q,C8 (.list [d]) (.list ((fP h.hs.length e q).map oR))=U (.own (d::(fP h.hs.length e q).map oR)):=λd q=>by delta C8;have:=g q;simp only[Y7,kA];rw[r9 t9];rfl
 walk_at "r";rw[dU rfl,dU rfl,dU rfl,ER,rq];walk_at "r";have i:F0 1 (T6 (h.hs.getD e O5)):=by delta T6;split<;>exact⟨by decide,by rfl,⟨by decide⟩,⟨by decide⟩⟩
 rw[show K6 _ _=sd _ from rfl,show K6 _ _=sd _ from rfl,show K6 _ _=sd _ from rfl,show K6 _ _=sd _ from rfl,yo];walk_at "r";rw[yF i k f5];walk_at "r";rw[a,a];rfl
def P6:Wk:=⟨mK,0,0,0,0⟩
abbrev A7.wk(h:A7)(i:Nat):Wk:=h.ws.getD i P6
noncomputable def qb(h:A7)(j t:Nat):Ch:=⟨[.inr "worked",.inl (t:Int),.inl (j:Int)],⟨(0,1),(0,1),(0,1)⟩,U ((h.ws.getD j P6).most,1),[(t,outF (h.hs.getD t O5)),(2*h.hs.length+j,(1,1))]⟩
noncomputable def ff(h:A7)(j:Nat):Ch:=⟨k2 "undone" j,a0y,U ((h.ws.getD j P6).L5,1),[(2*h.hs.length+j,(1,1))]⟩
def Ja(w:Wk):Nat:=(w.last+1-w.first).toNat
def bD(h:A7)(j:Nat):List Ch:=ff h j::(D3 (Ja (h.ws.getD j P6))).map λi=>qb h j ((h.ws.getD j P6).first.toNat+i)
theorem rB(h:A7)(a:m<h.hs.length):K6 (.tuple (h.hs.map D2)) (.int (m:Int))=sd (D2 (h.hs.getD m O5)):=by
 rw[rn,fM rfl (by simp_all),M9,lX,L6 a];rfl
theorem wj(h:A7)(a:m<h.ws.length):K6 (.tuple (h.ws.map P4)) (.int (m:Int))=sd (P4 (h.ws.getD m P6)):=by
 rw[rn,fM rfl (by simp_all),M9,lX,L6 a];rfl
theorem B8{f:f9->f9->Option PV}{Fa Fb:DV}{x y:PV}(b:Fa r=U x)(a:Fb r=U y):u3 f Fa Fb r=f x.d y.d:=by
 delta u3
 simp_all
theorem MM(h:A7){w:Wk}(c:h.ws.getD m P6=w)(j:e<h.hs.length)(b:l.length<1000000)(a:Option PV):
  fz [sd (A8 h),sd (.int (m:Int)),sd (P4 w),sd (.int ((2*h.hs.length+m:Nat):Int)),U (.own l),sd (.int (e:Int)),a] =
   U (.next [sd (A8 h),sd (.int (m:Int)),sd (P4 w),sd (.int ((2*h.hs.length+m:Nat):Int)),U (.own (l++[Y1 (qb h m e)])),sd (.int (e:Int)),sd (.list [oR (e,outF (h.hs.getD e O5)),oR (2*h.hs.length+m,(1,1))])]):=by
 refine t6 (v7 (pv:=.own [oR (e,outF (h.hs.getD e O5)),oR (2*h.hs.length+m,(1,1))]) ?_ rfl) ?_;show(((((((K6 (.tuple _) (.int e)).bind λx=>U [x.d]).bind gB).bind λx=>U [x.d]).bind λl=>U _).bind λl=>if l.length<=1000000 then U (PV.dat (.tuple l))else J).bind λx=>U [x.d,.tuple [.int _,.tuple [.int 1,.int 1]]]).bind _=_;rw[rB h j,A4,A4,show(PV.dat (D2 _)).d=D2 _ from rfl,ER];rfl;rw[oB];refine zS (C2 (λo=>Ct o 4 _) (?_:_=U (PV.dat (Y1 _)))) (tG _ rfl b);delta qb;rw[c];rfl
theorem XB(h:A7)(s:m<h.ws.length)(E:h.hs.length<=1000)(r:0<=(h.ws.getD m P6).first)(D:(h.ws.getD m P6).first<=(h.ws.getD m P6).last)(u:(h.ws.getD m P6).last<(h.hs.length:Int)):gR [A8 h,.int (m:Int)]=U (.own ((bD h m).map Y1)):=by
 have p:Bt 60000 1000:=⟨by lia⟩;have y:aG (.int 2) (.int h.hs.length)=sd (.int (2*h.hs.length)):=D6 (p.of_le f5) (p.of_le C4);have j:=wj h s;generalize d:h.ws.getD m P6=w at j r u D;refine K8 rfl ?_;refine t6 (v7 j rfl) ?_;refine t6 (v7 (pv:=.dat (.int ((2*h.hs.length+m:Nat)))) ?_ rfl) ?_
 . have z:f7 C7 (t4 (u3 K6 (u7 0) (fC (.int 0))) B1) [sd (A8 h),sd (.int m),sd (P4 w),J,J,J,J]=sd (.int h.hs.length):=by
     show C7 [.tuple (h.hs.map D2)]=_;delta C7 d1;simp only[F9]
   have c:=B8 (f:=aG) (Fa:=fC (.int 2)) rfl z;have g:=B8 (f:=C8) (Fb:=u7 1) (c.trans y) rfl;assumption
 refine t6 (ds1:=[sd (A8 h),sd (.int m),sd (P4 w),sd (.int ((2*h.hs.length+m))),U (.own [Y1 (ff h m)]),J,J]) ?_ ?_
 . rw[Ce];have c:N6 (t4 (v9 (t4 (Y5 (t4 (fC (.str "undone")) (t4 (u7 1) B1))) (t4 (fC yq) (t4 (v9 (t4 (u3 K6 (u7 2) (fC (.int 1))) (t4 (fC (.int 1)) B1))) (t4 (N6 (t4 (v9 (t4 (u7 3) (t4 (v9 (t4 (fC (.int 1)) (t4 (fC (.int 1)) B1))) B1))) B1)) B1))))) B1) [sd (A8 h),sd (.int m),sd (P4 w),sd (.int ((2*h.hs.length+m))),J,J,J]=U (.own [Y1 (ff h m)]):=by delta ff;rw[d];rfl
   exact C2 (λo=>Mb o 4 _) c
 have A:∃b a,G0 (F3 jM (t4 (u3 K6 (u7 2) (fC (.int 2))) (t4 (u3 C8 (u3 K6 (u7 2) (fC (.int 3))) (fC (.int 1))) B1))) (D7 5) fz [sd (A8 h),sd (.int m),sd (P4 w),sd (.int ((2*h.hs.length+m:Nat))),U (.own [Y1 (ff h m)]),J,J]
   = U (.next [sd (A8 h),sd (.int m),sd (P4 w),sd (.int ((2*h.hs.length+m:Nat))),U (.own ((bD h m).map Y1)),b,a]):=by
  have g:F3 jM (t4 (u3 K6 (u7 2) (fC (.int 2))) (t4 (u3 C8 (u3 K6 (u7 2) (fC (.int 3))) (fC (.int 1))) B1)) [sd (A8 h),sd (.int m),sd (P4 w),sd (.int ((2*h.hs.length+m:Nat))),U (.own [Y1 (ff h m)]),J,J]=U (bA w.first (Ja w)):=by
   show jM [.int w.first,.int _]=_;rw[EA ⟨⟨by lia,by lia⟩,by lia,by lia⟩];rfl
  delta G0;rw[g,A4];obtain⟨t,B,b,a,x⟩:=aI (gt:=D7 5) (n:=Ja w) (ds:=[sd _,sd _,sd _,sd _,U (.own [Y1 _]),J,J])
   (λi k=>∃b a,k=[sd _,sd _,sd _,sd _,U (.own ((ff h m::(D3 i).map λi=>qb h m (w.first.toNat+i)).map Y1)),b,a])
   ⟨J,J,rfl⟩ (by
    rintro i k v ⟨b,a,e⟩;subst e;have:i<(w.last+1-w.first).toNat:=v;have C:w.first.toNat+i<h.hs.length:=by lia
    have q:=MM h d C (l:=(ff h m::(D3 i).map λi=>qb h m (w.first.toNat+i)).map Y1) (by simp;lia) a;rw[show((w.first.toNat+i:Nat))=w.first+i by lia]at q
    exact⟨_,_,rfl,.inl q,_,_,by rw[bL,W4];simp only[E8,W4];rfl⟩)
  refine⟨b,a,?_⟩;rw[B,x];delta bD;rw[d]
 obtain⟨b,a,e⟩:=A;exact t6 e rfl
def Z4(h:A7)(t:Nat):List Ch:=eO t (h.hs.getD t O5)++cH h t
def B5(h:A7):List Ch:=(D3 h.hs.length).flatMap (Z4 h)++(D3 h.ws.length).flatMap (bD h)
theorem zo(t:Nat)(h:Hr):(eO t h).length<=4:=by
 delta eO bF;cases h.line with
 |none=>simp
 |some l=>simp
theorem zD{m:List f9}(h:G r=U (.own m))(a:r[e]?=U (U (.own l)))(b:l.length+m.length<=1000000)(i:r.set e (U (.own (l++m)))=L):sT e G r=U (.next L):=by delta sT;rw[h,A4,a,<-i];exact r9 b
theorem E4{Fa Fb:DV}{ds:Ds}{x y:PV}(b:Fa ds=U x)(a:Fb ds=U y)(e:a8 [x.d,y.d]=K):f7 a8 (t4 Fa (t4 Fb B1)) ds=K:=by
 delta f7 t4
 rwa [b,A4,a,A4]
structure kI(h:A7):Prop where
 k:F0 20 h.kept
 l:F0 20 h.left
 n:h.hs.length<=1000
 w:h.ws.length<=100
 f:∀j,j<h.ws.length->0<=(h.ws.getD j P6).first/\(h.ws.getD j P6).first<=(h.ws.getD j P6).last/\(h.ws.getD j P6).last<(h.hs.length:Int)
theorem VI(h:A7)(H:kI h)(a:m<h.hs.length){l:List Ch}(b:l.length<=900000):
  gY [sd (A8 h),U (.own (l.map Y1)),sd (.int (m:Int)),sd (D2 (h.hs.getD m O5))]=U (.next [sd (A8 h),U (.own ((l++Z4 h m).map Y1)),sd (.int (m:Int)),sd (D2 (h.hs.getD m O5))]):=by
 have:=zo m (h.hs.getD m O5);refine t6 (zD (E4 rfl rfl (ZL m _)) rfl (by rw[F9,F9];lia) rfl) (zD (E4 rfl rfl (SG h H.k H.l a H.n)) rfl ?_ ?_);rw[T7,F9,F9,F9];show _+3<=_;lia;delta Z4;simp only[W4,AB];rfl
theorem VH(h:A7)(H:kI h)(b:m<h.ws.length){l:List Ch}(g:l.length<=900000)(a:Option PV):
  gX [sd (A8 h),U (.own (l.map Y1)),sd (.int (m:Int)),a]=U (.next [sd (A8 h),U (.own ((l++bD h m).map Y1)),sd (.int (m:Int)),a]):=by
 obtain⟨d,e,c⟩:=H.f m b;have:=H.n;refine zD (E4 rfl rfl (XB h b H.n d e c)) rfl ?_ ?_;rw[F9,F9];delta bD Ja;rw[Y7,F9,kF];lia;simp
theorem Bx(h:A7):∀i,((D3 i).flatMap (Z4 h)).length<=7*i:=by
 intro l_;induction l_ with
 |zero=>
  exact H9
 |succ i ih_=>
  have:=zo i (h.hs.getD i O5);rw[bL,mX,T7];have:(List.flatMap (Z4 h) [i]).length=(eO i (h.hs.getD i O5)).length+3:=by rw[vP,vM,af];delta Z4;rw[T7];rfl
  lia
theorem MN(h:A7)(H:kI h)(a:h.hs.length<m):∀i,i<=h.ws.length->((D3 i).flatMap (bD h)).length<=m*i:=by
 intro l_;induction l_ with
 |zero=>
  exact λ_=>H9
 |succ i ih_=>
  intro hi;have:=ih_ eI;obtain⟨d,e,b⟩:=H.f i u4;rw[bL,mX,T7,Nat.mul_succ];have:(List.flatMap (bD h) [i]).length<=m:=by
   rw[vP,vM,af];delta bD Ja;rw[Y7,F9,kF];lia
  exact Ao u4 u4
theorem Mx(h:A7)(H:kI h):kP [A8 h]=U (.own ((B5 h).map Y1)):=by
 have:=H.n;have:=H.w;refine K8 rfl ?_;refine t6 rfl ?_;have u:∃b a,G0 (F3 cQ (t4 (u3 K6 (u7 0) (fC (.int 0))) B1)) (du 2 (M1 2 (M1 3 dA))) gY [sd (A8 h),U (.own []),J,J]
   = U (.next [sd (A8 h),U (.own (((D3 h.hs.length).flatMap (Z4 h)).map Y1)),b,a]):=by
  delta G0;rw[show F3 cQ (t4 (u3 K6 (u7 0) (fC (.int 0))) B1) [sd (A8 h),U (.own []),J,J]=U (aK 0 (h.hs.map D2))from rfl,A4]
  obtain⟨q,r,b,a,o⟩:=dG (gt:=du 2 (M1 2 (M1 3 dA))) (ds:=[sd (A8 h),U (.own []),J,J])
   (λi f=>∃b a,f=[sd (A8 h),U (.own (((D3 i).flatMap (Z4 h)).map Y1)),b,a]) ⟨J,J,rfl⟩ (by
    rintro i d f m ⟨b,a,e⟩;subst e;rw[tf,M9]at m;have k:i<h.hs.length:=by
     rcases GJ i h.hs.length with z|z
     exact z;rw[oa z]at m;cases m
    rw[L6 k]at m;have t:h.hs.getD i O5=h.hs[i]:=by simp_all
    have j:=VI h H k (l:=(D3 i).flatMap (Z4 h)) (by have:=Bx h i;lia);rw[t]at j;cases m;rw[show(i:Int)=0+i from(O8 _).symm]at j
    refine⟨_,_,rfl,.inl j,sd (.int (0+i)),sd (D2 h.hs[i]),?_⟩;rw[bL,mX,vP,vM,af])
  rw[yk,F9]at o;exact⟨b,a,by rw[r,o]⟩
 obtain⟨b,a,v⟩:=u;refine t6 v ?_;have s:∃g,G0 (F3 G9 (t4 (f7 C7 (t4 (u3 K6 (u7 0) (fC (.int 2))) B1)) B1)) (D7 2) gX [sd (A8 h),U (.own (((D3 h.hs.length).flatMap (Z4 h)).map Y1)),b,a]
   = U (.next [sd (A8 h),U (.own ((B5 h).map Y1)),g,a]):=by
  have p:F3 G9 (t4 (f7 C7 (t4 (u3 K6 (u7 0) (fC (.int 2))) B1)) B1) [sd (A8 h),U (.own (((D3 h.hs.length).flatMap (Z4 h)).map Y1)),b,a]=U (bA 0 h.ws.length):=by
   show G9 [.int _]=_;rw[F9,T8 t9];rfl
  delta G0;rw[p,A4];obtain⟨q,r,g,o⟩:=aI (gt:=D7 2) (ds:=[sd (A8 h),U (.own (((D3 h.hs.length).flatMap (Z4 h)).map Y1)),b,a])
   (λi f=>∃g,f=[sd (A8 h),U (.own (((D3 h.hs.length).flatMap (Z4 h)++(D3 i).flatMap (bD h)).map Y1)),g,a]) ⟨b,by simp⟩ (by
    rintro i f k ⟨g,e⟩;subst e;have:=Bx h h.hs.length;have:=MN h H (Ay u4) i eI;have j:=VH h H k (l:=(D3 h.hs.length).flatMap (Z4 h)++(D3 i).flatMap (bD h)) (by rw[T7];lia) a;rw[show(i:Int)=0+i from(O8 _).symm]at j
    refine⟨_,_,rfl,.inl j,sd (.int (0+i)),?_⟩;rw[bL,mX,vP,vM,af,AB])
  exact⟨g,by rw[r,o];rfl⟩
 obtain⟨g,p⟩:=s;exact t6 p rfl
def lS(x:Hr):Q2:=(if x.need-x.S6<0 then -(x.need-x.S6)else x.need-x.S6,1)
def M5(h:A7):List Q2:=h.hs.map lS++F7 h.hs.length (h.start,1)++h.ws.map λw=>(w.L5,1)
theorem EB(n:Nat)(x:f9):(F7 n [x]).flatten=F7 n x:=by simp
theorem Q1(h:G r=U z):C9 G r=U (.ret z):=by delta C9;rw[h];rfl
theorem NG(h:A7)(H:kI h):lY [A8 h]=U (.own ((M5 h).map fr)):=by
 have:=H.n;have:=H.w;refine K8 rfl ?_;refine t6 (v7 (Z9 rfl (by rw[F9];exact B7 u4 f5) (comp_map λx _=>⟨_,rfl,rfl⟩)) rfl) ?_
 have b:f7 C7 (t4 (u3 K6 (u7 0) (fC (.int 0))) B1) [sd (A8 h),sd (.list (h.hs.map λx=>fr (lS x))),J]=sd (.int h.hs.length):=by
  show C7 [.tuple _]=_;delta C7 d1;simp
 refine t6 (v7 (pv:=.own (F7 h.hs.length (fr (h.start,1)))) ((B8 rfl b).trans ?_) rfl) ?_;show fR (.list [fr (h.start,1)]) (.int h.hs.length)=_;delta fR;simp only[Y7,kA,cA];rw[r9 ⟨⟨by simp[*],B7 u4 f5⟩,by lia⟩,EB]
 . have c:D0 (N2 (u3 K6 (u7 0) (fC (.int 2)))) C6 C5 nB [sd (A8 h),sd (.list (h.hs.map λx=>fr (lS x))),sd (.list (F7 h.hs.length (fr (h.start,1))))]=U _:=
     Z9 rfl (by rw[F9];exact nI) (comp_map λx _=>⟨_,rfl,rfl⟩)
   have a:u3 C8 (u7 1) (u7 2) [sd (A8 h),sd (.list (h.hs.map λx=>fr (lS x))),sd (.list (F7 h.hs.length (fr (h.start,1))))]=U (.own ((h.hs.map λx=>fr (lS x))++F7 h.hs.length (fr (h.start,1)))):=by refine(B8 rfl rfl).trans ?_;exact r9 (by rw[F9,sr];lia)
   refine Q1 ((B8 a c).trans ?_);refine(r9 (by rw[T7,F9,F9,sr];lia)).trans ?_;delta M5;simp only[W4,fw,QT];rfl
theorem Kg(p q:Q2):X0 (fr p) (fr q)=sd (.bool (decide (p=q))):=by
 have:(if aR (fr p)=Uf/\aR (fr q)=Uf then U _ else J)=U _:=(BJ p q);show(if aR (fr p)=Uf/\aR (fr q)=Uf then U _ else J)=_
 simp_all
def qG(x:Hr):Str:=if x.S6<=x.need then "lacked" else "spilt"
def az(h:A7):List (List Key):=((D3 h.hs.length).map λt=>k2 (qG (h.hs.getD t O5)) t)++((D3 h.hs.length).map λt=>k2 "level" t)++(D3 h.ws.length).map λj=>k2 "undone" j
theorem ri(g:d2->f9)(a:d2)(l:List d2):l.map g=rl l.length λi=>g (l.getD i a):=by
 refine sf (by simp[rl]) λi d e=>?_
 have c:i<l.length:=by simpa using d
 simp[L6 c]
theorem zP(a:G r=U z)(b:H r=U R):t4 G (t4 H B1) r=U [z.d,R.d]:=by delta t4;rw[a,A4,b,A4];rfl
theorem a2T(h:A7)(t:Nat)(x:Hr)(ds:Ds):kR (sd (.int ((t:Nat):Int))::sd (D2 x)::ds)=sd (W7 (k2 (qG x) t)):=by
 have b:jD (A9 (u3 X0 (f7 gE (t4 (u7 1) B1)) (v9 (t4 (fC (.int 1)) (t4 (fC (.int 1)) B1))))) (fC (.str "lacked")) (fC (.str "spilt")) (sd (.int t)::sd (D2 x)::ds)=sd (.str (qG x)):=by
  have a:u3 X0 (f7 gE (t4 (u7 1) B1)) (v9 (t4 (fC _) (t4 (fC _) B1))) (sd (.int t)::sd (D2 x)::ds)=sd _:=
   (B8 (x:=.dat (fr _)) (y:=.dat (fr (1,1))) (rq x) rfl).trans (Kg _ _)
  delta jD A9;rw[a];delta qG T6;by_cases e:x.S6<=x.need;rw[r9 e,r9 e];rfl;rw[s9 e,s9 e];rfl
 refine(C2 (λo=>Ab o _) (zP b rfl)).trans ?_;rfl
theorem UM(h:A7)(H:kI h):fI [A8 h]=U (.own ((az h).map W7)):=by
 have:=H.n;have:=H.w;refine K8 rfl ?_;refine t6 (v7 (Z9 (items:=rl h.hs.length λt=>.tuple [.int (0+t),D2 (h.hs.getD t O5)]) ?_ (by rw[E5];exact B7 u4 f5) (M6 λt b=>⟨[.int (0+t),D2 (h.hs.getD t O5)],.dat (W7 (k2 (qG (h.hs.getD t O5)) t)),rfl,?_,rfl⟩)) rfl) ?_;show U (aK 0 (h.hs.map D2))=_;rw[ri D2 O5,xa];rw[show(0:Int)+t=t from O8 _];exact a2T h t _ _
 have d:∀a,F3 G9 (t4 (f7 C7 (t4 (u3 K6 (u7 0) (fC (.int 0))) B1)) B1) (sd (A8 h)::a)=U (bA 0 h.hs.length):=λa=>by
  show G9 [.int (((h.hs.map D2).length))]=_;rw[F9,T8 t9];rfl
 have f:∀a,F3 G9 (t4 (f7 C7 (t4 (u3 K6 (u7 0) (fC (.int 2))) B1)) B1) (sd (A8 h)::a)=U (bA 0 h.ws.length):=λa=>by
  show G9 [.int _]=_;rw[F9,T8 t9];rfl
 refine t6 (v7 (Z9 (d _) (by rw[qU];exact B7 u4 f5) (tD λt b=>⟨.dat (W7 (k2 "level" t)),?_,rfl⟩)) rfl) ?_;exact dU (by rw[show(0:Int)+t=t from O8 _];rfl)
 have e:D0 _ C6 C5 kQ [sd _,sd (.list (rl h.hs.length λt=>W7 (k2 (qG (h.hs.getD t O5)) t))),sd (.list (rl h.hs.length λt=>W7 (k2 "level" t)))]=U _:=
  Z9 (f _) (by rw[qU];exact nI) (tD λt b=>⟨.dat (W7 _),dU (by rw[show(0:Int)+t=t from O8 _];rfl),rfl⟩)
 have c:u3 C8 (u7 1) (u7 2) [sd (A8 h),sd (.list (rl h.hs.length λt=>W7 (k2 (qG (h.hs.getD t O5)) t))),sd (.list (rl h.hs.length λt=>W7 (k2 "level" t)))]=U (.own ((rl h.hs.length λt=>W7 (k2 (qG (h.hs.getD t O5)) t))++rl h.hs.length λt=>W7 (k2 "level" t))):=by refine(B8 rfl rfl).trans ?_;exact r9 (by rw[E5,E5];lia)
 refine Q1 ((B8 c e).trans ((r9 (by rw[T7,E5,E5,E5];lia)).trans ?_));delta az;simp only[W4,fw];rfl
theorem Vo(x y:Key):aw (jR x) (jR y)=decide (x=y):=by rw[rZ,decide_eq_true_iff];cases x<;>cases y<;>simp[jR,aw]
theorem Gb:∀a b:List Key,vJ (a.map jR) (b.map jR)=decide (a=b)
 | [],[]=>by rfl
 | [],_::_=>by rfl
 |_::_,[]=>by rfl
 |x::a,y::b=>by rw[E8,E8,vJ,Vo,Gb a b];simp
def RU(k:List Key):Prop:=∀s:Str,(iE s:Key)∈k->GG s=Uf
theorem FF:∀a:List Key,RU a->gP (a.map jR)=Uf:=by
 intro l_;induction l_ with
 |nil=>
  intro _;rfl
 |cons x a ih_=>
  intro h;rw[E8,gP,ih_ λs b=>h s (E7 _ b)]
  cases x with
  |inl i=>rfl
  |inr s=>simp[jR,ke,h s F2]
theorem UU:∀ks:List (List Key),(∀k∈ks,RU k)->gP ((ks.map W7).map un)=Uf:=by
 intro l_;induction l_ with
 |nil=>
  intro _;rfl
 |cons k ks ih_=>
  intro h;rw[E8,E8,gP,ih_ λa b=>h a (E7 _ b)];show(ke (.tuple _)&&Uf)=Uf;rw[ke,FF k (h k F2)];rfl
theorem Vu:∀a:List Key,Ha (a.map jR)<=1:=by
 intro l_;induction l_ with
 |nil=>
  simp[Ha]
 |cons x a ih_=>
  rw[E8,Ha];cases x<;>simp[jR,PyData.depth]<;>omega
theorem PK(k:List Key):∀ks:List (List Key),(((ks.map W7).map un).findIdx? λe=>aw e (un (W7 k)))=ks.findIdx? λa=>decide (a=k):=by
 intro l_;induction l_ with
 |nil=>
  exact rfl
 |cons a ks ih_=>
  rw[E8,E8,QQ,QQ,ih_];have:aw (un (W7 a)) (un (W7 k))=decide (a=k):=by
   show aw (.tuple _) (.tuple _)=_;rw[aw,Gb]
  rw[this]
theorem Pq{ks:List (List Key)}(b:∀a∈ks,RU a)(l:ks.length<=1000000)(c:ks[m]?=U b4)(k:ks.Nodup):lB (.list (ks.map W7)) [W7 b4]=sd (.int (m:Int)):=by
 show BY (.list _) [un _]=_
 delta BY;have g:(un (W7 b4)).canLay0=Uf:=by
  show ke (.tuple _)=Uf;rw[ke,FF b4 (b b4 (qt c))]
 have f:(un (W7 b4)).depth<=10:=by have:=Vu b4;exact mV u4 f5
 simp only;rw[r9 ⟨UU ks b,g,f,by rw[F9,F9];exact l⟩,PK]
 have:(ks.findIdx? λa=>decide (a=b4))=U m:=by
  obtain⟨h,d⟩:=List.getElem?_eq_some_iff.mp c;rw[List.findIdx?_eq_some_iff_getElem];refine⟨h,cy d,λi n=>?_⟩;simp only[pT];intro e;have:=(QJ k).mp (e.trans d.symm);lia
 rw[this];rfl
theorem mr{s':Str}(h:k2 o m=k2 s' e):o=s'/\m=e:=by
 injection h with h1 h2
 injection h1 with h1
 injection h2 with h2 _
 injection h2 with h2
 exact⟨h1,by lia⟩
theorem a4l{s':Str}(t t':Nat)(h:o≠s'):k2 o t≠k2 s' t':=λe=>h (mr e).1
theorem ZK(h:A7)(t:Nat):(Z4 h t).Pairwise λa b=>a.k≠b.k:=by
 have e:∀l:List Ch,(l.map (·.k)).Nodup->l.Pairwise λa b=>a.k≠b.k:=λl f=>List.pairwise_map.mp f;have p:∀c:List Str,c.Nodup->(c.map λs=>k2 s t).Nodup:=λc d=>List.pairwise_map.mpr (d.imp λz=>a4l t t z)
 refine e _ ?_;delta Z4 eO bF cH;cases(h.hs.getD t O5).line with
 |none=>exact p ["lacked","spilt","filled","taken","level"] M8
 |some l=>exact p ["lacked","spilt","bought","given","filled","taken","level"] M8
theorem rA(h:A7)(t:Nat)(a:b5∈Z4 h t):∃s:Str,s∈(["lacked","spilt","bought","given","filled","taken","level"]:List Str)/\b5.k=k2 s t:=by
 unfold Z4 eO bF cH at a;cases hl:(h.hs.getD t O5).line with
 |none=>
  rw[hl]at a;simp only[cz,cZ,bu,kh,or_false]at a;rcases a with rfl|rfl|rfl|rfl|rfl<;>exact⟨_,by simp,rfl⟩
 |some l=>
  rw[hl]at a;simp only[cz,cZ,bu,kh,or_false]at a;rcases a with rfl|rfl|rfl|rfl|rfl|rfl|rfl<;>exact⟨_,by simp,rfl⟩
theorem ur(h:A7)(j:Nat)(a:b5∈bD h j):b5.k=k2 "undone" j\/∃i,b5.k=[.inr "worked",.inl (((h.ws.getD j P6).first.toNat+i:Nat):Int),.inl (j:Int)]:=by
 rcases List.mem_cons.mp a with rfl|a
 exact .inl rfl;obtain⟨i,_,rfl⟩:=mem_map.mp a;exact .inr ⟨i,rfl⟩
theorem XC(h:A7)(j:Nat):(bD h j).Pairwise λa b=>a.k≠b.k:=by
 refine List.Pairwise.cons (λx c=>?_) ?_;obtain⟨i,_,rfl⟩:=mem_map.mp c;intro e;have:=C2 kx e;simp[ff,qb,k2]at this;refine List.pairwise_map.mpr ((Ho).imp λ{a b} ne e=>?_);simp only[qb]at e;exact ne t9
theorem ql(h:A7):((B5 h).map (·.k)).Nodup:=by
 refine List.pairwise_map.mpr (List.pairwise_append.mpr ⟨?_,?_,?_⟩);refine List.pairwise_flatMap.mpr ⟨λt _=>ZK h t,(Ho).imp λ{a b} ne x c y d e=>?_⟩;obtain⟨s,_,g⟩:=rA h a c;obtain⟨m,_,f⟩:=rA h b d;rw[g,f]at e;exact ne (mr e).2
 . refine List.pairwise_flatMap.mpr ⟨λt _=>XC h t,(Ho).imp λ{a b} ne x c y d e=>?_⟩
   rcases ur h a c with g|⟨i,g⟩<;>rcases ur h b d with f|⟨n,f⟩<;>rw[g,f]at e
   exact ne (mr e).2;have:=C2 kx e;simp[k2]at this;have:=C2 kx e;simp[k2]at this;simp only[Qv]at e;exact ne t9
 . intro x c y d e;obtain⟨t,_,c⟩:=mem_flatMap.mp c;obtain⟨j,_,d⟩:=mem_flatMap.mp d;obtain⟨s,l,g⟩:=rA h t c;rcases ur h j d with f|⟨i,f⟩<;>rw[g,f]at e
   rw[(mr e).1]at l;exact absurd l M8;have:=C2 kx e;simp[k2]at this
theorem Pf(t:Nat)(h:GG o=Uf):RU (k2 o t):=λz a=>by
 unfold k2 at a
 simp_all
theorem ZD(h:A7):∀k∈(B5 h).map (·.k),RU k:=by
 intro k d;obtain⟨x,a,rfl⟩:=mem_map.mp d;rcases List.mem_append.mp a with a|a
 . obtain⟨t,_,a⟩:=mem_flatMap.mp a;obtain⟨s,c,e⟩:=rA h t a;rw[e];have:∀s∈(["lacked","spilt","bought","given","filled","taken","level"]:List Str),GG s=Uf:=by decide +kernel
   exact Pf t (this s c)
 . obtain⟨j,_,a⟩:=mem_flatMap.mp a;rcases ur h j a with e|⟨i,e⟩
   rw[e];exact Pf j M8;rw[e];intro z b;simp only[bu,kh,or_false,Sum.inr.injEq,reduceCtorEq]at b;rw[b];decide +kernel
def jd(m n:Nat)(M:Nat->Nat->f9):PV:=.ob J (.seq Uf (oU ((D3 m).map λp=>PF.own (rl n (M p)))))
def uw(M:Nat->Nat->f9)(p j:Nat)(d:f9):Nat->Nat->f9:=λa b=>if a=p/\b=j then d else M a b
theorem a1a(f:Nat->f9)(d:f9):(rl m f).set e d=rl m λb=>if b=e then d else f b:=by
 refine sf (by simp[rl]) λi a c=>?_;simp only[Hq,se,HC];by_cases n:e=i;rw[r9 n,r9 n.symm];rw[s9 n,s9 λz=>n z.symm]
theorem SM{j:Nat}{M:Nat->Nat->f9}{Fv:DV}{ds:Ds}(c:ds[2]?=U (U (jd m e M)))(f:N<m)(h:j<e)(l:G ds=sd (.int (N:Int)))(g:H ds=sd (.int (j:Int)))(o:Fv ds=U z):
  wW 2 G H Fv ds=U (.next (ds.set 2 (U (jd m e (uw M N j z.d))))):=by
 have k:Bz 2 N ds=U (J,oU ((D3 m).map λN=>PF.own (rl e (M N))),mK,N,rl e (M N)):=by
  delta Bz;rw[c];simp only[jd];rw[fL (by simp[oU];exact f),A4];simp[oU,f]
 delta wW;rw[o,l,g];show((Bz 2 N ds).bind λx=>(gh x.2.2.2.2.length j).bind λj=>U _)=_
 rw[k,A4];rw[E5,fL h,A4,a1a];have n:(oU ((D3 m).map λN=>PF.own (rl e (M N)))).set N (mK,PF.own (rl e λb=>if b=j then z.d else M N b))=oU ((D3 m).map λa=>PF.own (rl e (uw M N j z.d a))):=by
  delta oU;refine sf F5 λi q c=>?_;simp only[Hq,se,HC];by_cases p:N=i;subst p;delta uw;simp;rw[s9 p];delta uw;have:∀b,(if i=N/\b=j then z.d else M i b)=M i b:=λb=>s9 λy=>p y.1.symm;simp only[this]
 rw[n];rfl
def foldM(j:Nat)(ns:List (Nat×Q2))(M:Nat->Nat->f9):Nat->Nat->f9:=ns.foldl (λM e=>uw M e.1 j (fr e.2)) M
theorem Yi(f:N<e){d1 d4:Option PV}:∀(ns:List (Nat×Q2)) (M:Nat->Nat->f9) (a b:Option PV),(∀n∈ns,n.1<m) ->
  ∃c d,V6 (du 2 (M1 5 (M1 6 dA))) ma (ns.map oR) [K,d1,U (jd m e M),sd (.int (N:Int)),d4,a,b]=U (.next [K,d1,U (jd m e (foldM N ns M)),sd (.int (N:Int)),d4,c,d]):=by
 intro l_;induction l_ with
 |nil=>
  exact λM a b _=>⟨a,b,rfl⟩
 |cons n ns ih_=>
  intro M a b h;obtain⟨c,d,k⟩:=ih_ _ (sd _) (sd _) λx g=>h x (E7 _ g)
  refine⟨c,d,?_⟩;have i:ma [K,d1,U _,sd _,d4,sd _,sd _]=U (.next [K,d1,U (jd m e (uw M n.1 N (fr n.2))),sd _,d4,sd _,sd _]):=
   SM (Fv:=u7 6) (ds:=[K,d1,U _,sd _,d4,sd _,sd _]) rfl (h n F2) f rfl rfl rfl
  rw[E8,O6 rfl i,k];rfl
def zI:Ch:=⟨[],⟨(0,1),(0,1),(0,1)⟩,J,[]⟩
def allM(C:List Ch):Nat->Nat->Nat->f9
 | 0=>λ_ _=>fr (0,1)
 |j+1=>foldM j (C.getD j zI).ns (allM C j)
theorem Yj(N:m<=100000)(K:d8.length<=100000)(v:∀x∈d8,∀e∈x.ns,e.1<m):qx [.list (d8.map Y1),.int (m:Int)]=U (jd m d8.length (allM d8 d8.length)):=by
 refine K8 rfl ?_;refine t6 (ds1:=[sd (.list (d8.map Y1)),sd (.int m),U (jd m d8.length (allM d8 0)),J,J,J,J]) ?_ ?_
 . have w:rH (F3 G9 (t4 (u7 1) B1)) C6 dJ [sd (.list (d8.map Y1)),sd (.int m),J,J,J,J,J]=U (jd m d8.length (allM d8 0)):=by
     have I:∀d:f9,dJ (sd d::[sd (.list (d8.map Y1)),sd (.int m),J,J,J,J,J])=U (.own (rl d8.length λ_=>fr (0,1))):=λd=>by
      have r:f7 C7 (t4 (u7 1) B1) (sd d::[sd (.list (d8.map Y1)),sd (.int m),J,J,J,J,J])=sd (.int d8.length):=by
       show C7 [.list (d8.map Y1)]=_;delta C7 d1;simp
      refine(B8 rfl r).trans ?_;show fR (.list [fr (0,1)]) (.int d8.length)=_;delta fR;simp only[Y7,kA];rw[r9 ⟨⟨by simp[*],by simp[*]⟩,by simp[*]⟩,EB]
      congr 2
      refine sf (by simp[rl]) λi L M=>?_;simp[rl]
     have B:∀l:List Nat,zG C6 dJ [sd (.list (d8.map Y1)),sd (.int m),J,J,J,J,J] (l.map λk=>.int (0+(k:Nat)))=U (l.map λ_=>PF.own (rl d8.length λ_=>fr (0,1))):=λl=>by
      induction l with
      |nil=>rfl
      |cons a l E=>
       show((dJ (sd (.int (0+a))::[sd (.list (d8.map Y1)),sd (.int m),J,J,J,J,J])).bind λy=>(iS y).bind λp=>(zG C6 dJ _ (l.map λk=>.int (0+(k:Nat)))).bind λl=>U (p::l))=_;rw[I,E];rfl
     delta rH;rw[show F3 G9 (t4 (u7 1) B1) [sd (.list (d8.map Y1)),sd (.int m),J,J,J,J,J]=U (bA 0 m) by
      show G9 [.int m]=_
      rw[T8 t9];rfl,A4,r9 (by rw[qU];exact B7 u4 f5)]
     rw[show bA 0 m=(D3 m).map λk=>cW (0+(k:Nat))from rfl,B];rfl
   exact C2 (λo=>Mb o 2 _) w
 have F:∃f g b c,G0 (F3 cQ (t4 (u7 0) B1)) (du 2 (M1 3 (M1 4 dA))) lZ [sd (.list (d8.map Y1)),sd (.int m),U (jd m d8.length (allM d8 0)),J,J,J,J]
   = U (.next [sd (.list (d8.map Y1)),sd (.int m),U (jd m d8.length (allM d8 d8.length)),f,g,b,c]):=by
  delta G0;rw[show F3 cQ _ [sd _,sd _,U _,J,J,J,J]=U _ from rfl,A4]
  obtain⟨u,D,f,g,b,c,t⟩:=dG (gt:=du 2 (M1 3 (M1 4 dA))) (G:=lZ) (items:=aK 0 (d8.map Y1))
   (λi s=>∃f g b c,s=[sd (.list (d8.map Y1)),sd (.int m),U (jd m d8.length (allM d8 i)),f,g,b,c]) ⟨J,J,J,J,rfl⟩ (by
    rintro i d s h ⟨f,g,b,c,e⟩;subst e;rw[tf,M9]at h;have j:i<d8.length:=by
     rcases GJ i d8.length with z|z
     exact z;rw[oa z]at h;exact nE h
    rw[L6 j]at h;have q:d8.getD i zI=d8[i]:=by rw[lX,L6 j];rfl
    obtain⟨A,H,n⟩:=Yi j d8[i].ns _ b c (v d8[i] (sh j));rw[<-q]at n;rw[show(i:Int)=0+i from(O8 _).symm]at n;rw[q]at n;cases h;refine⟨_,_,rfl,.inl n,sd (.int (0+i)),sd (Y1 d8[i]),A,H,?_⟩;show _=[_,_,U (jd m d8.length (foldM i (d8.getD i zI).ns _)),_,_,_,_]
    rw[q])
  rw[yk,F9]at t;exact⟨f,g,b,c,by rw[D,t]⟩
 obtain⟨f,g,b,c,r⟩:=F;exact t6 r rfl
def EX(ns:List (Nat×Q2))(o:f9)(a:Nat):f9:=ns.foldl (λo e=>if a=e.1 then fr e.2 else o) o
theorem Vj(j:Nat):∀(ns:List (Nat×Q2)) (M:Nat->Nat->f9) (a b:Nat),foldM j ns M a b=if b=j then EX ns (M a b) a else M a b:=by
 intro l_;induction l_ with
 |nil=>
  intro M a b;split<;>rfl
 |cons e ns ih_=>
  intro M a b;show foldM j ns (uw M e.1 j _) a b=if b=j then EX ns (if a=e.1 then fr e.2 else M a b) a else M a b;rw[ih_];delta uw;by_cases h:b=j;rw[r9 h,r9 h];by_cases c:a=e.1;rw[r9 ⟨c,h⟩,r9 c];rw[s9 (λz=>c z.1),s9 c];rw[s9 h,s9 h,s9 (λz=>h z.2)]
theorem a0b(C:List Ch):∀(n a j:Nat),allM C n a j=if j<n then EX (C.getD j zI).ns (fr (0,1)) a else fr (0,1):=by
 intro l_;induction l_ with
 |zero=>
  intro a j;rfl
 |succ n ih_=>
  intro a j;show foldM n (C.getD n zI).ns _ a j=_;rw[Vj,ih_ a j];by_cases h:j=n;subst h;rw[r9 rfl,s9 (bw _),r9 (pR _)];rw[s9 h];by_cases b:j<n;rw[r9 b,r9 fF];rw[s9 b,s9 t9]
def ls(f:Ch->Rat):List Ch->Rat
 | []=>0
 |x::l=>f x+ls f l
theorem jQ(f:Ch->Rat):∀a b,ls f (a++b)=ls f a+ls f b:=by
 intro l_;induction l_ with
 |nil=>
  intro b;show ls f b=0+ls f b;grind
 |cons x a ih_=>
  intro b;show f x+ls f (a++b)=f x+ls f a+ls f b;rw[ih_ b];rw[mO]
theorem a2s(f:Ch->Rat)(C:List Ch):∀n,n<=C.length->v5 (λj=>f (C.getD j zI)) n=ls f (C.take n):=by
 intro l_;induction l_ with
 |zero=>
  intro _;rfl
 |succ n ih_=>
  intro h;show v5 _ n+f _=_;rw[ih_ eI,List.take_add_one,jQ,lX,L6 u4];show _=_+(f (C[n])+0);grind
theorem oz(f:Ch->Rat)(g:Nat->List Ch):∀n,ls f ((D3 n).flatMap g)=v5 (λt=>ls f (g t)) n:=by
 intro l_;induction l_ with
 |zero=>
  exact rfl
 |succ n ih_=>
  rw[bL,mX,jQ,ih_];show _+ls f (g n++[])=_;rw[af];rfl
theorem Fn(f:Ch->Rat)(g:Nat->Ch):∀n,ls f ((D3 n).map g)=v5 (λi=>f (g i)) n:=by
 intro l_;induction l_ with
 |zero=>
  exact rfl
 |succ n ih_=>
  rw[bL,W4,jQ,ih_];show _+(f (g n)+0)=_+f (g n);rw[vD]
theorem wu{g:Nat->Rat}(a b:Nat):∀n,v5 (λi=>if a=b+i then g i else 0) n=if b<=a/\a<b+n then g (a-b)else 0:=by
 intro l_;induction l_ with
 |zero=>
  rw[s9 C4];rfl
 |succ n ih_=>
  show v5 _ n+(if a=b+n then g n else 0)=_;rw[ih_];by_cases h:a=b+n;rw[r9 h,s9 C4,r9 C4,show a-b=n by simp[*]];grind;rw[s9 h];by_cases c:b<=a/\a<b+n;rw[r9 c,r9 t9];grind;rw[s9 c,s9 t9];grind
theorem XQ{g:Nat->Rat}(s:Nat):∀n,v5 (λi=>if i<=s then g i else 0) n=v5 g (if n<=s then n else s+1):=by
 intro l_;induction l_ with
 |zero=>
  rfl
 |succ n ih_=>
  show v5 _ n+(if n<=s then g n else 0)=_;rw[ih_];by_cases h:n+1<=s;rw[r9 eI,r9 eI,r9 h];rfl;rw[s9 h];by_cases a:n=s;rw[r9 (rT u4),r9 (rT u4),a];rfl;rw[s9 t9,s9 t9];grind
def gd(ns:List (Nat×Q2))(o:Q2)(a:Nat):Q2:=ns.foldl (λo e=>if a=e.1 then e.2 else o) o
theorem Zo(a:Nat):∀(ns:List (Nat×Q2)) (o:Q2),EX ns (fr o) a=fr (gd ns o a):=by
 intro l_;induction l_ with
 |nil=>
  exact λ_=>rfl
 |cons e ns ih_=>
  intro o;show EX ns (if a=e.1 then fr e.2 else fr o) a=fr (gd ns (if a=e.1 then e.2 else o) a)
  rw[<-ih_];split<;>rfl
theorem a2j(b:Nat)(q o:Q2)(p:Nat):∀n,gd ((D3 n).map λi=>(b+i,q)) o p=if b<=p/\p<b+n then q else o:=by
 intro l_;induction l_ with
 |zero=>
  rw[s9 C4];rfl
 |succ n ih_=>
  rw[bL,W4];delta gd;rw[QK];show(if p=b+n then q else gd _ o p)=_;rw[ih_];by_cases h:p=b+n;rw[r9 h,r9 C4];rw[s9 h];by_cases a:b<=p/\p<b+n;rw[r9 a,r9 t9];rw[s9 a,s9 t9]
theorem BI(c:m<N)(a q:Q2)(p:Nat):gd ((m,a)::fP N m q) q0 p=if p=m then a else if N+m<=p/\p<2*N then q else q0:=by
 show gd _ (if p=m then a else q0) p=_;delta fP;rw[a2j];by_cases h:p=m;rw[s9 t9,r9 h,r9 h];rw[s9 h,s9 h];by_cases b:N+m<=p/\p<2*N;rw[r9 b,r9 t9];rw[s9 b,s9 t9]
structure Pl where
 lk:Nat->Rat
 sp:Nat->Rat
 bo:Nat->Rat
 gv:Nat->Rat
 fl:Nat->Rat
 tk:Nat->Rat
 lv:Nat->Rat
 un:Nat->Rat
 wk:Nat->Nat->Rat
variable{a6:Pl}
def qc(t j:Nat):List Key:=[.inr "worked",.inl (t:Int),.inl (j:Int)]
structure Ag(h:A7)(Y:List Key->Rat)(P:Pl):Prop where
 lk:∀t,Y (k2 "lacked" t)=P.lk t
 sp:∀t,Y (k2 "spilt" t)=P.sp t
 bo:∀t,(h.hs.getD t O5).line≠J->Y (k2 "bought" t)=P.bo t/\Y (k2 "given" t)=P.gv t
 nl:∀t,(h.hs.getD t O5).line=J->P.bo t=0/\P.gv t=0
 fl:∀t,Y (k2 "filled" t)=P.fl t
 tk:∀t,Y (k2 "taken" t)=P.tk t
 lv:∀t,Y (k2 "level" t)=P.lv t
 un:∀j,Y (k2 "undone" j)=P.un j
 wk:∀t j,Y (qc t j)=P.wk t j
def cF(x:Hr):Rat:=if x.S6<=x.need then 1 else -1
theorem P7(n:Int):val (n,1)=(n:Rat):=val_one n
theorem ja(x:Hr):val (T6 x)=cF x:=by delta T6 cF;split<;>rw[P7]<;>rfl
theorem ju(x:Hr):val (outF x) = - cF x:=by
 delta outF cF;split<;>rw[P7]
 rfl;rfl
def jL(Y:List Key->Rat)(p:Nat)(x:Ch):Rat:=val (gd x.ns q0 p)*Y x.k
theorem Z0{c:Prop}[Decidable c](a b:Q2):val (if c then a else b)=if c then val a else val b:=by split<;>rfl
theorem a2N(A:Ag d a2 a6)(H:kI d)(Y:m<d.n)(p:Nat):ls (jL a2 p) (Z4 d m) =
  (if p=m then cF (d.hr m)*(a6.lk m+a6.bo m+val d.left*a6.tk m-a6.sp m-a6.gv m-a6.fl m)else 0)+(if d.n+m<=p/\p<2*d.n then a6.tk m-val d.kept*a6.fl m else 0)+if p=d.n+m then a6.lv m else 0:=by
 have g:∀q:Q2,gd [(m,q)] q0 p=if p=m then q else q0:=λ_=>rfl;have o:gd [(d.n+m,((1,1)))] q0 p=if p=d.n+m then(1,1)else q0:=rfl
 have u:val (R5 (T6 (d.hr m)) d.left)=cF (d.hr m)*val d.left:=by rw[qe (by delta T6;split<;>decide) H.l.pos,ja]
 have s:val (eL (0,1) d.kept) = - val d.kept:=by rw[uu f5 H.k.pos,show val (0,1)=0 from N8];grind
 have r:ls (jL a2 p) (cH d m)=(if p=m then cF (d.hr m)*(val d.left*a6.tk m-a6.fl m)else 0)+(if d.n+m<=p/\p<2*d.n then a6.tk m-val d.kept*a6.fl m else 0)+if p=d.n+m then a6.lv m else 0:=by
  delta cH;simp only[ls,jL];rw[BI Y,BI Y,o,A.fl,A.tk,A.lv,Z0,Z0,Z0,Z0,Z0,u,s,(P7 1),ju,N8];by_cases e:p=m;rw[r9 e,r9 e,r9 e,s9 t9,s9 t9,s9 t9];grind
  . rw[s9 e,s9 e,s9 e];by_cases f:d.n+m<=p/\p<2*d.n
    . rw[r9 f,r9 f,r9 f];split<;>grind
    . rw[s9 f,s9 f,s9 f];split<;>grind
 delta Z4 eO bF;rw[jQ,r];cases hl:(d.hr m).line with
 |none=>
  obtain⟨j,i⟩:=A.nl m hl;simp only[af,ls,jL];rw[g,g,A.lk,A.sp,Z0,Z0,ja,ju,N8,j,i];by_cases e:p=m;rw[r9 e,r9 e,r9 e,r9 e];grind;rw[s9 e,s9 e,s9 e,s9 e];grind
 |some l=>
  obtain⟨a,b,c,h⟩:=l;obtain⟨j,i⟩:=A.bo m (by rw[hl];simp);simp only[cz,cZ,ls,jL];rw[g,g,A.lk,A.sp,j,i,Z0,Z0,ja,ju,N8];by_cases e:p=m;rw[r9 e,r9 e,r9 e,r9 e];grind;rw[s9 e,s9 e,s9 e,s9 e];grind
abbrev P5(h:A7)(j:Nat):Nat:=(h.ws.getD j P6).first.toNat
abbrev cK(h:A7)(j:Nat):Nat:=Ja (h.ws.getD j P6)
noncomputable def MO(h:A7)(P:Pl)(s:Nat):Rat:=v5 (λj=>if P5 h j<=s/\s<P5 h j+cK h j then P.wk s j else 0) h.ws.length
theorem a0u(A:Ag d a2 a6)(H:kI d)(g:m<d.w)(p:Nat):ls (jL a2 p) (bD d m) =
  (if p=2*d.n+m then a6.un m+v5 (λi=>a6.wk (P5 d m+i) m) (cK d m)else 0)+if P5 d m<=p/\p<P5 d m+cK d m then-cF (d.hr p)*a6.wk p m else 0:=by
 have:=H.f m g;show jL a2 p _+ls _ _=_;have h:gd [(2*d.n+m,((1,1)))] q0 p=if p=2*d.n+m then(1,1)else q0:=rfl
 have c:=P7 1;have l:jL a2 p (ff d m)=if p=2*d.n+m then a6.un m else 0:=by
  show val (gd [(2*d.n+m,(1,1))] q0 p)*a2 (k2 "undone" m)=_
  rw[h,A.un,Z0,c,N8];split<;>simp
 have e:∀i,i<cK d m->jL a2 p (qb d m _)=(if p=2*d.n+m then a6.wk (P5 d m+i) m else 0)+if p=P5 d m+i then-cF (d.hr (P5 d m+i))*a6.wk (P5 d m+i) m else 0:=λi k=>by
  have:i<((d.wk m).last+1-(d.wk m).first).toNat:=k;show val (if p=2*d.n+m then(1,1)else if p=P5 d m+i then outF _ else q0)*a2 (qc _ m)=_;rw[A.wk,Z0,Z0,c,N8,ju];by_cases a:p=2*d.n+m;rw[r9 a,r9 a,s9 t9];grind
  . rw[s9 a,s9 a];split<;>grind
 rw[l,Fn,B4 _ e,aF,wu];by_cases b:P5 d m<=p/\p<P5 d m+cK d m
 . have:p<d.n:=by
     have:p<P5 d m+((d.wk m).last+1-(d.wk m).first).toNat:=b.2;lia
   rw[B4 _ λi _=>s9 t9,jv];grind
 rw[s9 b,s9 b];by_cases a:p=2*d.n+m;rw[r9 a,r9 a,B4 _ λi _=>r9 a];rw[mO];rw[s9 a,s9 a,B4 _ λi _=>s9 a,jv];grind
theorem Br(A:Ag d a2 a6)(H:kI d)(p:Nat):ls (jL a2 p) (B5 d)=v5 (λt=>(if p=t then cF (d.hr t)*(a6.lk t+a6.bo t+val d.left*a6.tk t-a6.sp t-a6.gv t-a6.fl t)else 0)+(if d.n+t<=p/\p<2*d.n then a6.tk t-val d.kept*a6.fl t else 0)+if p=d.n+t then a6.lv t else 0) d.n +
  v5 (λj=>(if p=2*d.n+j then a6.un j+v5 (λi=>a6.wk (P5 d j+i) j) (cK d j)else 0)+if P5 d j<=p/\p<P5 d j+cK d j then-cF (d.hr p)*a6.wk p j else 0) d.w:=by delta B5;rw[jQ,oz,oz,B4 _ λt b=>a2N A H b p,B4 _ λj a=>a0u A H a p]
theorem Bn{g:Nat->Rat}(a:Nat)(h:a<m):v5 (λi=>if a=i then g i else 0) m=g a:=by
 have:=wu (g:=g) a 0 m;rw[r9 C4]at this
 rwa [<-B4 m λi _=>by rw[rQ]]at this
theorem Z2{f:Nat->Rat}(h:∀i,i<m->f i=0):v5 f m=0:=by rw[B4 m h,jv]
theorem a5E(A:Ag d a2 a6)(H:kI d)(hs:m<d.n):ls (jL a2 m) (B5 d)=cF (d.hr m)*(a6.lk m+a6.bo m+val d.left*a6.tk m-a6.sp m-a6.gv m-a6.fl m-MO d a6 m):=by
 rw[Br A H,aF,aF,Bn m hs,
  Z2 λt _=>s9 t9,Z2 λt _=>s9 (S8 (O1 u4 (kE _ _))),aF,
  Z2 λt _=>s9 t9]
 have:v5 (λj=>if P5 d j<=m/\m<P5 d j+cK d j then-cF (d.hr m)*a6.wk m j else 0) d.w=MO d a6 m * - cF (d.hr m):=by delta MO;rw[gb];exact B4 _ λj _=>by split<;>grind
 grind
theorem Wm(H:kI d)(a:m<d.w)(b:d.n<=e):¬(P5 d m<=e/\e<P5 d m+cK d m):=by
 have:=H.f m a;show ¬(_/\e<(d.wk m).first.toNat+((d.wk m).last+1-(d.wk m).first).toNat);lia
theorem a5D(A:Ag d a2 a6)(H:kI d)(hs:m<d.n):ls (jL a2 (d.n+m)) (B5 d)=a6.lv m-v5 (λt=>val d.kept*a6.fl t-a6.tk t) (m+1):=by
 rw[Br A H,aF,aF,Z2 λt _=>s9 t9,aF,
  Z2 (f:=λj=>if d.n+m=2*d.n+j then a6.un j+v5 _ _ else 0) λt _=>s9 t9,
  Z2 λj b=>s9 (Wm H b C4)]
 have h:v5 (λt=>if d.n+m=d.n+t then a6.lv t else 0) d.n=a6.lv m:=by rw[wu,r9 C4,show d.n+m-d.n=m by simp[*]]
 have a:v5 (λt=>if d.n+t<=d.n+m/\d.n+m<2*d.n then a6.tk t-val d.kept*a6.fl t else 0) d.n=v5 (λt=>a6.tk t-val d.kept*a6.fl t) (m+1):=by
  have:=XQ (g:=λt=>a6.tk t-val d.kept*a6.fl t) m d.n;rw[s9 C4]at this;rw[<-this];refine B4 _ λt _=>?_;by_cases c:t<=m;rw[r9 c,r9 t9];rw[s9 c,s9 C4]
 rw[h,a,oI,oI];grind
theorem a5C(A:Ag d a2 a6)(H:kI d)(b:m<d.w):ls (jL a2 (2*d.n+m)) (B5 d)=a6.un m+v5 (λi=>a6.wk (P5 d m+i) m) (cK d m):=by
 rw[Br A H,Z2 λt c=>by rw[s9 t9,s9 C4,s9 t9];grind,aF,
  Z2 λi a=>s9 (Wm H a t9),
  wu,r9 C4,show 2*d.n+m-2*d.n=m by simp[*]]
 grind
def eM(x:Hr):Int:=match x.line with
 |none=>0
 |some l=>l.1
def fc(x:Hr):Int:=match x.line with
 |none=>0
 |some l=>l.2.2.1
noncomputable def cV(h:A7)(P:Pl):Nat->Rat
 | 0=>v5 P.lk h.hs.length
 | 1=>v5 P.un h.ws.length
 |_=>v5 (λt=>(eM (h.hs.getD t O5):Rat)*P.bo t-(fc (h.hs.getD t O5):Rat)*P.gv t) h.hs.length-(h.rest:Rat)*P.lv (h.hs.length-1)
def vi(Y:List Key->Rat)(i:Nat)(x:Ch):Rat:=val (Q0 x.c i)*Y x.k
theorem VA(A:Ag d a2 a6)(Y:1<=d.n)(o:m<3):ls (vi a2 m) (B5 d)=cV d a6 m:=by
 have z:=N8;have h:=P7 1;have a:∀q j,(∀c,vi a2 m ⟨(ff d j).k,a0y,c,(ff d j).ns⟩=q)->ls _ (bD d j)=q:=λq j e=>by
  show vi a2 m _+ls _ _=_;rw[Fn,Z2 λt _=>?_,show vi a2 m (ff d j)=q from e _];grind;show val _*_=0;rw[show val _=0 by rcases(tW u4)with rfl|rfl|rfl<;>exact N8];simp
 delta B5;rw[jQ,oz,oz];rcases(tW u4)with rfl|rfl|rfl
 . rw[Z2 λj _=>a 0 j λc=>by show val (0,1)*_=0;rw[z];simp,B4 (g:=a6.lk) _ λt _=>?_];show _+0=v5 a6.lk _;grind
   . delta Z4 eO bF cH;cases(d.hr t).line<;>simp only[cz,cZ,ls,vi,Q0,BU,gL,A.lk]<;>grind
 . rw[B4 _ λj _=>a (a6.un j) j λc=>by show val (1,1)*a2 (k2 "undone" j)=_;rw[h,A.un];simp,Z2 λt _=>?_];show 0+_=v5 a6.un _;grind
   . delta Z4 eO bF cH;cases(d.hr t).line<;>simp only[cz,cZ,ls,vi,Q0,BU,gL]<;>grind
 . rw[Z2 λj _=>a 0 j λc=>by show val (0,1)*_=0;rw[z];simp,
     B4 (g:=λt=>((eM (d.hr t))*a6.bo t-(fc (d.hr t))*a6.gv t)-(if t+1=d.n then d.rest*a6.lv t else 0)) _ λt _=>?_,oI]
   . have:v5 (λt=>if t+1=d.n then d.rest*a6.lv t else 0) d.n=d.rest*a6.lv (d.n-1):=by
       rw[<-Bn (g:=λt=>d.rest*a6.lv t) _ (show d.n-1<d.n by omega)];refine B4 _ λt _=>?_;by_cases c:t+1=d.n;rw[r9 c,r9 t9];rw[s9 c,s9 t9]
     show _+0=_-_;grind
   . have:((-pf d t:Int))*a6.lv t = - if t+1=d.n then d.rest*a6.lv t else 0:=by
       delta pf;split;rw[pL];grind;show 0*_=_;simp
     delta Z4 eO bF cH eM fc;cases hl:(d.hr t).line with
     |none=>
      obtain⟨f,b⟩:=A.nl t hl;simp only[cz,cZ,ls,vi,Q0,BU,gL,P7,A.lv];grind
     |some l=>
      obtain⟨f,b⟩:=A.bo t (by rw[hl];simp);simp only[cz,cZ,ls,vi,Q0,BU,gL,P7,A.lv];grind
structure G4(h:A7):Prop where
 n1:1<=h.hs.length
 n4:h.hs.length<=24
 w2:h.ws.length<=2
 k:F0 4 h.kept
 k0:0<h.kept.1/\h.kept.1<=h.kept.2
 l:F0 4 h.left
 l0:0<h.left.1/\h.left.1<=h.left.2
 st:0<=h.start/\h.start<=h.size/\h.size<=1000000
 fl:0<=h.fill/\h.fill<=1000000
 tk:0<=h.take/\h.take<=1000000
 re:0<=h.rest/\h.rest<=1000
 hr:∀t,t<h.hs.length->0<=(h.hs.getD t O5).S6/\(h.hs.getD t O5).S6<=1000000/\0<=(h.hs.getD t O5).need/\(h.hs.getD t O5).need<=1000000
 ln:∀t a b c d,t<h.hs.length->(h.hs.getD t O5).line=U (a,b,c,d)->(-1000000<=a/\a<=1000000)/\(0<=b/\b<=1000000)/\(-1000000<=c/\c<=1000000)/\0<=d/\d<=1000000
 wk:∀j,j<h.ws.length->0<=(h.ws.getD j P6).L5/\(h.ws.getD j P6).L5<=1000000/\0<=(h.ws.getD j P6).most/\(h.ws.getD j P6).most<=1000000
 f:∀j,j<h.ws.length->0<=(h.ws.getD j P6).first/\(h.ws.getD j P6).first<=(h.ws.getD j P6).last/\(h.ws.getD j P6).last<(h.hs.length:Int)
abbrev hD(h:A7):Int:=h.kept.2*h.left.2
abbrev hM(h:A7):Nat:=2*h.hs.length+h.ws.length
abbrev CB(q:Q2):Prop:=q.2=1/\-1000000<=q.1/\q.1<=1000000
structure a5V(h:A7)(x:Ch):Prop where
 ns:∀e∈x.ns,e.1<hM h/\F0 4 e.2/\e.2.2∣hD h
 tp:∀q,x.t=U q->q.2=1/\0<=q.1/\q.1<=1000000
 c:∀t,t<3->CB (Q0 x.c t)
 fr:x.t=J->x.c=Nc/\∃t,x.k=k2 "spilt" t
theorem G4.s(H:G4 d):kI d:=⟨H.k.mono f5,H.l.mono f5,by have:=H.n4;exact nI,by have:=H.w2;exact nI,H.f⟩
theorem yC{P:Q2->Prop}{x:Tr}(f:P x.a)(g:P x.b)(d:P x.c):∀t,t<3->P (Q0 x t):=λt e=>by rcases(tW u4)with rfl|rfl|rfl<;>assumption
theorem tE(H:G4 d):∀x∈B5 d,a5V d x:=by
 have one:1∣hD d:=⟨hD d,by simp[*]⟩
 have B:∀y:Hr,(F0 4 (T6 y)/\(T6 y).2∣hD d)/\F0 4 (outF y)/\(outF y).2∣hD d:=λy=>by delta T6 outF;split<;>exact⟨⟨⟨by decide,by rfl,⟨by decide⟩,⟨by decide⟩⟩,one⟩,⟨by decide,by rfl,⟨by decide⟩,⟨by decide⟩⟩,one⟩
 have o:CB (0,1):=by decide
 have O:CB (1,1):=by decide
 have C:∀t,t<3->CB (Q0 ⟨(0,1),(0,1),(0,1)⟩ t):=yC o o o;have I:∀p:Int,-1000000<=p->p<=1000000->∀t,t<3->CB (Q0 (gL p) t):=λp m L=>yC o o ⟨rfl,m,L⟩
 have s:∀{v:Int},0<=v->v<=1000000->∀q:Q2,U (v,1)=U q->q.2=1/\0<=q.1/\q.1<=1000000:=λm L q e=>by cases e;exact⟨rfl,m,L⟩
 have F:F0 4 ((1,1))/\((1,1)).2∣hD d:=⟨⟨by decide,by rfl,⟨by decide⟩,⟨by decide⟩⟩,one⟩
 have m:∀{p:Nat}{q:Q2},p<hM d->F0 4 q/\q.2∣hD d->∀e∈[(p,q)],e.1<hM d/\F0 4 e.2/\e.2.2∣hD d:=λW hq e r=>by rw[mem_singleton.mp r];exact⟨W,hq⟩
 have u:∀{t:Nat}{a q:Q2},t<d.n->F0 4 a/\a.2∣hD d->F0 4 q/\q.2∣hD d->∀e∈(t,a)::fP d.n t q,e.1<hM d/\F0 4 e.2/\e.2.2∣hD d:=λA T hq e r=>by
  rcases List.mem_cons.mp r with rfl|r
  exact⟨by show _<_;lia,T⟩;obtain⟨i,G,rfl⟩:=mem_map.mp r;have:=mem_range.mp G;exact⟨by show _<_;lia,hq⟩
 have:=H.k.pos;have:=H.l.pos;have mk:F0 4 (eL (0,1) d.kept)/\(eL (0,1) d.kept).2∣hD d:=by
  have w:0<1*d.kept.2:=by simp_all
  refine⟨je w ?_ ?_,gy (aj w).2.2.2 ⟨d.left.2,by rw[bq]⟩⟩;exact(H.k.bt.mono f5).of_le (by show(0*d.kept.2-d.kept.1*1).natAbs<=_;simp[*]);exact(H.k.bb.mono f5).of_le (by show(1*d.kept.2).natAbs<=_;simp[*])
 have S:∀y:Hr,F0 4 (R5 _ d.left)/\(R5 _ d.left).2∣hD d:=λy=>by
  have M:(T6 y).2=1:=by delta T6;split<;>rfl
  have w:0<(T6 y).2*d.left.2:=by rw[M];simp[*]
  exact⟨je w ((H.l.bt.mono f5).of_le (by delta T6;split<;>simp)) ((H.l.bb.mono f5).of_le (by rw[M];lia)),gy (aj w).2.2.2 ⟨d.kept.2,by rw[M,bq,K7]⟩⟩
 intro x g;rcases List.mem_append.mp g with g|g
 . obtain⟨t,A,g⟩:=mem_flatMap.mp g;have A:=mem_range.mp A;obtain⟨s0,s1,Q,Y⟩:=H.hr t A;have E:t<hM d:=by lia
   rcases List.mem_append.mp g with g|g
   . rcases List.mem_append.mp g with g|g
     . simp only[bu,kh,or_false]at g;rcases g with rfl|rfl
       exact⟨m E (B _).1,s Q Y,yC O o o,λz=>nS z⟩;exact⟨m E (B _).2,(λq z=>nE z),C,λ_=>⟨rfl,t,rfl⟩⟩
     . unfold bF at g;cases hl:(d.hr t).line with
       |none=>rw[hl]at g;cases g
       |some l=>
        obtain⟨a,b,c,h⟩:=l;obtain⟨⟨N,K⟩,⟨w,X⟩,⟨V,c1⟩,R,P⟩:=H.ln t a b c h A hl;rw[hl]at g;simp only[bu,kh,or_false]at g;rcases g with rfl|rfl
        exact⟨m E (B _).1,s w X,I a N K,λz=>nS z⟩;exact⟨m E (B _).2,s R P,I (-c) t9 t9,λz=>nS z⟩
   . unfold cH at g;have:=H.re;simp only[bu,kh,or_false]at g;rcases g with rfl|rfl|rfl
     exact⟨u A (B _).2 mk,s H.fl.1 H.fl.2,C,λz=>nS z⟩;exact⟨u A (S _) F,s H.tk.1 H.tk.2,C,λz=>nS z⟩;exact⟨m t9 F,s (W3 H.st.1 H.st.2.1) H.st.2.2,I _ (by delta pf;split<;>lia) (by delta pf;split<;>lia),λz=>nS z⟩
 . obtain⟨j,D,g⟩:=mem_flatMap.mp g;have D:=mem_range.mp D;obtain⟨N,K,m0,m1⟩:=H.wk j D;obtain⟨f0,Z,f2⟩:=H.f j D;rcases List.mem_cons.mp g with rfl|g
   exact⟨m t9 F,s N K,yC o O o,λz=>nS z⟩
   . obtain⟨i,G,rfl⟩:=mem_map.mp g;have G:i<((d.wk j).last+1-(d.wk j).first).toNat:=mem_range.mp G;refine⟨λe r=>?_,s m0 m1,C,λz=>nS z⟩
     unfold qb at r;simp only[bu,kh,or_false]at r;rcases r with rfl|rfl
     exact⟨by show _<_;lia,(B _).2⟩;exact⟨by show _<_;lia,F⟩
abbrev hB(h:A7):List (List Key):=(B5 h).map (·.k)
abbrev dS(h:A7)(j:Nat):Ch:=(B5 h).getD j zI
def nJ(h:A7)(k:List Key):Nat:=(hB h).findIdx λa=>decide (a=k)
noncomputable def A5(h:A7):J2:=⟨hM h,(B5 h).length,λj=>(dS h j).c,λp j=>gd (dS h j).ns q0 p,λp=>(M5 h).getD p q0,λj=>(dS h j).t,λk=>nJ h ((az h).getD k [])⟩
theorem lH(a:m<(B5 d).length):dS d m∈B5 d:=by simp_all
theorem a2k(a:Nat):∀(ns:List (Nat×Q2)) (o:Q2),gd ns o a=o\/∃e∈ns,gd ns o a=e.2:=by
 intro l_;induction l_ with
 |nil=>
  exact λ_=>.inl rfl
 |cons e ns ih_=>
  intro o;rcases ih_ (if a=e.1 then e.2 else o)with z|⟨b,c,d⟩
  show gd ns _ a=o\/∃b∈e::ns,gd ns _ a=b.2;rw[z];split;exact .inr ⟨e,F2,rfl⟩;exact .inl rfl;exact .inr ⟨b,E7 _ c,d⟩
theorem getD_at{l:List d2}{a d:d2}(h:l[m]?=U a):l.getD m d=a:=by simp_all
theorem a4n(a:m<d.hs.length):d.hs[m]?=U (d.hs.getD m O5):=by simp_all
theorem Wl(a:m<d.ws.length):d.ws[m]?=U (d.ws.getD m P6):=by simp_all
theorem WG(hs:m<d.n):(M5 d).getD m q0=lS (d.hr m):=by
 refine getD_at ?_;delta M5;rw[kl (by simp;exact QA _ u4),kl (by simpa using hs),M9,a4n hs];rfl
theorem WE(hs:m<d.n):(M5 d).getD (d.n+m) q0=(d.start,1):=by
 refine getD_at ?_;delta M5;rw[kl (by simp;omega),qu F5];simp[hs]
theorem WD(a:m<d.w):(M5 d).getD (2*d.n+m) q0=((d.wk m).L5,1):=by
 refine getD_at ?_;delta M5;rw[qu (by simp;lia),T7,F9,sr,show 2*d.n+m-(d.n+d.n)=m by omega,M9,Wl a];rfl
theorem JD(c:m<hM d):m<d.n\/(∃s,s<d.n/\m=d.n+s)\/∃j,j<d.w/\m=2*d.n+j:=by
 by_cases a:m<d.n;exact .inl a;by_cases b:m<2*d.n;exact .inr (.inl ⟨m-d.n,by lia,by simp_all⟩);exact .inr (.inr ⟨m-2*d.n,by lia,by simp_all⟩)
theorem DP(H:G4 d)(c:m<hM d):((M5 d).getD m q0).2=1/\0<=((M5 d).getD m q0).1/\((M5 d).getD m q0).1<=1000000:=by
 rcases JD c with a|⟨s,a,rfl⟩|⟨j,b,rfl⟩
 . rw[WG a];have:=H.hr m a;delta lS;refine⟨rfl,?_,?_⟩<;>dsimp only<;>split<;>lia
 rw[WE a];have:=H.st;exact⟨rfl,by simp[*],by lia⟩;rw[WD b];have:=H.wk j b;exact⟨rfl,by simp only[*];done,by simp only[*];done⟩
theorem yh(H:G4 d)(i:m<hM d):∃x∈B5 d,x.k=(az d).getD m []/\x.ns=[(m,(1,1))]/\∀q,x.t=U q->((M5 d).getD m q0).1<=q.1:=by
 have b:∀{t:Nat},t<d.n->∀{x:Ch},x∈Z4 d t->x∈B5 d:=λf x g=>T1 _ (mem_flatMap.mpr ⟨_,mem_range.mpr f,g⟩)
 rcases JD i with a|⟨s,a,rfl⟩|⟨j,h,rfl⟩
 . have e:(az d).getD m []=k2 (qG (d.hr m)) m:=by
     refine getD_at ?_;delta az;rw[kl (by simp;exact QA _ u4),kl (by simpa using a),M9,gQ a];rfl
   rw[e,WG a];delta qG lS;have:=H.hr m a;by_cases c:(d.hr m).S6<=(d.hr m).need
   . rw[r9 c];refine⟨_,b a (T1 _ (T1 _ F2)),rfl,?_,λq z=>?_⟩;show[(m,T6 _)]=_;delta T6;rw[r9 c]
     . cases z;split<;>lia
   rw[s9 c];refine⟨_,b a (T1 _ (T1 _ (E7 _ F2))),rfl,?_,λq z=>nE z⟩;delta outF;rw[s9 c]
 . have e:(az d).getD (d.n+s) []=k2 "level" s:=by
     refine getD_at ?_;delta az;rw[kl (by simp;omega),qu F5];simp[a]
   rw[e,WE a];refine⟨_,b a (N1 _ (E7 _ (E7 _ F2))),rfl,rfl,λq z=>?_⟩;cases z;exact H.st.2.1
 . have e:(az d).getD (2*d.n+j) []=k2 "undone" j:=by
     refine getD_at ?_;delta az;rw[qu (by simp;lia)];simp only[T7,F9,kF];rw[show 2*d.n+j-(d.n+d.n)=j by lia,M9,gQ h];rfl
   rw[e,WD h];refine⟨ff d j,N1 _ (mem_flatMap.mpr ⟨j,mem_range.mpr h,F2⟩),rfl,rfl,λq z=>?_⟩;cases z;exact ku _
theorem Zq{l:List d2}(n:l.Nodup)(a:m<l.length)(b:e<l.length)(d:l[m]=l[e]):m=e:=by
 have p:=List.pairwise_iff_getElem.mp n;rcases Nat.lt_trichotomy m e with c|c|c
 exact absurd d (p m e a b c);exact c;exact absurd d.symm (p e m b a c)
theorem vk(a:m<(B5 d).length):dS d m=(B5 d)[m]:=by simp_all
theorem FH(c:b4∈hB d):nJ d b4<(B5 d).length/\(dS d (nJ d b4)).k=b4:=by
 have b:nJ d b4<(hB d).length:=List.findIdx_lt_length_of_exists ⟨b4,c,by simp⟩
 have a:nJ d b4<(B5 d).length:=by simpa using b
 refine⟨a,?_⟩;have:=mT (List.findIdx_getElem (w:=b));rw[vk a];exact(se (l:=B5 d) (·.k)).symm.trans this
theorem Pg(a:m<(B5 d).length):nJ d (dS d m).k=m:=by
 have c:(dS d m).k∈hB d:=mem_map.mpr ⟨_,lH a,rfl⟩;obtain⟨b,h⟩:=FH c;refine Zq (ql d) (by simpa using b) (by simpa using a) ?_
 rwa [se,se,<-vk b,<-vk a]
theorem vm(b:b5∈B5 d):nJ d b5.k<(B5 d).length/\dS d (nJ d b5.k)=b5:=by obtain⟨i,a,rfl⟩:=List.mem_iff_getElem.mp b;rw[<-vk a,Pg a];exact⟨a,rfl⟩
open Sx (sN pN sm det J9 dot)
theorem yy(h:FD D M q)(hd:q.2∣E)(a:0<E):((wh q E).natAbs:Int)<=M*E:=by
 have p:=h.pos;have d:((wh q E).natAbs)*q.2=q.1.natAbs*E:=by
  have:=C2 Int.natAbs (yx h.pos hd);rw[fx,fx]at this;have c:(((wh q E).natAbs*q.2.natAbs:Nat):Int)=((q.1.natAbs*E.natAbs:Nat)):=by rw[this]
  rwa [He,He,sq (S9 p),sq (S9 a)]at c
 have:q.2*((wh q E).natAbs)<=q.2*(M*E):=by rw[K7 q.2,d];refine W3 (og h.xq (S9 a)) (Int.le_of_eq ?_);rw[K7 M,O0]
 exact AS this p
theorem Gr(h:(D.natAbs:Int)<=M)(b:Bt m M):Bt m D:=b.of_le t9
section
variable{T:Sx.Tb}
theorem Small.bits(S:Small g C m)(K:Sx.Ok (g.pb C) T){β ω:Nat}(y:∀p,p<g.m->Bt β (C p))(w:∀j v,j<g.n->g.lim j=U v->Bt β v)(D:∀t j,t<3->j<g.n->Bt ω (g.wt t j))(Q:1<=β):
  Bt (m*g.m+1) T.size/\(∀a k,a<g.n->k<g.m->Bt (m*g.m+m+1) (T.A3 (g.pb C) a k))/\(∀k,k<g.m->Bt (m*g.m+(β+m+22)+1) (T.am (g.pb C) k))/\∀t q,t<3->q<g.m->Bt (ω+(m*g.m+12)+10) (T.pr t q):=by
 have L:=K.J6;have l:∀k q,k<g.m->q<g.m->Bt _ _:=λk q e hq=>by
  have h:Sx.sN g.m (λr=>(Sx.unit q r).natAbs)<2^(1+10):=yJ S.m1 λi _=>by delta Sx.unit;split<;>decide
  have:=S.det L e (br h)
  rwa [Sx.tj _ hq]at this
 have rt:∀p,p<g.m->Bt _ (T.rt p):=λp f=>by
  rw[K.rt p f];have Q:Bt (β+(m+1)+10) (Sx.fsum (g.pb C) T λj=>(g.pb C).A j p):=Bt.sm S.n1 λj o=>by
   split
   . refine Bt.mul ?_ (S.col o f);show Bt β ((g.lim j).getD 0)
     cases hl':g.lim j with
     |none=>exact Bt.mono ⟨by decide⟩ Q
     |some v=>exact w j v o hl'
   exact Bt.mono ⟨by decide⟩ (Nat.succ_pos _)
  exact((y p f).mono t9).sub (Q.mono G8)
 refine⟨?_,λa k B e=>S.det L e (S.cn a B),λk e=>?_,λt q u hq=>?_⟩;obtain⟨s,Q,x,E⟩:=L.sg;exact Bt.sign Q x (Cp (d:=0) (k:=g.m) (λi b _=>S.cn _ (L.bn i b)) (λz=>by simp_all));have h:=yJ S.m1 λp f=>(rt p f).lt;exact S.det L e (br h);rw[L.pr t q hq];exact Bt.sm S.m1 λk e=>(D t _ u (L.bn k e)).mul (l k q e hq)
end
theorem vc(H:G4 d):0<hD d/\hD d<=225:=by have:=H.k.bb.lt;have:=H.l.bb.lt;have h:=H.l.pos;exact⟨M3 H.k.pos h,W3 (GW (show d.kept.2<=15 by lia) (show d.left.2<=15 by omega) eN f5) f5⟩
theorem yM(H:G4 d)(a:e<(B5 d).length):F0 4 ((A5 d).row m e)/\((A5 d).row m e).2∣hD d:=by
 rcases a2k m (dS d e).ns q0 with z|⟨h,b,z⟩
 show F0 4 (gd (dS d e).ns q0 m)/\(gd (dS d e).ns q0 m).2∣_;rw[z];exact⟨Kc f5,⟨hD d,by show _=1*_;simp[*]⟩⟩;show F0 4 (gd (dS d e).ns q0 m)/\(gd (dS d e).ns q0 m).2∣_;rw[z];exact((tE H _ (lH a)).ns h b).2
theorem xf{b:Int}(a:Bt m b)(d : -b<=D)(c:D<=b):Bt m D:=a.of_le t9
theorem FR(f:1<=m)(d:Bt m D)(h:q.2=1)(g : -D<=q.1)(e:q.1<=D):F0 m q:=by obtain⟨a,c⟩:=q;subst h;exact sM (xf d g e) f
theorem yD(H:G4 d)(h:m<(B5 d).length)(hq:(dS d m).t=U q):q.2=1/\0<=q.1/\q.1<=1000000/\F0 20 q:=by obtain⟨a,b,c⟩:=(tE H _ (lH h)).tp q hq;exact⟨a,b,c,FR f5 ⟨by decide⟩ a t9 c⟩
theorem gi(H:G4 d):I0 (A5 d) (hD d) 1 (hD d):=by
 obtain⟨l,y⟩:=vc H;have:=H.n4;have:=H.w2;have g:Bt 900 (hD d):=xf ⟨by decide⟩ t9 y;have:(A5 d).m=2*d.n+d.w:=rfl;refine⟨by lia,?_,l,by decide,l,g,⟨by decide⟩,g,λp j i f=>?_,λt j u f=>?_,λp i=>?_,λj q f hq=>?_,λk r=>?_⟩;show(B5 d).length<=1000;delta B5;rw[T7];have:=Bx d d.n;have:=MN d H.s (Ay u4) d.w G8;lia;exact⟨(yM H f).1.mono f5,(yM H f).2⟩;obtain⟨a,b,c⟩:=(tE H _ (lH f)).c t u;exact⟨FR f5 ⟨by decide⟩ a b c,⟨1,by show _=_*1;rw[show(Q0 ((A5 d).cost j) t).2=1 from a];rfl⟩⟩;obtain⟨a,b,c⟩:=DP H i;exact⟨FR f5 ⟨by decide⟩ a (W3 f5 b) c,⟨hD d,by rw[show((A5 d).rg p).2=1 from a];simp[*]⟩⟩;obtain⟨a,b,c,h⟩:=yD H f hq;exact⟨h.mono f5,λs o=>by simp_all⟩;obtain⟨x,v,e,_⟩:=yh H r;show nJ d _<_;rw[<-e];exact(vm v).1
theorem Xc(h:F0 m q)(hd:q.2∣D):FD D (2^m) q:=by
 refine⟨h.pos,h.low,hd,?_⟩;have:=h.bt.lt;have:=h.pos;have:(2^m)*1<=2^m*q.2:=fX u4 (S9 (GB f5));lia
theorem a0W{c:Nat}:∀(m:Nat) (f:Nat->Nat),(∀i,i<m->f i<=c)->Sx.sN m f<=m*c:=by
 intro l_;induction l_ with
 |zero=>
  intro f _;rw[Sx.sN];exact iH _
 |succ m ih_=>
  intro f hf;have:=ih_ f λi a=>hf i fF;have:=hf m C4;rw[Sx.sN,Nat.add_mul];lia
theorem zm(H:G4 d):kH (A5 d) 18:=by
 have O:=gi H;obtain⟨C,D⟩:=vc H;have:=H.n4;have:=H.w2;have:(A5 d).m=2*d.n+d.w:=rfl;have s:∀k,k<(A5 d).m->∃x∈B5 d,dS d ((A5 d).fs k)=x/\x.ns=[(k,(1,1))]/\∀q,x.t=U q->((M5 d).getD k q0).1<=q.1:=λk h=>by
  obtain⟨x,g,e,a,b⟩:=yh H h;refine⟨x,g,?_,a,b⟩;show dS d (nJ d _)=x;rw[<-e];exact(vm g).2
 have o:∀k p,k<(A5 d).m->p<(A5 d).m->(A5 d).row p _=if p=k then(1,1)else q0:=λk p h i=>by
  obtain⟨x,g,e,a,b⟩:=s k h;show gd (dS d _).ns q0 p=_;rw[e,a];rfl
 refine⟨o,λk l h B e=>?_,λp i=>(DP H i).2.1,λj q f hq=>(yD H f hq).2.1,λk q h hq=>?_,λj f=>?_,by lia,by decide⟩;have u:=o k k h h;have r:=o l k B h;rw[r9 rfl,e]at u;rw[u]at r;by_cases c:k=l;exact c;rw[s9 c]at r;cases r
 . obtain⟨x,g,e,a,b⟩:=s k h;have:=yD H (O.fs k h) hq;have:=DP H h;have:x.t=U q:=by rw[<-e];exact hq
   show((M5 d).getD k q0).1*q.2<=q.1*((M5 d).getD k q0).2
   simp_all
 obtain⟨v,y,_,z⟩:=O.sc f;have:=gO C y;refine B7 (a0W (c:=3600) _ _ λp i=>?_) ?_;have:=yy (Xc (yM H f).1 (yM H f).2) (z p i) v;lia;have:(A5 d).m*3600<=50*3600:=pX _ t9;exact B7 u4 f5
theorem rz(H:G4 d)(K:Sx.Ok (A5 d).pb b8):Bt 901 b8.size/\(∀k,k<(A5 d).m->Bt 969 (b8.am (A5 d).pb k))/\∀t q,t<3->q<(A5 d).m->Bt 950 (b8.pr t q):=by
 have O:=gi H;obtain⟨z,R⟩:=vc H;have:=H.n4;have:=H.w2;obtain⟨u1,u2,Q,C,E⟩:=O.un;have:=gO z u2;have:(A5 d).m=2*d.n+d.w:=rfl;have d:=(J2.side O (zm H)).s.bits K (β:=28) (ω:=28) (λp i=>by
   obtain⟨a,b,c⟩:=DP H i;have f:FD 1 1000000 _:=⟨by show 0<((M5 d).getD p q0).2;simp_all,(O.rg p i).1.low,⟨1,by show 1=((M5 d).getD p q0).2*1;simp_all⟩,by show(((M5 d).getD p q0).1.natAbs)<=_*((M5 d).getD p q0).2;lia⟩;have:=yy f (C p i) u1;refine Gr (M:=225000000) ?_ ⟨by decide⟩;show((wh _ (A5 d).un).natAbs:Int)<=_
   lia) (λj v e F=>by
   obtain⟨r,y,rfl⟩:=Option.map_eq_some_iff.mp F;have G:=E j r e y;obtain⟨q,hq,rfl⟩:=Option.map_eq_some_iff.mp y;obtain⟨x,o,_,_⟩:=O.sc e;obtain⟨a,b,c,h⟩:=yD H e hq;have u:FD (hD d) 1 (1,(A5 d).sc j):=⟨x,by simp,o,by show((1:Int).natAbs)<=1*(A5 d).sc j;lia⟩;have l:FD 1 1000000 q:=⟨by simp[*],h.low,⟨1,by simp[*]⟩,by lia⟩;have:=yy (l.times u) G u1;refine Gr (M:=225000000) ?_ ⟨by decide⟩
   lia) (λt j g e=>by
   obtain⟨x,o,_,_⟩:=O.sc e;have:=gO z o;obtain⟨m1,L,_,B⟩:=O.mu g;have:=gO f5 L;obtain⟨a,b,c⟩:=(tE H _ (lH e)).c t g;have l:FD 1 1000000 _:=⟨by show 0<(Q0 (dS d j).c t).2;simp_all,(O.cost t j g e).1.low,⟨1,by show 1=(Q0 (dS d j).c t).2*1;lia⟩,by show((Q0 (dS d j).c t).1.natAbs)<=_*(Q0 (dS d j).c t).2;lia⟩;have u:FD 1 225 ((A5 d).sc j,1):=⟨by simp,by simp,fq _,by show(((A5 d).sc j).natAbs:Int)<=225*1;lia⟩;refine Gr (M:=225000000) ?_ ⟨by decide⟩;show((wh _ _).natAbs:Int)<=_;have:((wh ((A5 d).wq t j) _).natAbs)<=1000000*225*(A5 d).mu t:=(yy (l.times u) (B j e) m1)
   lia) f5
 obtain⟨N,P,I,D⟩:=d;have:(A5 ‹A7›).M7.m=(A5 ‹A7›).m:=rfl;exact⟨N.mono t9,λk A=>(I k A).mono t9,λt q g hq=>(D t q g hq).mono t9⟩
def q2(x:Rat):Q2:=(x.num,(x.den:Int))
def qd(x:Rat):f9:=fr (q2 x)
theorem S7(x:Rat):0<(q2 x).2:=by have:=x.den_pos;show(0:Int)<x.den;simp[*]
theorem a1m(x:Rat):F1 (q2 x).1 (q2 x).2=1:=x.reduced
theorem X6(x:Rat):val (q2 x)=x:=by
 show x.num/((x.den:Int))=x;rw[<-Rat.divInt_eq_div,Rat.num_divInt_den]
theorem BF(h:0<y):0<y.num:=by
 have:=(Rat.lt_iff 0 y).mp h
 simp_all
theorem Qk(i:Int)(h:i.natAbs<=m):Bt m i:=⟨O1 Nat.lt_two_pow_self (AM f5 h)⟩
theorem FT(a:0<q.2)(b:F1 q.1 q.2=1):F0 (q.1.natAbs+q.2.natAbs) q:=⟨a,b,Qk _ C4,Qk _ C4⟩
theorem ip(a:0<q.2)(b:F1 q.1 q.2=1):q=q2 (val q):=val_inj (FT a b) (FT (S7 _) (a1m _)) (X6 _).symm
theorem NJ{t:Int}(a:0<D):G7 t D=q2 ((t:Rat)/(D:Rat)):=by obtain⟨d,c,_,_⟩:=aj a;rw[ip d c,gH a]
theorem Bw(x y:Rat):iQ (q2 x) (q2 y)=q2 (x+y):=by
 obtain⟨b,a,_,_⟩:=aj (M3 (S7 x) (S7 y));have:=ip (q:=iQ (q2 x) (q2 y)) b a
 rwa [Si (S7 x) (S7 y),X6,X6]at this
theorem Tf(x y:Rat):eL (q2 x) (q2 y)=q2 (x-y):=by
 obtain⟨b,a,_,_⟩:=aj (M3 (S7 x) (S7 y));have:=ip (q:=eL (q2 x) (q2 y)) b a
 rwa [uu (S7 x) (S7 y),X6,X6]at this
theorem xQ(x y:Rat):R5 (q2 x) (q2 y)=q2 (x*y):=by
 obtain⟨b,a,_,_⟩:=aj (M3 (S7 x) (S7 y));have:=ip (q:=R5 (q2 x) (q2 y)) b a
 rwa [qe (S7 x) (S7 y),X6,X6]at this
theorem qW(x:Rat):(-(q2 x).1,(q2 x).2)=q2 (-x):=rfl
theorem Pk(x:Rat):K6 (qd x) (.int 0)=sd (.int x.num):=rfl
theorem a2I(x:Rat):K6 (qd x) (.int 1)=sd (.int x.den):=rfl
theorem a1l:qd u=qd y↔u=y:=by
 constructor
 . intro h;have c:=h;injection c with c
   injection c with a b
   injection a with a
   injection b with b _
   injection b with b
   rw[<-X6 u,<-X6 y];show((u.num:Rat))/(((u.den:Int)))=y.num/(((y.den:Int)));rw[show u.num=y.num from a,show((u.den:Int))=y.den from b]
 rintro rfl;rfl
structure RO(x:Rat):Prop where
 f:F0 3000 (q2 x)
structure nj(D:Int):Prop where
 pos:0<D
 bt:Bt 1000 D
structure Sz(D M:Int)(x:Rat):Prop where
 f:FD D M (q2 x)
theorem Sz.m0(h:Sz D M y):0<=M:=by
 have:=h.f.xq;rcases fH M 0 with c|c
 have:=AR c h.f.pos;lia;exact c
theorem Sz.ok(h:Sz D M y)(hD:nj D)(hM:M<=2^200):RO y:=by
 have:=h.m0;have b:Bt 201 M:=by
  have z:Bt 201 (2^200):=⟨by decide⟩;exact z.of_le t9
 exact⟨h.f.a2U hD.pos (hD.bt.mono f5) ((b.mul hD.bt).mono f5)⟩
theorem Sz.mono{N:Int}(h:Sz D M y)(hd:D∣E)(a:M<=N):Sz E N y:=⟨h.f.mono hd a⟩
theorem Sz.add(b:Sz D M u)(a:Sz D E y):Sz D (M+E) (u+y):=⟨by rw[<-Bw];exact b.f.plus a.f⟩
theorem Sz.neg(a:Sz D M y):Sz D M (-y):=by
 refine⟨a.f.pos,?_,a.f.dvd,?_⟩;have:=a.f.low;rw[<-qW];rw[zY];exact this
 . have:=a.f.xq;rw[<-qW]
   simp_all
theorem Sz.sub(b:Sz D M u)(a:Sz D E y):Sz D (M+E) (u-y):=by rw[QP];exact b.add a.neg
theorem Sz.mul{N:Int}(a:Sz D M u)(b:Sz E N y):Sz (D*E) (M*N) (u*y):=⟨by rw[<-xQ];exact a.f.times b.f⟩
theorem Sz.int(h:(E.natAbs:Int)<=M):Sz D M (E:Rat):=by
 refine⟨by show 0<1;decide,by show F1 E 1=1;simp,by show 1∣D;simp,?_⟩;show E.natAbs<=M*1;simp[*]
theorem Sz.zero(h:0<=M):Sz D M 0:=Sz.int (by simpa using h)
theorem RO.neg(h:RO y):RO (-y):=⟨h.f.pos,by have:=h.f.low;rw[<-qW];rw[zY];exact this,by rw[<-qW];exact h.f.bt.neg,h.f.bb⟩
theorem MW(x y:Rat):yz (q2 x) (q2 y)=decide (x<y):=by rw[ml (S7 x) (S7 y),X6,X6]
theorem JE:RO 0:=⟨F0.mono (m:=2) ⟨by decide,by rfl,⟨by decide⟩,⟨by decide⟩⟩ f5⟩
theorem FK(h:0<y):q2 y⁻¹=((q2 y).2,(q2 y).1):=by
 have a:F1 y.den y.num=1:=by rw[Ac];exact y.reduced
 have:=ip (q:=(y.den,y.num)) (BF h) a;have e:val (y.den,y.num)=y⁻¹:=by
  have:=X6 y;have:val (q2 y)=y.num/((y.den:Int)):=rfl;show((y.den:Int))/y.num=y⁻¹;grind
 rw[e]at this;exact this.symm
theorem a2h(h:0<y)(a:RO y):RO y⁻¹:=by refine⟨?_⟩;rw[FK h];exact⟨(BF h),by rw[Ac];exact a.f.low,a.f.bb,a.f.bt⟩
theorem a0x{p:Q2}(a:F0 m p)(hq:F0 e q)(h:m+e<=59999):lO [fr p,fr q]=sd (.bool (yz p q)):=by have c:Bt 60000 p.1:=a.bt.mono (B7 rh f5);have b:Bt 60000 p.2:=a.bb.mono (B7 rh f5);have d:Bt 60000 q.1:=hq.bt.mono (B7 uR f5);have n:Bt 60000 q.2:=hq.bb.mono (B7 uR f5);delta lO;walk_at "r";simp only[D6,c,b,d,n];rfl
theorem nY(h:F0 m q):fr q=qd (val q):=by
 show fr q=fr (q2 _);rw[<-ip h.pos h.low]
theorem JC(a:RO u)(b:RO y):cJ [qd u,qd y]=sd (qd (u-y)):=by
 show cJ [fr (q2 u),fr (q2 y)]=_;rw[OV a.f b.f f5,Tf];rfl
theorem qY(a:RO u)(b:RO y):aL [qd u,qd y]=sd (qd (u*y)):=by
 show aL [fr (q2 u),fr (q2 y)]=_;rw[yF a.f b.f f5,xQ];rfl
theorem Za(a:RO u)(b:RO y):lO [qd u,qd y]=sd (.bool (decide (u<y))):=by
 show lO [fr (q2 u),fr (q2 y)]=_;rw[a0x a.f b.f f5,MW]
theorem a1T(g:RO u)(a:RO y)(h:0<y):Be [qd u,qd y]=sd (qd (u*y⁻¹)):=by
 have d:=BF h;have e:ah [.int y.den,.int y.num]=sd (qd y⁻¹):=by
  rw[ix (b:=y.num) L9 (Bt.mono a.f.bt f5)];have:=NJ (t:=y.den) d;rw[this];have:((y.den:Int))/y.num=y⁻¹:=by
   have c:=X6 y⁻¹
   rwa [FK h]at c
  rw[this];rfl
 delta Be;walk_at "r";rw[Pk];walk_at "r";rw[s9 (show ¬y.num=0 by exact L9)];walk_at "r";rw[a2I,Pk];walk_at "r";rw[e];walk_at "r";rw[qY g (a2h h a)];walk_at "r"
theorem dW(a:RO u)(b:RO y):Q4 [qd u,qd y]=sd (qd (u+y)):=by
 show Q4 [fr (q2 u),fr (q2 y)]=_;rw[a5A a.f b.f f5,Bw];rfl
theorem lz(a:RO u)(b:RO y):U1 [qd u,qd y]=sd (qd (u*y)):=by
 show U1 [fr (q2 u),fr (q2 y)]=_;rw[Zx a.f b.f f5,xQ];rfl
theorem wM(x:Rat):ag [qd x]=sd (qd (-x)):=by
 show U (PV.dat (fr (0-(q2 x).1,(q2 x).2)))=_;rw[Int.zero_sub,qW];rfl
def oO(κ f t:Rat):Rat:=if κ*f-t<0 then 0 else(κ*f-t)*κ⁻¹
def qX(κ f t:Rat):Rat:=if κ*f-t<0 then 0-(κ*f-t)else 0
theorem Jw(f t:Rat)(h:0<y):y*oO y f t-qX y f t=y*f-t:=by delta oO qX;split<;>grind
theorem Oj(k:F0 m d.kept)(p:0<val d.kept)(s:RO y)(q:RO u)(j:RO (val d.kept))(l:RO (val d.kept*y))(g:RO (val d.kept*y-u)):
  yt [eF d,qd y,qd u]=sd (.tuple [qd (oO (val d.kept) y u),qd (qX (val d.kept) y u)]):=by
 have i:K6 (eF d) (.int 4)=sd (qd (val d.kept)):=by
  show U _=_;rw[nY k]
 have r:=JC l q;have n:=Za g JE;delta oO qX;generalize val d.kept*y-u=a at *;refine K8 rfl (t6 (ds1:=[sd _,sd (qd y),sd (qd u),sd (qd a)]) (v7 (pv:=.dat (qd a)) ?_ rfl) ?_);show(((((K6 (eF d) (.int 4)).bind λx=>U [x.d,qd y]).bind aL).bind λx=>U [x.d,qd u]).bind cJ)=_;rw[i,A4];show((((aL [qd _,qd y]).bind λx=>U [x.d,qd u]).bind cJ))=_;rw[(qY j s),A4];exact r
 . have h:∀b,decide _=b->∀G,M0 (A9 (f7 lO _)) G F4 [sd _,sd (qd y),sd (qd u),sd (qd a)]=if b=Uf then G [sd _,sd (qd y),sd (qd u),sd (qd a)]else U _:=λb o G=>by have e:=E4 (Fa:=u7 3) (Fb:=fC N7) (ds:=[sd (eF d),sd (qd y),sd (qd u),sd (qd a)]) rfl rfl n;rw[o]at e;delta M0 A9;rw[e];rfl
   by_cases c:a<0;rw[r9 c,r9 c,D4,h Uf (cy c),r9 rfl];rw[Q1 (by delta v9 v8;rw[zP rfl (E4 rfl rfl (JC JE g))];rfl)];rfl;rw[s9 c,s9 c,D4,h U' (ay c),s9 dY];exact Q1 (by delta v9 v8;rw[zP (E4 rfl i (a1T g j p)) rfl];rfl)
structure Am(h:A7)(d:f9)(Y:List Key->Rat):Prop where
 v:∀k,k∈hB h->nq d k=U (U (qd (Y k)))
 n:∀k,k∉hB h->nq d k=U J
 o:∀k,k∉hB h->Y k=0
structure Dy where
 b:Rat
 g:Rat
 fi:Rat
 ta:Rat
 la:Rat
 wk:Nat->Rat
variable{b6:Nat->Dy}
def X1(w:Nat)(x:Dy):f9:=.tuple [qd x.b,qd x.g,qd x.fi,qd x.ta,qd x.la,.tuple (rl w λj=>qd (x.wk j))]
def au(h:A7)(Y:List Key->Rat)(t:Nat):Dy:=⟨Y (k2 "bought" t),Y (k2 "given" t),oO (val h.kept) (Y (k2 "filled" t)) (Y (k2 "taken" t)),qX (val h.kept) (Y (k2 "filled" t)) (Y (k2 "taken" t)),Y (k2 "lacked" t),λj=>Y (qc t j)⟩
section
variable{h:A7}{Y:List Key->Rat}
theorem Cb(d:Am h A Y)(f:G r=sd A)(e:H r=sd (W7 b4)):jE G H (fC N7) r=sd (qd (Y b4)):=by
 delta jE;rw[f,e];show((lJ _).bind λb4=>(nq A b4).bind λb=>U _)=_;rw[pj,A4];by_cases c:b4∈hB h;rw[d.v b4 c];rfl;rw[d.n b4 c,d.o b4 c];rfl
theorem FN(d:Am h A Y)(e:b4∈hB h)(f:G r=sd A)(c:H r=sd (W7 b4)):jV G H r=sd (qd (Y b4)):=by
 delta jV;rw[f,c];show((lJ _).bind λb4=>(nq A b4).bind λb=>b.bind λA=>U _)=_;rw[pj,A4,d.v b4 e];rfl
theorem Mf(a:m<h.n)(hs:o∈(["lacked","spilt","filled","taken","level"]:List Str)):k2 o m∈hB h:=by
 have:∃x∈Z4 h m,x.k=k2 o m:=by
  simp only[bu,kh,or_false]at hs;rcases hs with rfl|rfl|rfl|rfl|rfl
  exact⟨_,T1 _ (T1 _ F2),rfl⟩;exact⟨_,T1 _ (T1 _ (E7 _ F2)),rfl⟩;exact⟨_,N1 _ F2,rfl⟩;exact⟨_,N1 _ (E7 _ F2),rfl⟩;exact⟨_,N1 _ (E7 _ (E7 _ F2)),rfl⟩
 obtain⟨x,b,e⟩:=this;exact mem_map.mpr ⟨x,T1 _ (mem_flatMap.mpr ⟨m,mem_range.mpr a,b⟩),e⟩
theorem jg{Fc:DV}{x:PV}(c:G r=U x)(b:H r=U R)(a:Fc r=U z)(e:a8 [x.d,R.d,z.d]=K):f7 a8 (t4 G (t4 H (t4 Fc B1))) r=K:=by
 delta f7 t4
 rwa [c,A4,b,A4,a,A4]
theorem rG{x y:PV}(b:G r=U x)(a:H r=U y):v9 (t4 G (t4 H B1)) r=sd (.tuple [x.d,y.d]):=by delta v9;rw[zP b a];rfl
structure MF(h:A7)(Y:List Key->Rat)(t:Nat):Prop where
 f:RO (Y (k2 "filled" t))
 tk:RO (Y (k2 "taken" t))
 kf:RO (val h.kept*Y (k2 "filled" t))
 m:RO (val h.kept*Y (k2 "filled" t)-Y (k2 "taken" t))
theorem Oa(d:Am h A Y)(H:G4 h)(b:0<val h.kept)(ok:RO (val h.kept))(a:m<h.n)(O:MF h Y m)(r:l.length<1000)(o i c:Option PV):
  ∃p q g,md [sd (A8 h),sd A,U (.own l),sd (.int (m:Int)),o,i,c]=U (.next [sd (A8 h),sd A,U (.own (l++[X1 h.w (au h Y m)])),sd (.int (m:Int)),p,q,g]):=by
 have:=H.w2;refine⟨sd (.tuple [qd (Y (k2 "bought" m)),qd (Y (k2 "given" m))]),sd (.tuple [qd (au h Y m).fi,qd (au h Y m).ta]),sd (.list (rl h.w λj=>qd (Y (qc m j)))),t6 (v7 (rG (Cb d rfl (dU rfl)) (Cb d rfl (dU rfl))) rfl) (t6 (v7 (jg rfl (FN d (Mf a M8) rfl (dU rfl)) (FN d (Mf a M8) rfl (dU rfl)) (Oj H.k b O.f O.tk ok O.kf O.m)) rfl) (t6 (ds1:=[sd _,sd A,U _,sd _,sd (.tuple [qd (Y _),qd (Y _)]),sd (.tuple [qd (au h Y m).fi,qd (au h Y m).ta]),sd (.list (rl h.w λj=>qd (Y (qc m j))))]) (v7 (Z9 (items:=bA 0 h.w) ?_ (by rw[qU];exact nI) (tD λj _=>⟨_,Cb d rfl ?_,rfl⟩)) rfl) ?_))⟩;show G9 [.int _]=_;rw[F9,T8 t9,cA];show((lJ [.str "worked",.int m,.int (0+j)]).bind λk=>U _)=_;rw[O8];rfl
 . rw[oB];have e:u3 C8 (u3 C8 (u7 4) (u7 5)) (v9 (t4 (jV (u7 1) (Y5 (t4 (fC (.str "lacked")) (t4 (u7 3) B1)))) (t4 (f7 hU (t4 (u7 6) B1)) B1))) [sd (A8 h),sd A,U (.own l),sd _,sd (.tuple [qd (Y (k2 "bought" m)),qd (Y (k2 "given" m))]),sd (.tuple [qd (au h Y m).fi,qd (au h Y m).ta]),sd (.list (rl h.w λj=>qd (Y (qc m j))))]=sd _:=
    (B8 rfl (rG (FN d (Mf a M8) rfl (dU rfl)) rfl)).trans rfl
   rw[e,tG _ rfl (B7 u4 f5)];rfl
theorem YM(d:Am h A Y)(H:G4 h)(k:0<val h.kept)(ok:RO (val h.kept))(O:∀t,t<h.n->MF h Y t):qy [A8 h,A]=sd (.tuple (rl h.n λt=>X1 h.w (au h Y t))):=by
 have:=H.n4;refine K8 rfl (t6 rfl ?_);have u:∃f b c a,G0 (F3 G9 (t4 (f7 C7 (t4 (u3 K6 (u7 0) (fC (.int 0))) B1)) B1)) (D7 3) md [sd (A8 h),sd A,U (.own []),J,J,J,J]=U (.next [sd (A8 h),sd A,U (.own (rl h.n λt=>X1 h.w (au h Y t))),f,b,c,a]):=by
  have o:F3 G9 (t4 (f7 C7 (t4 (u3 K6 (u7 0) (fC (.int 0))) B1)) B1) [sd (A8 h),sd A,U (.own []),J,J,J,J]=U (bA 0 h.n):=by
   show G9 [.int _]=_;rw[F9,T8 t9,cA]
  delta G0;rw[o,A4];obtain⟨s,r,f,b,c,a,m⟩:=aI (gt:=D7 3) (ds:=[sd _,sd A,U (.own []),J,J,J,J])
   (λi g=>∃f b c a,g=[sd _,sd A,U (.own (rl i λt=>X1 h.w (au h Y t))),f,b,c,a]) ⟨J,J,J,J,rfl⟩ (by
    rintro i g j ⟨f,b,c,a,rfl⟩;obtain⟨q,p,v,e⟩:=Oa d H k ok j (O i j) (l:=rl i λt=>X1 h.w _) (by rw[E5];lia) b c a;rw[show(i:Int)=0+i from(O8 _).symm]at e
    refine⟨_,_,rfl,.inl e,sd (.int (0+i)),q,p,v,?_⟩;delta rl;rw[bL,W4];rfl)
  exact⟨f,b,c,a,by rw[r,m]⟩
 obtain⟨f,b,c,a,e⟩:=u;exact t6 e rfl
end
theorem vp{Fc:DV}{x y:PV}(b:G r=U x)(a:H r=U y)(c:Fc r=U z):t4 G (t4 H (t4 Fc B1)) r=U [x.d,y.d,z.d]:=by delta t4;rw[b,A4,a,A4,c,A4];rfl
theorem uB(a:e<=m):(2:Int)^e<=2^m:=by
 have:2^e<=2^m:=AM f5 a;have h:=Int.ofNat_le.mpr this
 rwa [Int.natCast_pow,Int.natCast_pow]at h
abbrev Zp(D:Int)(e:Nat)(x:Rat):Prop:=Sz D (2^e) x
theorem fB(hD:nj D)(h:Zp D e y)(he:e<=1900):RO y:=by
 have b:Bt 1901 (2^e):=⟨by
  exact mV (AM f5 he) (HN f5 (pR _))⟩
 exact⟨h.f.a2U hD.pos (hD.bt.mono f5) ((b.mul hD.bt).mono f5)⟩
theorem Wc(a:Zp D e y)(b:e<=m):Zp D m y:=a.mono (fq _) (uB b)
theorem Wo(a:e<N)(b:m<N):(2:Int)^e+2^m<=2^N:=by
 cases N with
 |zero=>exact absurd a (vK _)
 |succ N=>
  have:=uB (mS a);have:=uB (mS b);lia
theorem zpA{c:Nat}(a:Zp D e u)(b:Zp D m y)(p:e<c)(q:m<c):Zp D c (u+y):=(a.add b).mono (fq _) (Wo p q)
theorem zpS{c:Nat}(a:Zp D e u)(b:Zp D m y)(p:e<c)(q:m<c):Zp D c (u-y):=(a.sub b).mono (fq _) (Wo p q)
theorem IW{i:Int}(a : -1000000<=i/\i<=1000000)(b:20<=e):Zp D e (i:Rat):=(Sz.int (show(i.natAbs:Int)<=2^20 by have:2^20=1048576:=f5;omega)).mono (fq _) (uB b)
theorem Cw{i:Int}(a:Zp D e y)(b : -1000000<=i/\i<=1000000):Zp D (e+20) (y*(i:Rat)):=by
 have:=a.mul (IW (D:=1) b (V1 _))
 rwa [gs,<-Int.pow_add]at this
theorem IX:Zp D e 0:=Sz.zero (S9 (GB f5))
abbrev t3(f:Nat->Rat):f9:=.tuple [qd (f 0),qd (f 1),qd (f 2)]
abbrev R3(f:Nat->Rat):Prop:=∀i,i<3->RO (f i)
theorem EO(a:RO u)(b:RO y):kM [qd u,qd y]=sd (qd (u+y)):=by
 show kM [fr (q2 u),fr (q2 y)]=_;rw[WK a.f b.f f5,Bw];rfl
theorem VR{g:Nat->Rat}(a:R3 v)(b:R3 g):xj [t3 v,t3 g]=sd (t3 λi=>v i+g i):=by refine K8 rfl (Q1 ?_);delta v9 F8;rw[vp (E4 rfl rfl (EO (a 0 f5) (b 0 f5))) (E4 rfl rfl (EO (a 1 f5) (b 1 f5))) (E4 rfl rfl (EO (a 2 f5) (b 2 f5)))];rfl
theorem JL(a:R3 v)(b:RO y):kN [t3 v,qd y]=sd (t3 λi=>v i*y):=by refine K8 rfl (Q1 ?_);delta v9 F8;rw[vp (E4 rfl rfl (qY (a 0 f5) b)) (E4 rfl rfl (qY (a 1 f5) b)) (E4 rfl rfl (qY (a 2 f5) b))];rfl
def fD(n:Nat)(X:Nat->Nat->Rat)(k c:Nat):Rat:=v5 (λq=>X (n+(n-1-q)) c*(-1)) k
theorem WA(P:∀p,p<hM d->∀i,i<3->Zp D 1000 (X p i)):∀k,k<=d.n->∀i,i<3->Zp D (1001+k) (fD d.n X k i):=by
 intro k;induction k with
 |zero=>intro _ i _;exact IX
 |succ k ih=>
  intro a i b;have n1:d.n+(d.n-1-k)<hM d:=by show d.hs.length+(d.hs.length-1-k)<2*d.hs.length+d.ws.length;have:k+1<=d.hs.length:=a;omega
  have e:X (d.n+(d.n-1-k)) i*(-1)=0-X (d.n+(d.n-1-k)) i:=by grind
  show Zp D _ (fD d.n X k i+X _ i*(-1));rw[e];exact zpA (ih (br a) i b) (zpS (IX (e:=1000)) (P _ n1 i b) (c:=1001) (by simp_all) (by simp_all)) (by simp_all) (by simp_all)
theorem ND(a:e+N<=m):((rl m d5).drop e).take N=rl N λs=>d5 (e+s):=by
 apply Hx;intro i;rw[QS,List.getElem?_drop,M9,M9];by_cases c:i<N;rw[r9 c,gQ (by lia),gQ c];rfl;rw[s9 c,oa (by simp;simp_all)];rfl
theorem NC:(rl m d5).reverse=rl m λi=>d5 (m-1-i):=by
 apply Hx;intro i;by_cases c:i<m;rw[Rn (by rw[E5];exact c),E5,M9,M9,gQ (by omega),gQ c];rfl;rw[oa (by rw[AK,E5];simp_all),oa (by rw[E5];simp_all)]
theorem aa{x:PV}(ha:G r=U x)(e:a8 [x.d]=K):f7 a8 (t4 G B1) r=K:=by
 delta f7 t4
 rwa [ha,A4]
abbrev W8(h:A7)(X:Nat->Nat->Rat)(t:Nat):Nat->Rat:=λi=>X t i*cF (h.hr t)
abbrev uM(h:A7)(X:Nat->Nat->Rat)(l:List f9)(a b c:Option PV):Ds:=[sd (A8 h),sd (.list (rl (hM h) λp=>t3 (X p))),sd (.int h.n),a,U (.own l),b,c]
theorem NY(hD:nj D)(H:G4 d)(P:∀p,p<hM d->∀i,i<3->Zp D 1000 (X p i)):iL [A8 d,.list (rl (hM d) λp=>t3 (X p))] =
  sd (.tuple [.tuple (rl d.n λt=>t3 (W8 d X t)),.tuple (rl d.n λt=>t3 (fD d.n X (d.n-t))),.tuple (rl d.w λj=>t3 (X (2*d.n+j)))]):=by
 have n4:d.n<=24:=H.n4;have w2:d.w<=2:=H.w2;have hm:hM d=2*d.n+d.w:=rfl;have R:∀p,p<hM d->R3 (X p):=λp a i b=>fB hD (P p a i b) f5
 have sg:∀x:Hr,RO (cF x):=λx=>by
  unfold cF;split;exact(IW (D:=D) (e:=20) (i:=1) f5 f5|>λz=>fB hD z f5);exact(IW (D:=D) (e:=20) (i:=-1) f5 f5|>λz=>fB hD z f5)
 have m1:RO (-1):=fB hD (IW (D:=D) (e:=20) (i:=-1) f5 f5) f5;have B:aG (.int 2) (.int d.n)=sd (.int (2*d.n)):=D6 Bt.lit (Bt.qR (vT _) (by lia))
 have o:∀l a b c,fQ (D5 K5 C3) (uM d X l a b c)=U (U (2*(d.n:Int))):=λl a b c=>by
  delta fQ;rw[show D5 K5 C3 (uM d X l a b c)=sd (.int (2*d.n))from(B8 (x:=.dat (.int 2)) (y:=.dat (.int d.n)) rfl rfl).trans B];rfl
 have two:((2*d.n:Nat):Int)=2*(d.n:Int):=by simp
 have c1:cutD (rl (hM d) λp=>t3 (X p)) (U (d.n:Int)) (U (2*(d.n:Int)))=rl d.n λs=>t3 (X (d.n+s)):=by
  delta cutD;rw[<-two,HT.Bq,HT.Bq,E5,GZ (by simp_all),GZ (by lia),show 2*d.n-d.n=d.n by omega];exact ND (by lia)
 have c2:cutD (rl (hM d) λp=>t3 (X p)) (U (2*(d.n:Int))) J=rl d.w λj=>t3 (X (2*d.n+j)):=by
  delta cutD;rw[<-two,HT.Bq,HT.SS,E5,GZ (by simp_all),show hM d-2*d.n=d.w by omega];exact ND (by simp_all)
 have z:GK (λx y=>fV [x,y]) (d.hs.map D2) (rl (hM d) λp=>t3 (X p))=rl d.n λt=>.tuple [D2 (d.hr t),t3 (X t)]:=by
  apply Hx;intro i;rw[Rp,M9,M9,M9];by_cases c:i<d.n;rw[gQ (by lia),gQ c,L6 c];show U (fV [D2 (d.hs[i]),t3 (X i)])=U (fV [D2 (d.hs.getD i O5),t3 (X i)]);rw[lX,L6 c];rfl;rw[show d.hs[i]?=J from oa (kC c),show(D3 d.n)[i]?=J from oa (by simp;simp_all)];rfl
 let V:Ds:=[sd (A8 d),sd (.list (rl (hM d) λp=>t3 (X p))),sd (.int d.n),J,J,J,J]
 have cm:Q8 (U4 2) C5 nC V (rl d.n λt=>.tuple [D2 (d.hr t),t3 (X t)])=U (rl d.n λt=>t3 (W8 d X t)):=M6 λt a=>by
  refine⟨[D2 (d.hr t),t3 (X t)],.dat (t3 (W8 d X t)),rfl,?_,rfl⟩;refine E4 (x:=.dat (t3 (X t))) (y:=.dat (qd (cF (d.hr t)))) rfl (aa rfl ?_) (JL (R t (by lia)) (sg _));rw[show(PV.dat (D2 (d.hr t))).d=D2 (d.hr t)from rfl,rq,<-ja,nY (m:=1) (by delta T6;split<;>exact⟨by decide,by rfl,⟨by decide⟩,⟨by decide⟩⟩)]
 let Uff:=sd (.list (rl d.n λt=>t3 (W8 d X t)))
 obtain⟨s,f,g,rfl⟩:=dG (gt:=D7 6) (G:=nG) (items:=(rl d.n λs=>t3 (X (d.n+s))).reverse) (ds:=uM d X [] Uff (sd (t3 (fD d.n X 0))) J)
  (λi s=>∃g,s=uM d X (rl i λk=>t3 (fD d.n X (k+1))) Uff (sd (t3 (fD d.n X i))) g) ⟨J,rfl⟩ (by
   rintro i h s l ⟨g,rfl⟩;rw[NC]at l;obtain⟨a,rfl⟩:=uI l;have q:d.n+(d.n-1-i)<hM d:=by omega
   let Jff:=t3 (fD d.n X (i+1))
   have e:xj [t3 _,t3 λj=>X _ j*(-1)]=sd Jff:=VR ((λk e j c=>fB hD (WA P k e j c) (by lia)) i (br a)) λj c=>by
    have u:=P _ q j c;rw[show X _ j*(-1)=0-X (d.n+(d.n-1-i)) j by grind];exact fB hD (zpS (IX (e:=1000)) u (c:=1001) (by simp_all) (by simp_all)) (by simp_all)
   let Y:=t3 (X (d.n+(d.n-1-i)))
   refine⟨uM d X _ Uff _ (sd Y),uM d X _ Uff (sd Jff) (sd Y),rfl,.inl (t6 (v7 (E4 rfl (E4 (y:=.dat (qd (-1))) rfl rfl (JL (R _ q) m1)) e) rfl) ?_),_,rfl⟩;rw[oB,<-Jp];exact tG _ rfl (by rw[E5];lia))
 rw[AK,E5]at f;refine K8 rfl ?_;refine t6 (ds1:=V) (v7 (pv:=.dat (.int d.n)) (by
  show C7 [.tuple _]=_
  delta C7 d1;simp) rfl) ?_
 refine t6 (v7 (by
  delta D0;rw[show F3 eu _ V=U _ from rfl,z,A4,r9 (by rw[E5];exact B7 u4 f5),cm]
  rfl) rfl) ?_
 refine t6 rfl (t6 (ds1:=uM d X [] Uff (sd (t3 (fD d.n X 0))) J) rfl ?_)
 let Z:=sd (t3 (fD d.n X d.n))
 refine t6 (ds1:=uM d X (rl d.n λk=>t3 (fD d.n X (k+1))) Uff Z g) ?_ ?_
 . delta G0
   let K:=uM d X [] Uff (sd (t3 (fD d.n X 0))) J
   rw[show F3 Bs _ K=U (rl d.n λs=>t3 (X _)).reverse from by
    have u:ua CG A2 (fQ C3) (fQ (D5 K5 C3)) K=U (.own (rl d.n λs=>t3 (X (d.n+s)))):=by delta ua;rw[o,<-c1];rfl
    delta F3 B2 t4;rw[u];rfl,A4]
   exact f
 refine t6 (by
  show U (Out.next (uM d X (rl d.n λk=>t3 _).reverse _ _ _))=_
  rw[NC,T9 λi a=>by rw[show d.n-1-i+1=d.n-i by omega]]) ?_
 refine Q1 ?_
 let W:=hC (uM d X (rl d.n λt=>t3 (fD d.n X (d.n-t))) Uff Z g)
 have F:ua CG A2 (fQ (D5 K5 C3)) wG W=U (.own (rl d.w λj=>t3 (X (2*d.n+j)))):=by
  have o':fQ (D5 K5 C3) W=U (U (2*(d.n:Int))):=by
   delta fQ;rw[show D5 K5 C3 _=sd _ from(B8 (x:=.dat (.int 2)) (y:=.dat (.int d.n)) rfl rfl).trans B];rfl
  delta ua;rw[o',<-c2];rfl
 delta cG v9 F8;rw[vp rfl rfl (aa F rfl)];rfl
section
variable{T:Sx.Tb}
theorem a2o(H:I0 f D E M)(G:kH f m)(K:Sx.Ok f.pb T)(a:e<f.n):0<=val (dF f T e):=by
 rcases sP K a with ⟨k,d,rfl,b,F⟩|⟨I,⟨b,q,hq,F⟩|⟨b,F⟩⟩
 have p:=M3 K.J6.pos H.un.1;rw[F,gH p,GC];exact Ak (by exact_mod_cast iJ (K.lo k d) (S9 (H.sc a).1)) (pH (Rat.inv_pos.mpr (Q3 p)));rw[F];exact(oT (H.tp e q a hq).1.pos).mp (G.t0 e q a hq);rw[F,N8];rfl
theorem Zu(H:I0 f D E M)(G:kH f m)(K:Sx.Ok f.pb T)(a:e<f.n)(hq:f.tp e=U q):val (dF f T e)<=val q:=by
 have:=BM H K a;have:=(wo H a hq).1;have:=(oT (H.tp e q a hq).1.pos).mp (G.t0 e q a hq);obtain⟨v,j,o⟩:=(wo H a hq).2;refine Rat.not_lt.mp λlt=>?_
 rcases sP K a with ⟨k,h,g,I,c⟩|⟨F,⟨I,l,b,c⟩|⟨I,c⟩⟩
 . have:yv f.pb T e=T.am f.pb k:=by delta yv;rw[s9 (by rw[I];decide),<-g,By K.J6 _ h,O8]
   have d:((T.am f.pb k):Rat)<=v*T.size:=by exact_mod_cast (K.hi k v h (by rw[g];exact j))
   have:=RN lt (fo (Q3 K.J6.pos) (Q3 H.un.1));have:=RR d (pH (Q3 (H.sc a).1));have:(f.sc e)*(v*T.size)=val q*(T.size*f.un):=by grind
   grind
 . simp_all
 rw[c,N8]at lt;grind
end
open Classical in
def yK(h:A7)(T:Sx.Tb)(k:List Key):Rat:=if k∈hB h then val (dF (A5 h) T (nJ h k))else 0
section
variable{T:Sx.Tb}
theorem OU(H:G4 d)(K:Sx.Ok (A5 d).pb T)(f:m<(B5 d).length):F0 990 (dF (A5 d) T m)/\(dF (A5 d) T m).2∣T.size*(A5 d).un:=by
 have O:=gi H;obtain⟨l,s⟩:=vc H;obtain⟨r,p,_⟩:=rz H K;have:=gO l O.un.2.1;have j:=O.sc f;have:=gO l j.2.1;have g:=M3 K.J6.pos O.un.1;rcases sP K f with ⟨k,o,rfl,i,e⟩|⟨t,⟨i,q,hq,e⟩|⟨i,e⟩⟩
 rw[e];refine⟨je g (((p k o).mul (n:=8) (xf (b:=225) ⟨by decide⟩ t9 (W3 u4 u4))).mono f5) ((r.mul (n:=8) (xf (b:=225) ⟨by decide⟩ (by have:=O.un.1;lia) (W3 u4 u4))).mono f5),(aj g).2.2.2⟩;obtain⟨a,b,c,h⟩:=yD H f hq;rw[e,a];exact⟨h.mono f5,⟨_,(bq _).symm⟩⟩;rw[e];exact⟨Kc f5,⟨_,(bq _).symm⟩⟩
theorem KD(a:b5∈B5 d):yK d T b5.k=val (dF (A5 d) T (nJ d b5.k)):=by delta yK;rw[r9 (mem_map.mpr ⟨b5,a,rfl⟩)]
theorem Wj(a:m<(B5 d).length):yK d T (dS d m).k=val (dF (A5 d) T m):=by rw[KD (lH a),Pg a]
theorem qa(a:b4∉hB d):yK d T b4=0:=by delta yK;rw[s9 a]
theorem a0h(H:G4 d)(K:Sx.Ok (A5 d).pb T)(c:b5∈B5 d):0<=yK d T b5.k/\∀q,b5.t=U q->yK d T b5.k<=val q:=by obtain⟨a,b⟩:=vm c;rw[KD c];exact⟨a2o (gi H) (zm H) K a,λq hq=>Zu (gi H) (zm H) K a (by show(dS d _).t=_;rw[b];exact hq)⟩
open Classical in
theorem FY(f:Nat->f9)(k:List Key):∀(ks:List (List Key)) (b:Nat),ks.Nodup->((ks.zip ((List.range' b ks.length).map f)).find? λp=>decide (p.1=k)).map (·.2)=if k∈ks then U (f (b+ks.findIdx λa=>decide (a=k)))else J
 | [],_,_=>(s9 F5).symm
 |a::ks,b,hn=>by
  rw[Y7,QF,E8,lW,Qw,List.findIdx_cons];by_cases e:a=k;subst e;simp
  . simp only[ay e,bu];rw[(FY f k ks _ (List.nodup_cons.mp hn).2)];by_cases c:k∈ks
    . rw[r9 c,r9 (.inr c)];congr 2;exact HH _ _ _
    rw[s9 c,s9 (λz=>z.elim (λz=>e z.symm) c)]
open Classical in
theorem ZZ(H:G4 d)(K:Sx.Ok (A5 d).pb T):Am d (Cm (hB d) (rl (B5 d).length λj=>fr (dF (A5 d) T j))) (yK d T):=by
 have c:(hB d).length=(B5 d).length:=(F9 ..);have b:∀k,nq (Cm _ _) k=U (if k∈hB d then U (fr (dF _ T (nJ d k)))else J):=λk=>by
  show((vn _).bind λh=>U _)=_;rw[zL,A4];have:=FY (λj=>fr (dF (A5 d) T j)) k _ 0 (ql d);rw[rQ,<-Rg,c]at this;exact C2 U this
 refine⟨λk a=>?_,λk a=>?_,λk a=>qa a⟩;rw[b,r9 a];delta yK;rw[r9 a,nY (OU H K (FH a).1).1];rw[b,s9 a]
end
theorem Kz{b:Type}{g:b->f9}(a:∀x,LF (g x)=Uf):∀l:List b,mF (l.map g)=Uf
 | []=>by simp[mF]
 |x::l=>by simp[mF,a x,Kz a l]
theorem zM:∀ks:List (List Key),mD (ks.map W7)=U ks
 | []=>rfl
 |k::ks=>by
  show((lJ _).bind λk=>(mD _).bind λks=>U _)=_;rw[pj,zM ks];rfl
theorem Mo(H:G4 d):∀k∈az d,k∈hB d:=λk c=>by
 obtain⟨i,a,rfl⟩:=List.mem_iff_getElem.mp c;have:(az d).length=hM d:=by delta az hM;simp;lia
 obtain⟨x,b,e,_⟩:=yh H (QW u4 u4);rw[lX,L6 a]at e;exact mem_map.mpr ⟨x,b,e⟩
theorem VN{Fc f Fe:DV}{c d e:PV}(l:G r=U z)(i:H r=U R)(k:Fc r=U c)(hd:f r=U d)(h:Fe r=U e)(j:a8 [z.d,R.d,c.d,d.d,e.d]=K):f7 a8 (t4 G (t4 H (t4 Fc (t4 f (t4 Fe B1))))) r=K:=by
 delta f7 t4
 rwa [l,A4,i,A4,k,A4,hd,A4,h,A4]
theorem a4j(m n:Nat)(M:Nat->Nat->f9):(jd m n M).d=.list (rl m λp=>.list (rl n (M p))):=by
 show mN _=_;delta oU rl;rw[fw,fw];rfl
def bW(h:A7)(T:Sx.Tb)(p i:Nat):Rat:=val (Q0 (X8 (A5 h).M7 T p) i)
abbrev oy(h:A7)(X:Nat->Nat->Rat):f9:=.tuple [.tuple (rl h.n λt=>t3 (W8 h X t)),.tuple (rl h.n λt=>t3 (fD h.n X (h.n-t))),.tuple (rl h.w λj=>t3 (X (2*h.n+j)))]
abbrev dP(h:A7)(T:Sx.Tb):Int:=h.left.2*(h.kept.2*T.size)
theorem zF(H:G4 d)(K:Sx.Ok (A5 d).pb b8):nj (dP d b8):=⟨M3 H.l.pos (M3 H.k.pos K.J6.pos),(H.l.bb.mul (H.k.bb.mul (rz H K).1)).mono f5⟩
theorem Lj(H:G4 d)(K:Sx.Ok (A5 d).pb b8){i:Nat}(a:m<hM d)(b:i<3):Zp (dP d b8) 1000 (bW d b8 m i)/\F0 960 (Q0 (X8 (A5 d).M7 b8 m) i):=by
 have O:=gi H;obtain⟨W,_,z4⟩:=rz H K;have mu:∀t,t<3->(A5 d).mu t=1:=λt q=>by
  have:=gO f5 (O.mu q).2.1;have:=(O.mu q).1;lia
 have one:∀t,t<3->F0 960 (G7 _ (b8.size*(A5 d).mu t))/\(G7 (b8.pr t m) (b8.size*(A5 d).mu t)).2∣dP d b8:=λt q=>by rw[mu t q,gs];exact⟨je K.J6.pos ((z4 t m q a).mono f5) (W.mono f5),gy (aj K.J6.pos).2.2.2 ⟨d.left.2*d.kept.2,by show d.left.2*(d.kept.2*b8.size)=_;rw[<-O0,K7]⟩⟩
 have e:∀t,t<3->Q0 (X8 (A5 d).M7 b8 m) t=G7 (b8.pr t m) (b8.size*(A5 d).mu t):=λt q=>by rcases(tW u4)with rfl|rfl|rfl<;>rfl
 obtain⟨f,g⟩:=one i b;unfold bW;rw[e i b];exact⟨⟨by rw[<-(ip f.pos f.low)];exact(Xc f g).mono (fq _) (uB (by decide))⟩,f⟩
theorem a3X(H:G4 d)(K:Sx.Ok (A5 d).pb b8)(a:m<hM d):oF (X8 (A5 d).M7 b8 m)=t3 (bW d b8 m):=by
 have e:=λi b=>nY (Lj H K a (i:=i) b).2;show fV [fr _,fr _,fr _]=_;rw[show(X8 (A5 d).M7 b8 m).a=Q0 _ 0 from rfl,show(X8 (A5 d).M7 b8 m).b=Q0 _ 1 from rfl,show(X8 (A5 d).M7 b8 m).c=Q0 _ 2 from rfl,e 0 f5,e 1 f5,e 2 f5];rfl
theorem ZV(H:G4 d):∃T,Sx.Ok (A5 d).pb T/\(∀j,j<(A5 d).n->¬Sx.S0 (A5 d).pb T j) /\
  ((∀t,t<d.n->MF d (yK d T) t)->RO (val d.kept)->0<val d.kept->iO [A8 d]=sd (.tuple [.tuple (rl d.n λt=>X1 d.w (au d (yK d T) t)),oy d (bW d T)])):=by
 have O:=gi H;have:=H.n4;have:=H.w2;have:(B5 d).length<=1000:=O.n1;have hl:(hB d).length=(B5 d).length:=(F9 ..);have r:(M5 d).length=hM d:=by delta M5 hM;simp;lia
 have l:(az d).length=hM d:=by delta az hM;simp;lia
 obtain⟨sd,es,R⟩:=Nr O (zm H);have best:∃T,Sx.Ok (A5 d).pb T/\(∀j,j<(A5 d).n->¬Sx.S0 (A5 d).pb T j)/\sd=.tuple [.str "best",.list (rl (B5 d).length λj=>fr (dF (A5 d) T j)),.list (rl (hM d) λp=>oF (X8 (A5 d).M7 T p))]:=by
  cases R with
  |best K ne=>exact⟨_,K,ne,rfl⟩
  |endless K Y e=>exact(IJ O K Y e λj A Z=>((tE H _ (lH A)).fr Z).1).elim
 obtain⟨T,K,ne,rfl⟩:=best;have N:iL [A8 d,.list (rl (hM d) λp=>oF (X8 (A5 d).M7 T p))]=.some (.dat (oy d (bW d T))):=by
  rw[T9 λp a=>a3X H K a];exact NY (zF H K) H λp a i b=>(Lj H K a b).1
 refine⟨T,K,ne,λpk ok k0=>?_⟩;have ap:=YM (ZZ H K) H k0 ok pk;have v:=Mx d H.s;have E:=NG d H.s;have C:=UM d H.s;have G:((B5 d).map λx=>oF x.c)=rl (B5 d).length λj=>oF _:=ri _ zI _;have z:((B5 d).map λx=>bz x.t)=rl (B5 d).length λj=>bz _:=ri _ zI _
 have D:((M5 d).map fr)=rl (hM d) λp=>fr ((A5 d).rg p):=by rw[<-r];exact ri fr q0 _
 have I:((az d).map λk=>cW (nJ d k))=rl (hM d) λk=>.int ((A5 d).fs k):=by rw[<-l];exact ri _ [] _
 have u:(jd (hM d) (B5 d).length (allM (B5 d) (B5 d).length)).d=(A5 d).bf:=by
  rw[a4j];refine C2 mN (AI λp _=>C2 mN (AI λj A=>?_));rw[a0b,r9 (mem_range.mp A)];exact Zo p _ q0
 generalize A8 d=m at *;refine K8 rfl ?_;have o:∀g:Ch->f9,∀F:DV,(∀x i,F (sd (Y1 x)::i)=sd (g x))->∀i:Ds,i[1]?=U (sd (.list _))->D0 (N2 (u7 1)) C6 C5 F i=U (.own ((B5 d).map g)):=λg F V i h1=>by
  refine Z9 ?_ (by rw[F9];lia) (comp_map λx _=>⟨_,V x _,rfl⟩);delta N2 u7;rw[h1];rfl
 refine t6 (v7 v rfl) (t6 (ds1:=[sd m,sd _,sd (.list ((hB d).map W7)),J,J,J,J,J]) (v7 (o _ _ (λx i=>rfl) _ rfl) (by rw[fw];rfl)) (t6 (ds1:=[sd m,sd _,sd _,U _,J,J,J,J]) (v7 (o _ _ (λx i=>rfl) _ rfl) (by rw[G];rfl)) (t6 (ds1:=[sd m,sd _,sd _,U _,U _,J,J,J]) (v7 (o _ _ (λx i=>rfl) _ rfl) (by rw[z];rfl)) (t6 (ds1:=[sd m,sd _,sd _,U _,U _,U _,J,J]) (v7 E (by rw[D];rfl)) ?_))))
 let Uff:=[sd m,sd (.list ((B5 d).map Y1)),sd (.list ((hB d).map W7)),U (.dat (A5 d).L4),U (.dat (A5 d).P8),U (.dat (A5 d).K4),U (.dat (A5 d).Y0),J]
 refine t6 (ds1:=Uff) (v7 (pv:=.own ((az d).map λk=>.int _)) (Z9 (items:=(az d).map W7) ?_ (by rw[F9,l];show 2*d.n+d.w<=_;lia) (comp_map λk hk=>⟨.dat (.int _),?_,rfl⟩)) (by rw[I];rfl)) ?_;show((fI [m]).bind λx=>nU x.d)=_;rw[C];rfl;show lB (.list _) [W7 k]=sd _;obtain⟨a,b⟩:=FH (Mo H k hk);refine Pq (ZD d) t9 ?_ (ql d);rw[M9,L6 a,<-vk a];exact C2 U b
 . have S:f7 C7 (t4 (u7 5) B1) Uff=sd (.int ((hM d))):=by
     show C7 [(A5 d).K4]=_;delta C7 d1;simp only[E5];rfl
   refine t6 (v7 (pv:=.dat (.tuple [.str "best",.list (rl (B5 d).length λj=>fr (dF (A5 d) T j)),.list (rl (hM d) λp=>oF (X8 (A5 d).M7 T p))])) ?_ rfl) ?_
   . refine VN rfl (E4 rfl S (Yj (by show 2*d.n+d.w<=_;lia) (B7 u4 f5) λx L e Q=>((tE H x L).ns e Q).1)) rfl rfl rfl ?_
     rwa [u]
   refine Q1 (rG (x:=.dat _) (y:=.dat (oy d _)) (E4 (y:=.dat (Cm _ _)) rfl ?_ ap) (E4 rfl rfl N));show((mD _).bind λB=>if B.Nodup/\(rl (B5 d).length λj=>fr _).length=B.length/\mF _=Uf then U _ else J)=_;rw[zM,A4,r9 ⟨ql d,by rw[E5,hl],Kz (λ_=>rfl) _⟩]
abbrev cB:Int:=2^60
structure MJ(h:A7)(D:Int)(x:Dy):Prop where
 b:Sz D (2^39) x.b
 g:Sz D (2^39) x.g
 fi:RO x.fi
 kf:RO (val h.kept*x.fi)
 ta:RO x.ta
 lv:Sz D cB (val h.kept*x.fi-x.ta)
 la:Sz D cB x.la
 wk:∀j,j<h.ws.length->Sz D cB (x.wk j)
theorem eD{D:Int}{f:Nat->Rat}:∀n,(∀i,i<n->Sz D cB (f i))->Sz D (cB*n) (v5 f n)
 | 0,_=>Sz.zero f5
 |n+1,hf=>by
  have:=Sz.add (eD n λi a=>hf i fF) (hf n C4);exact this
def nu(h:A7)(j:Nat):Rat:=((h.ws.getD j P6).L5:Rat)
def Fw(X:Nat->Dy)(t:Nat):Rat:=v5 (λi=>(X i).la) t
def jH(h:A7)(X:Nat->Dy)(t:Nat):Rat:=v5 (nu h) h.ws.length-v5 (λi=>v5 (X i).wk h.ws.length) t
noncomputable def qi(h:A7)(X:Nat->Dy)(t:Nat):Rat:=v5 (λi=>(eM (h.hs.getD i O5):Rat)*(X i).b+((0-fc (h.hs.getD i O5):Int):Rat)*(X i).g) t
def X9(h:A7)(X:Nat->Dy)(t:Nat):Rat:=(h.start:Rat)+v5 (λi=>val h.kept*(X i).fi-(X i).ta) t
noncomputable abbrev cS(a p:f9)(l u q v:Rat)(y6 y7 y8 y9 y10:Option PV):Ds:=[U (.dat a),U (.dat p),U (.dat (qd l)),U (.dat (qd u)),U (.dat (qd q)),U (.dat (qd v)),y6,y7,y8,y9,y10]
theorem cE(hD:nj D)(h:Sz D (cB*m) y)(a:m<=1000):RO y:=h.ok hD (W3 (fX (show(m:Int)<=1000 by lia) f5) f5)
theorem eZ(h:Sz D cB y):Sz D (cB*(1:Nat)) y:=by assumption
theorem aV{n:Int}(a : -1000000<=n)(b:n<=1000000):Sz D (2^20) (n:Rat):=Sz.int t9
theorem U3(h:Sz D M y)(hM:M<=cB):Sz D cB y:=h.mono (fq _) hM
theorem Sk(hD:nj D)(A:m<=2)(s:∀j,j<m->Sz D cB (v j))(x:Sz D (cB*(50:Nat)) u)(a p:f9)(l q g:Rat)(h w f k c:Option PV):
  ∃b,V6 (D7 10) mf (rl m λj=>qd (v j)) (cS a p l u q g h w f k c)=U (.next (cS a p l (u-v5 v m) q g h w f k b)):=by
 obtain⟨z,t,b,e⟩:=dG (gt:=D7 10) (G:=mf)
  (λi o=>∃b,o=cS a p l (u-v5 v i) q g h w f k b) ⟨c,by rw[show u-v5 v 0=u by show u-0=u;grind]⟩ (by
   rintro i d o n ⟨b,rfl⟩;have r:i<m:=by
    have:=(List.getElem?_eq_some_iff.mp n).1
    rwa [E5]at this
   have y:d=qd (v i):=by rw[M9,gQ r]at n;exact(W5 n).symm
   subst y;refine⟨_,_,rfl,.inl (v7 (E4 rfl (wM (v i)) (dW (cE hD (by have:=x.sub (eD i λj B=>s j (ky u4 u4));rw[<-dX]at this;exact this) t9) (cE hD (eZ (s i r)) f5).neg)) rfl),sd (qd (v i)),?_⟩;show _=cS a p l (u-(v5 v i+v i)) q g h w f k _;rw[show u-(v5 v i+v i)=u-v5 v i + - v i by grind]
   rfl)
 rw[E5]at e;exact⟨b,by rw[t,e]⟩
noncomputable def tX(x:Hr):f9:=match x.line with
 |none=>.tuple [.int 0,.int 0,.int 0,.int 0]
 |some (a,b,c,d)=>.tuple [.int a,.int b,.int c,.int d]
theorem BP(x:Hr):lQ [D2 x]=sd (tX x)/\K6 (tX x) (.int 0)=sd (.int (eM x))/\K6 (tX x) (.int 2)=sd (.int (fc x)):=by
 obtain⟨s,n,l⟩:=x;cases l with
 |none=>exact⟨rfl,rfl,rfl⟩
 |some l=>exact⟨rfl,rfl,rfl⟩
theorem Fs(H:G4 d)(f:m<d.n):(-1000000<=eM (d.hr m)/\eM (d.hr m)<=1000000)/\-1000000<=fc (d.hr m)/\fc (d.hr m)<=1000000:=by
 delta eM fc;cases e:(d.hr m).line with
 |none=>decide
 |some l=>
  obtain⟨a,b,c,h⟩:=l;have:=H.ln m a b c h f e;exact⟨this.1,this.2.2.1⟩
theorem MX(H:G4 d)(P:∀m,m<d.n->MJ d D (b6 m))(g:m<=d.n):Sz D (cB*(50:Nat)) (jH d b6 m):=by
 have:=H.n4;have:=H.w2;have f:∀i,i<d.n->Sz D (cB*2) _:=λi b=>(eD d.w λj a=>(P i b).wk j a).mono (fq _) (fX t9 f5);have h:Sz D _ (v5 (nu d) d.w):=eD _ λj a=>U3 (aV (by have:=H.wk j a;lia) (by have:=H.wk j a;simp only[*];done)) f5
 have e:∀i,i<=m->Sz D (cB*(2*i)) (v5 _ i):=λi=>by
  induction i with
  |zero=>intro _;exact Sz.zero f5
  |succ i c=>
   intro b;have:=(c eI).add (f i (B7 u4 u4));rw[<-dX]at this;exact this.mono (fq _) (fX t9 f5)
 have:=h.sub (e m G8);rw[<-dX]at this;exact this.mono (fq _) (fX t9 f5)
theorem Qb(hD:nj D)(H:G4 d)(ok:RO (val d.kept))(P:∀m,m<d.n->MJ d D (b6 m))(f:m<d.n)(W:K6 A (.int (m:Int))=sd (X1 d.w (b6 m)))(h V E e:Option PV):
  ∃L Y c,qN (cS (A8 d) A (Fw b6 m) (jH d b6 m) (qi d b6 m) (X9 d b6 m) h (sd (.int (m:Int))) V E e)=U (.next (cS (A8 d) A (Fw b6 (m+1)) (jH d b6 (m+1)) (qi d b6 (m+1)) (X9 d b6 (m+1)) h (sd (.int (m:Int))) L Y c)):=by
 have:=H.n4;have Q:=P m f;obtain⟨⟨G,I⟩,z,F⟩:=Fs H f;obtain⟨S,O,B⟩:=BP (d.hr m);have q:Sz D cB ((eM (d.hr m))*(b6 m).b):=by have:=(aV (D:=1) (n:=eM (d.hr m)) bI (W3 u4 f5)).mul Q.b;rw[bq]at this;exact U3 this f5
 have v:Sz D cB (((0-fc (d.hr m):Int))*(b6 m).g):=by have:=(aV (D:=1) (n:=0-fc (d.hr m)) t9 t9).mul Q.g;rw[bq]at this;exact U3 this f5
 have u:∀i,i<=d.n->Sz D (cB*i) (qi d b6 i):=λi r=>eD i λk hk=>by
  obtain⟨⟨G,I⟩,z,F⟩:=Fs H (show k<d.n by exact B7 u4 u4);have K:=P k (B7 u4 u4);have a:=(aV (D:=1) (n:=eM (d.hr k)) bI (W3 u4 f5)).mul K.b;have o:=(aV (D:=1) (n:=0-fc (d.hr k)) t9 t9).mul K.g;rw[bq]at a o;exact U3 (a.add o) f5
 have C:Sz D (cB*(1+m)) (X9 d b6 m):=by
  have:=(eZ (U3 (aV (n:=d.start) (by have:=H.st;lia) (by have:=H.st;lia)) f5)).add (eD m λi r=>(P i (ky u4 u4)).lv);rw[<-dX]at this;exact this
 have M:jH d b6 (m+1)=jH d b6 m-v5 (b6 m).wk d.w:=by
  show v5 (nu d) d.w-(v5 (λi=>v5 (b6 i).wk d.w) m+v5 (b6 m).wk d.w)=_;delta jH;grind
 obtain⟨c,T⟩:=Sk hD H.w2 (λj hj=>Q.wk j hj) (MX H P (br f)) _ A _ _ _ h (sd _) (sd _) (sd _) e;refine⟨sd (X1 d.w (b6 m)),sd (tX (d.hr m)),c,?_⟩;rw[M,<-T];have R:RO (eM (d.hr m)):=cE hD (eZ (U3 (aV bI (W3 u4 f5)) f5)) f5;have Z:RO ((0-fc (d.hr m):Int)):=cE hD (eZ (U3 (aV t9 t9) f5)) f5;have s:∀{x:Rat},Sz D (2^39) x->RO x:=λl=>cE hD (eZ (U3 l f5)) f5;have a:∀{x:Rat},Sz D cB x->RO x:=λl=>cE hD (eZ l) f5;refine t6 (v7 W rfl) (t6 (v7 (pv:=.dat (tX (d.hr m))) ?_ rfl) ?_)
 . show(((K6 (.tuple _) (.int m)).bind λx=>U [x.d]).bind lQ)=_
   rwa [(rB d f)]
 refine t6 (v7 (E4 rfl rfl (dW (cE hD (eD m λi r=>(P i (ky u4 u4)).la) t9) (a Q.la))) rfl) ?_
 refine t6
  (v7 (E4 rfl (E4 (x:=.dat (qd _)) (rG (y:=.dat (.int 1)) (B8 (x:=.dat (tX _)) (y:=.dat (.int 0)) rfl rfl |>.trans O) rfl) rfl (lz R (s Q.b))) (dW (cE hD (u m eI) t9) (a q))) rfl) ?_
 refine t6
  (v7 (pv:=.dat (qd (qi d b6 (m+1)))) ?_ rfl) ?_
 . have N:qi d b6 (m+1)=qi d b6 m+(eM (d.hr m))*(b6 m).b+((0-fc (d.hr m):Int))*(b6 m).g:=by
     show qi d b6 m+((eM _)*(b6 m).b+((0-fc _:Int))*(b6 m).g)=_;rw[mO]
   rw[N];refine E4 rfl (E4 (x:=.dat (qd _)) (rG (x:=.dat (.int _)) (y:=.dat (.int 1)) (B8 (x:=.dat (.int 0)) rfl ((B8 (x:=.dat (tX _)) (y:=.dat (.int 2)) rfl rfl).trans B)) rfl) rfl (lz Z (s Q.g))) (dW (cE hD (by have:=(u m eI).add (eZ q);rw[<-dX]at this;exact this) t9) (a v))
 refine t6
  (v7 (pv:=.dat (qd (X9 d b6 (m+1)))) ?_ rfl) ?_
 . have X:X9 d b6 (m+1)=X9 d b6 m+(val d.kept*(b6 m).fi + - (b6 m).ta):=by
     show d.start+(v5 _ m+(val d.kept*(b6 m).fi-(b6 m).ta))=_;delta X9;grind
   rw[X];refine E4 rfl (E4 (x:=.dat (qd _)) (E4 rfl rfl ?_) (wM (b6 m).ta) (dW Q.kf Q.ta.neg)) (dW (cE hD C t9) ?_);show U1 [fr d.kept,qd (b6 m).fi]=_;rw[(nY H.k)];exact lz ok Q.fi;rw[<-QP];exact a Q.lv
 rfl
theorem Vx(hD:nj D)(H:G4 d)(ok:RO (val d.kept))(P:∀t,t<d.n->MJ d D (b6 t)):
  nc [A8 d,.tuple (rl d.n λt=>X1 d.w (b6 t))]=sd (.tuple [qd (Fw b6 d.n),qd (jH d b6 d.n),qd (qi d b6 d.n+((0-d.rest:Int):Rat)*X9 d b6 d.n)]) /\
   RO (Fw b6 d.n)/\RO (jH d b6 d.n)/\RO (qi d b6 d.n+((0-d.rest:Int):Rat)*X9 d b6 d.n):=by
 have:=H.n4;have:=H.w2;have:=H.re;have M:∀j,j<d.w->Sz D cB (nu d j):=λj l=>U3 (aV (by have:=H.wk j l;lia) (by have:=H.wk j l;simp only[*];done)) f5;generalize K:fV (rl d.n λt=>X1 d.w (b6 t))=p
 have v:∀t,t<d.n->K6 p (.int t)=sd (X1 d.w (b6 t)):=λt r=>by
  rw[<-K,rn,N4 (λt=>X1 d.w (b6 t)) r];rfl
 have T:X9 d b6 0=d.start:=by show(d.start:Rat)+0=_;grind
 obtain⟨m,S,a,E⟩:=dG (gt:=D7 6) (G:=qO)
  (λj e=>∃a,e=cS (A8 d) p 0 (v5 (nu d) j) 0 d.start a J J J J) ⟨J,rfl⟩ (by
   rintro j h e u ⟨a,rfl⟩;have l:j<d.w:=by
    have:=(List.getElem?_eq_some_iff.mp u).1
    rwa [F9]at this
   have V:h=P4 (d.wk j):=by rw[M9,Wl l]at u;exact(W5 u).symm
   subst V;exact⟨_,_,rfl,.inl (v7 (E4 (y:=.dat (qd _)) rfl rfl (dW (cE hD (eD j λi q=>M i (ky u4 u4)) t9) (cE hD (eZ (M j l)) f5))) rfl),sd _,rfl⟩)
 rw[F9]at E;obtain⟨W,h2,A,s,o,f,c,R⟩:=aI (gt:=D7 7) (ds:=cS _ p 0 _ 0 d.start a J J J J)
  (λt e=>∃a s o f c,e=cS _ p (Fw b6 t) (jH d b6 t) (qi d b6 t) (X9 d b6 t) a s o f c) ⟨a,J,J,J,J,by
   rw[T,show jH d b6 0=v5 (nu d) d.w by show v5 _ d.w-0=_;grind]
   rfl⟩ (by rintro t e r ⟨a,s,o,f,c,rfl⟩;obtain⟨z8,z9,z10,B⟩:=Qb hD H ok P r (v t r) a o f c;exact⟨_,_,rfl,.inl (by rw[O8];exact B),_,_,_,_,_,rfl⟩)
 have N:Sz D (cB*(1+d.n)) (X9 d b6 d.n):=by
  have:=(eZ (U3 (aV (n:=d.start) (by have:=H.st;lia) (by have:=H.st;lia)) f5)).add (eD d.n λi q=>(P i q).lv)
  rwa [<-dX]at this
 have C:Sz D (2^20*(cB*(1+d.n))) (((0-d.rest:Int))*X9 d b6 d.n):=by
  have:=(aV (D:=1) (n:=0-d.rest) t9 t9).mul N
  rwa [bq]at this
 have F:=eD d.n λk z=>by obtain⟨⟨a0,a1⟩,c0,c1⟩:=Fs H z;have I:=(aV (D:=1) (n:=eM (d.hr k)) bI (W3 u4 f5)).mul (P k z).b;have L:=(aV (D:=1) (n:=0-fc (d.hr k)) t9 t9).mul (P k z).g;rw[bq]at I L;exact U3 (I.add L) f5
 have Y:RO ((0-d.rest:Int)):=cE hD (eZ (U3 (aV t9 t9) f5)) f5;have Z:((1+d.n):Int)<=25:=by lia
 have O:(2^20*(cB*(1+d.n)))<=2^90:=W3 (fX (fX Z f5) f5) f5;have Q:(cB*d.n)<=2^90:=W3 (fX (show(d.n:Int)<=25 by lia) f5) f5;refine⟨K8 rfl (t6 rfl (t6 rfl (t6 rfl (t6 rfl (t6 (ds1:=cS _ p 0 _ 0 d.start a J J J J) (by rw[<-E];exact S) (t6 (ds1:=cS (A8 d) p (Fw b6 d.n) (jH d b6 d.n) (qi d b6 d.n) (X9 d b6 d.n) A s o f c) ?_ ?_)))))),cE hD (eD d.n λi q=>(P i q).la) (B7 u4 f5),cE hD (MX H P G8) f5,(F.add C).ok hD (W3 (Int.add_le_add Q O) f5)⟩
 . delta G0;rw[show F3 G9 _ _=U _ from by
    show(((C7 [p]).bind λx=>U [x.d]).bind G9)=_;rw[<-K,FE,E5];show G9 [.int d.n]=_
    rw[T8 t9,cA],A4,h2,R]
 refine Q1 ?_;delta v9 F8;rw[vp rfl rfl (E4 (x:=.dat (qd _)) rfl (E4 (x:=.dat (qd _)) (y:=.dat (qd _)) rfl rfl (lz Y (cE hD N t9))) (dW (cE hD F (B7 u4 f5)) (C.ok hD (W3 (fX (fX (show((1+d.n):Int)<=25 by omega) f5) f5) f5))))];rfl
structure Fea(h:A7)(P:Pl):Prop where
 lk:∀t,t<h.hs.length->0<=P.lk t/\P.lk t<=((h.hs.getD t O5).need:Rat)
 sp:∀t,t<h.hs.length->0<=P.sp t
 bo:∀t a b c d,t<h.hs.length->(h.hs.getD t O5).line=U (a,b,c,d)->(0<=P.bo t/\P.bo t<=(b:Rat))/\0<=P.gv t/\P.gv t<=(d:Rat)
 nl:∀t,(h.hs.getD t O5).line=J->P.bo t=0/\P.gv t=0
 fl:∀t,t<h.hs.length->0<=P.fl t/\P.fl t<=(h.fill:Rat)
 tk:∀t,t<h.hs.length->0<=P.tk t/\P.tk t<=(h.take:Rat)
 lv:∀t,t<h.hs.length->0<=P.lv t/\P.lv t<=(h.size:Rat)
 un:∀j,j<h.ws.length->0<=P.un j/\P.un j<=((h.ws.getD j P6).L5:Rat)
 wk:∀j i,j<h.ws.length->i<cK h j->0<=P.wk (P5 h j+i) j/\P.wk (P5 h j+i) j<=((h.ws.getD j P6).most:Rat)
 r1:∀s,s<h.hs.length->P.lk s+P.bo s+val h.left*P.tk s-P.sp s-P.gv s-P.fl s-MO h P s=((h.hs.getD s O5).need:Rat)-((h.hs.getD s O5).S6:Rat)
 r2:∀s,s<h.hs.length->P.lv s=(h.start:Rat)+v5 (λt=>val h.kept*P.fl t-P.tk t) (s+1)
 r3:∀j,j<h.ws.length->P.un j+v5 (λi=>P.wk (P5 h j+i) j) (cK h j)=((h.ws.getD j P6).L5:Rat)
def YB(Y:List Key->Rat)(x:Ch):Prop:=0<=Y x.k/\∀q,x.t=U q->Y x.k<=val q
theorem uq{c:Tr}{ns:List (Nat×Q2)}(e:a2 b4=y):YB a2 ⟨b4,c,U (D,1),ns⟩↔0<=y/\y<=(D:Rat):=by rw[<-e,<-P7 D];exact⟨λa=>⟨a.1,a.2 _ rfl⟩,λa=>⟨a.1,λq z=>by cases z;exact a.2⟩⟩
theorem JK(x:Hr):val (lS x)=cF x*((x.need:Rat)-(x.S6:Rat)):=by
 delta lS cF;rw[P7];by_cases c:x.S6<=x.need;rw[s9 C4,r9 c,Au];simp;rw[r9 t9,s9 c,pL,Au];grind
theorem a3L(x:Hr):cF x*cF x=1:=by delta cF;split<;>grind
theorem a2W(A:Ag d a2 a6)(H:G4 d)(B:∀x∈B5 d,YB a2 x)(R:∀p,p<hM d->ls (jL a2 p) (B5 d)=val ((M5 d).getD p q0)):Fea d a6:=by
 have f:∀{t:Nat},t<d.n->∀{x:Ch},x∈Z4 d t->YB a2 x:=λe x m=>B x (T1 _ (mem_flatMap.mpr ⟨_,mem_range.mpr e,m⟩))
 refine⟨λt e=>(uq (A.lk t)).mp (f e (T1 _ (T1 _ F2))),λt e=>?_,λt a b c h e o=>?_,A.nl,λt e=>(uq (A.fl t)).mp (f e (N1 _ F2)),
  λt e=>(uq (A.tk t)).mp (f e (N1 _ (E7 _ F2))),λt e=>(uq (A.lv t)).mp (f e (N1 _ (E7 _ (E7 _ F2)))),
  λj g=>(uq (A.un j)).mp (B _ (N1 _ (mem_flatMap.mpr ⟨j,mem_range.mpr g,F2⟩))),λj i g q=>(uq (A.wk _ j)).mp (B _ (N1 _ (mem_flatMap.mpr ⟨j,mem_range.mpr g,E7 _ (mem_map.mpr ⟨i,mem_range.mpr q,rfl⟩)⟩))),λs k=>?_,λs k=>?_,λj g=>?_⟩
 rw[<-A.sp];exact(f e (T1 _ (T1 _ (E7 _ F2)))).1;obtain⟨r,u⟩:=A.bo t (by rw[o];simp);have l:∀x∈bF t _,YB a2 x:=λx m=>f e (T1 _ (N1 _ m));unfold bF at l;rw[o]at l;exact⟨(uq r).mp (l _ F2),(uq u).mp (l _ (E7 _ F2))⟩;have:=R s t9;rw[a5E A H.s k,WG k,JK]at this;have:=a3L (d.hr s);grind;have:=R (d.n+s) t9;rw[a5D A H.s k,WE k,P7]at this;grind
 . have:=R (2*d.n+j) C4
   rwa [a5C A H.s g,WD g,P7]at this
noncomputable def eG(Y:List Key->Rat):Pl:=⟨λt=>Y (k2 "lacked" t),λt=>Y (k2 "spilt" t),λt=>Y (k2 "bought" t),λt=>Y (k2 "given" t),λt=>Y (k2 "filled" t),λt=>Y (k2 "taken" t),λt=>Y (k2 "level" t),λj=>Y (k2 "undone" j),λt j=>Y (qc t j)⟩
section
variable{T:Sx.Tb}
theorem JJ(c:(d.hr m).line=J)(hs:o = "bought"\/o = "given"):k2 o m∉hB d:=λf=>by
 obtain⟨x,a,e⟩:=mem_map.mp f;rcases List.mem_append.mp a with a|a
 . obtain⟨h,_,a⟩:=mem_flatMap.mp a;obtain⟨g,_,b⟩:=rA d h a;have:=(mr (e.symm.trans b)).2;subst this;unfold Z4 eO bF cH at a;rw[c]at a;simp only[cz,cZ,bu,kh,or_false]at a;rcases hs with rfl|rfl<;>rcases a with rfl|rfl|rfl|rfl|rfl<;>exact absurd (mr e).1 M8
 . obtain⟨j,_,a⟩:=mem_flatMap.mp a;rcases ur d j a with b|⟨i,b⟩<;>rw[b]at e
   . rcases hs with rfl|rfl<;>exact absurd (mr e).1 M8
   have:=C2 kx e;simp[k2]at this
theorem wH(c:¬(P5 d e<=m/\m<P5 d e+cK d e)):qc m e∉hB d:=λl=>by
 obtain⟨x,a,j⟩:=mem_map.mp l;rcases List.mem_append.mp a with a|a
 obtain⟨f,_,a⟩:=mem_flatMap.mp a;obtain⟨t,_,k⟩:=rA d f a;rw[k]at j;have:=C2 kx j;simp[k2,qc]at this
 . obtain⟨b,_,a⟩:=mem_flatMap.mp a;rcases List.mem_cons.mp a with rfl|a
   have:=C2 kx j;simp[ff,k2,qc]at this
   . obtain⟨i,h,rfl⟩:=mem_map.mp a;simp only[qb,qc,Qv]at j;have g:b=e:=by lia
     subst g;exact c ⟨by show P5 d b<=m;have:=j.1;lia,by have:=j.1;have:=(mem_range.mp h);lia⟩
theorem Xn:Ag d (yK d T) (eG (yK d T)):=⟨λ_=>rfl,λ_=>rfl,λ_ _=>⟨rfl,rfl⟩,λt a=>⟨qa (JJ a (.inl rfl)),qa (JJ a (.inr rfl))⟩,λ_=>rfl,λ_=>rfl,λ_=>rfl,λ_=>rfl,λ_ _=>rfl⟩
theorem Fp(f:Ch->Rat):v5 (λj=>f (dS d j)) (B5 d).length=ls f (B5 d):=by rw[a2s f _ _ G8,QE]
theorem zA(H:G4 d)(K:Sx.Ok (A5 d).pb T):Fea d (eG (yK d T)):=by
 refine a2W Xn H (λx a=>a0h H K a) λp b=>?_;have:=UQ (gi H) K b;rw[<-Fp];refine(B4 _ λj c=>?_).trans this;show val _*yK d T (dS d j).k=_;rw[Wj c];rfl
theorem Vz(H:G4 d)(A:Ag d a2 a6)(e:∀j,j<(B5 d).length->v j=a2 (dS d j).k)(a:m<3):v5 (λj=>val (Q0 ((A5 d).cost j) m)*v j) (A5 d).n=cV d a6 m:=by rw[<-VA A H.n1 a,<-Fp];exact B4 _ λj b=>by rw[e j b];rfl
end
section
variable{T:Sx.Tb}
theorem a3K(hq:F0 m q)(hd:q.2∣D)(a:0<=val q)(c:val q<=(M:Rat)):Sz D M (val q):=by
 refine⟨?_⟩;rw[<-ip hq.pos hq.low];refine⟨hq.pos,hq.low,hd,?_⟩;have:=(oT hq.pos).mpr a;have b:=ml (p:=(M,1)) F5 hq.pos;rw[P7,ay (Rat.not_lt.mpr c)]at b;have:=of_decide_eq_false b;lia
theorem Sb(H:G4 d)(K:Sx.Ok (A5 d).pb T)(g:∀t,b4≠k2 "spilt" t):Sz (T.size*(A5 d).un) 1000000 (yK d T b4):=by
 by_cases c:b4∈hB d
 . obtain⟨x,h,rfl⟩:=mem_map.mp c;have C:=tE H x h;obtain⟨a,b⟩:=vm h;have B:=a0h H K h;cases ht:x.t with
   |none=>obtain⟨_,t,e⟩:=C.fr ht;exact absurd e (g t)
   |some q=>
    obtain⟨j,m,l⟩:=C.tp q ht;have f:=B.2 q ht;have i:val q<=1000000:=by obtain⟨u,v⟩:=q;subst j;rw[P7];exact Rat.intCast_le_intCast.mpr l
    rw[KD h]at B f⊢;have:=OU H K a;exact a3K this.1 this.2 B.1 (GF f i)
 rw[qa c];exact Sz.zero f5
theorem kv(H:G4 d):0<val d.kept/\Sz d.kept.2 1 (val d.kept)/\Sz d.kept.1 15 (val d.kept)⁻¹:=by
 have a:=H.k.pos;have e:val d.kept=d.kept.1/d.kept.2:=rfl;have b:0<val d.kept:=by rw[e,GC];exact fo (Q3 H.k0.1) (Rat.inv_pos.mpr (Q3 a))
 have q:=ip H.k.pos H.k.low;refine⟨b,⟨?_⟩,⟨?_⟩⟩;rw[<-q];exact⟨a,H.k.low,fq _,by have:=H.k0;omega⟩;rw[FK b,<-q];exact⟨H.k0.1,by show F1 d.kept.2 d.kept.1=1;rw[Ac];exact H.k.low,fq _,by show d.kept.2.natAbs<=15*d.kept.1;have:=H.k.bb.lt;have:=H.k0;lia⟩
theorem gI(f:Nat->Rat)(a:Nat):∀m,v5 f (a+m)=v5 f a+v5 (λi=>f (a+i)) m
 | 0=>by show v5 f a=v5 f a+0;grind
 |m+1=>by
  show v5 f (a+m)+f _=_+(_+f _);rw[gI f a m];grind
theorem oH{g:Nat->Rat}{n:Nat}(h:m+n<=N):v5 (λt=>if m<=t/\t<m+n then g t else 0) N=v5 (λi=>g (m+i)) n:=by
 rw[show N=m+(n+(N-m-n)) by omega,gI,gI,Z2 λi b=>s9 t9,B4 n λi b=>r9 (show m<=m+i/\m+i<m+n by simp[*]),Z2 λi b=>s9 C4];grind
end
theorem SE(f:Nat->Rat):∀k,v5 (λq=>f (k-1-q)) k=v5 f k:=by
 intro k;induction k generalizing f with
 |zero=>rfl
 |succ k ih=>
  have:=gI (λq=>f (k+1-1-q)) 1 k
  rw[rR 1 k]at this;rw[this];have e:v5 (λi=>f (k+1-1-(1+i))) k=v5 f k:=by rw[<-ih f];exact B4 k λi a=>by rw[show k+1-1-(1+i)=k-1-i by omega]
  rw[e];show 0+f _+v5 f k=v5 f k+f k;grind
def n3(f:Nat->Rat):Bool:=decide (f 0<0)||(decide (f 0=0)&&(decide (f 1<0)||(decide (f 1=0)&&decide (f 2<0))))
def K3(f:Nat->Rat)(m:Rat)(i:Nat):Rat:=if n3 f=Uf then f i*m else 0
theorem OP(f:Nat->Rat):n3 f=Uf↔¬NN (f 0) (f 1) (f 2):=by unfold n3 NN;grind
theorem VZ(f:Nat->Rat)(i:Nat):K3 f 0 i=0:=by unfold K3;split<;>grind
section
variable{T:Sx.Tb}
def rX(h:A7)(X:Nat->Nat->Rat)(x:Ch)(i:Nat):Rat:=val (Q0 x.c i)-v5 (λp=>X p i*val (gd x.ns q0 p)) (hM h)
theorem DJ(b:m<hM d):v5 (λp=>X p e*val (if p=m then q else q0)) (hM d)=X m e*val q:=by
 rw[B4 (g:=λp=>if m=p then X p e*val q else 0) _ λp _=>by
  rw[Z0,N8];by_cases c:p=m;rw[r9 c,r9 c.symm]
  . rw[s9 c,s9 λh=>c h.symm];grind]
 exact Bn m b
theorem a0j{i:Nat}(a:m<d.n)(v:Rat):v5 (λp=>if d.n+m<=p/\p<2*d.n then X p i*v else 0) (hM d)=0-fD d.n X (d.n-m) i*v:=by
 have e:=oH (g:=λp=>X p i*v) (by show d.n+m+(d.n-m)<=2*d.n+d.w;lia);rw[show d.n+m+(d.n-m)=2*d.n by omega]at e;rw[e];unfold fD;have r:=SE (λq=>X (d.n+m+q) i*(-1)) (d.n-m);rw[B4 _ λq b=>by rw[show d.n+m+(d.n-m-1-q)=d.n+(d.n-1-q) by omega]]at r
 rw[r,gb,<-jv _,<-oI];exact B4 _ λq _=>by grind
theorem Bu(h:b5.ns=[(m,q)])(b:m<hM d):rX d X b5 e=val (Q0 b5.c e)-X m e*val q:=by unfold rX;rw[h];exact C2 _ (DJ b)
theorem a1c{r:Q2}(h:b5.ns=(m,q)::fP d.n m r)(a:m<d.n):rX d X b5 e=val (Q0 b5.c e)-(X m e*val q-fD d.n X (d.n-m) e*val r):=by
 unfold rX;rw[h,B4 (g:=λp=>X p e*val (if p=m then q else q0)+if d.n+m<=p/\p<2*d.n then X p e*val r else 0) _ λp _=>by
  rw[BI a,Z0,Z0,Z0,N8];by_cases c:p=m;rw[r9 c,r9 c,s9 (by omega)];grind
  . rw[s9 c,s9 c];split<;>grind,aF,DJ (by show m<2*d.n+d.w;omega),a0j a]
 grind
theorem a5F(a:e<d.n)(b:m<d.w):rX d X (qb d m e) N=W8 d X e N-X (2*d.n+m) N:=by
 have h:rX d X (qb d m e) N=val (Q0 (qb d m e).c N)-(X e N*val (outF (d.hr e))+X (2*d.n+m) N*val (1,1)):=by
  unfold rX;rw[B4 (g:=λp=>X p N*val (if p=e then outF _ else q0)+X p N*val (if p=2*d.n+m then(1,1)else q0)) _ λp _=>by
   show X p N*val (if p=2*d.n+m then(1,1)else if p=e then outF _ else q0)=_;rw[Z0,Z0,Z0,N8];by_cases c:p=2*d.n+m;rw[r9 c,r9 c,s9 (by lia)];grind
   . rw[s9 c,s9 c];grind,aF,DJ (by show e<2*d.n+d.w;lia),DJ (by show 2*d.n+m<2*d.n+d.w;simp_all)]
 rw[h,ju,P7 1];have:val (Q0 (qb d m e).c N)=0:=by unfold Q0;split<;>exact N8
 grind
def aX(a:Rat)(i:Nat):Rat:=if i=2 then a else 0
def uA(k i:Nat):Rat:=if i=k then 1 else 0
abbrev hQ(h:A7)(X:Nat->Nat->Rat)(t i:Nat):Rat:=fD h.n X (h.n-t) i
abbrev hBe(h:A7)(X:Nat->Nat->Rat)(t i:Nat):Rat:=if t+1<h.hs.length then fD h.n X (h.n-(t+1)) i else aX (h.rest:Rat) i
def gg(x:Hr):Int:=match x.line with
 |none=>0
 |some l=>l.2.1
def gf(x:Hr):Int:=match x.line with
 |none=>0
 |some l=>l.2.2.2
def JY(h:A7)(X:Nat->Nat->Rat)(t i:Nat):Rat:=
 K3 (λi=>aX (eM (h.hr t)) i-W8 h X t i) (gg (h.hr t)) i+K3 (λi=>W8 h X t i-aX (fc (h.hr t)) i) (gf (h.hr t)) i+K3 (λi=>W8 h X t i-hQ h X t i*val h.kept) h.fill i+K3 (λi=>hQ h X t i-W8 h X t i*val h.left) h.take i+K3 (λi=>uA 0 i-W8 h X t i) (h.hr t).need i+K3 (λi=>hQ h X t i-hBe h X t i) h.size i
theorem KP(a:Int)(b:m<3):val (Q0 (gL a) m)=aX (a:Rat) m:=by
 rcases(tW u4)with rfl|rfl|rfl
 exact N8;exact N8;exact P7 a
theorem tL{g:Nat->Rat}(f:∀e,e<3->v e=g e)(a:e<3):K3 v y e=K3 g y e:=by unfold K3 n3;rw[f 0 f5,f 1 f5,f 2 f5,f e a]
abbrev nL(h:A7)(X:Nat->Nat->Rat)(i:Nat)(x:Ch):Rat:=K3 (rX h X x) (val (x.t.getD q0)) i
theorem a5P(H:G4 d)(a:m<d.n)(b:e<3):ls (nL d X e) (Z4 d m)=JY d X m e:=by
 have am:m<hM d:=by show m<2*d.n+d.w;omega
 have z:∀e,val (Q0 ⟨(0,1),(0,1),(0,1)⟩ e)=0:=λe=>by unfold Q0;split<;>exact N8
 have k1:∀(c:Int) (x:Ch),x.ns=[(m,T6 (d.hr m))]->x.c=gL c->x.t=U (gg (d.hr m),1)->nL d X e x=K3 (λe=>aX (c:Rat) e-W8 d X m e) (gg (d.hr m)) e:=λc x t f g=>by
  show K3 (rX d X x) (val (x.t.getD q0)) e=_;rw[g,show val ((U (gg (d.hr m),(1:Int))).getD q0)=(gg (d.hr m):Rat)from P7 _];exact tL (λe h=>by rw[Bu t am,f,KP c h,ja]) b
 have k2':∀(c:Int) (x:Ch),x.ns=[(m,outF (d.hr m))]->x.c=gL (-c)->x.t=U (gf (d.hr m),1)->nL d X e x=K3 (λe=>W8 d X m e-aX (c:Rat) e) (gf (d.hr m)) e:=λc x t f g=>by
  show K3 (rX d X x) (val (x.t.getD q0)) e=_;rw[g,show val ((U (gf (d.hr m),(1:Int))).getD q0)=(gf (d.hr m):Rat)from P7 _];refine tL (λe h=>?_) b;rw[Bu t am,f,KP _ h,ju,pL];show _=X m e*cF (d.hr m)-aX c e
  unfold aX;split<;>grind
 have u1:nL d X e ⟨k2 "lacked" m,BU,U ((d.hr m).need,1),[(m,T6 (d.hr m))]⟩=K3 (λe=>uA 0 e-W8 d X m e) (d.hr m).need e:=by
  show K3 _ (val ((d.hr m).need,1)) e=_;rw[P7];refine tL (λe h=>?_) b
  rw[Bu rfl am,ja];rcases(tW u4)with rfl|rfl|rfl
  exact C2 (λz=>z-W8 d X m 0) (P7 1);exact C2 (λz=>z-W8 d X m 1) N8;exact C2 (λz=>z-W8 d X m 2) N8
 have u2:nL d X e ⟨k2 "spilt" m,⟨(0,1),(0,1),(0,1)⟩,J,[(m,outF (d.hr m))]⟩=0:=by
  show K3 _ (val q0) e=0;rw[N8,VZ]
 have ln:ls (nL d X e) (bF m (d.hr m))=K3 (λe=>aX (eM (d.hr m)) e-W8 d X m e) (gg (d.hr m)) e+K3 (λe=>W8 d X m e-aX (fc (d.hr m)) e) (gf (d.hr m)) e:=by
  cases t:(d.hr m).line with
  |none=>
   have eb:gg (d.hr m)=0:=by unfold gg;rw[t]
   have ed:gf (d.hr m)=0:=by unfold gf;rw[t]
   rw[eb,ed,show((0:Int):Rat)=0 from rfl,VZ,VZ];unfold bF;rw[t];show(0:Rat)=0+0;grind
  |some l=>
   obtain⟨x,y,u,v⟩:=l;have ea:eM (d.hr m)=x:=by unfold eM;rw[t]
   have ec:fc (d.hr m)=u:=by unfold fc;rw[t]
   have eb:gg (d.hr m)=y:=by unfold gg;rw[t]
   have ed:gf (d.hr m)=v:=by unfold gf;rw[t]
   unfold bF;rw[t];show nL d X e _+(nL d X e _+0)=_;rw[k1 x _ rfl rfl (by rw[eb]),k2' u _ rfl rfl (by rw[ed]),ea,ec];grind
 have s:val (eL (0,1) d.kept) = - val d.kept:=by rw[uu f5 H.k.pos,show val (0,1)=0 from N8];grind
 have u:val (R5 (T6 (d.hr m)) d.left)=cF (d.hr m)*val d.left:=by rw[qe (by delta T6;split<;>decide) H.l.pos,ja]
 have st:ls (nL d X e) (cH d m)=K3 (λe=>W8 d X m e-hQ d X m e*val d.kept) d.fill e+K3 (λe=>hQ d X m e-W8 d X m e*val d.left) d.take e+K3 (λe=>hQ d X m e-hBe d X m e) d.size e:=by
  show K3 _ (val (d.fill,1)) e+(K3 _ (val (d.take,1)) e+(K3 _ (val (d.size,1)) e+0))=_
  rw[P7,P7,P7];have w1:K3 (rX d X ⟨k2 "filled" m,⟨(0,1),(0,1),(0,1)⟩,U (d.fill,1),(m,outF (d.hs.getD m O5))::fP d.hs.length m (eL (0,1) d.kept)⟩) d.fill e=K3 (λe=>W8 d X m e-hQ d X m e*val d.kept) d.fill e:=tL (λe h=>by
   rw[a1c rfl a,s,ju,z];show _=X m e*cF (d.hr m)-fD d.n X (d.n-m) e*val d.kept
   grind) b
  let Uff:=T6 (d.hs.getD m O5)
  have w2:K3 (rX d X ⟨k2 "taken" m,⟨(0,1),(0,1),(0,1)⟩,U (d.take,1),(m,R5 Uff d.left)::fP d.hs.length m (1,1)⟩) d.take e=K3 (λe=>hQ d X m e-W8 d X m e*val d.left) d.take e:=tL (λe h=>by
   rw[a1c rfl a,show val (R5 Uff d.left)=_ from u,z,P7 1];show _=fD d.n X (d.n-m) e-X m e*cF (d.hr m)*val d.left
   grind) b
  have w3:K3 (rX d X ⟨k2 "level" m,gL (-pf d m),U (d.size,1),[(d.hs.length+m,(1,1))]⟩) d.size e=K3 (λe=>hQ d X m e-hBe d X m e) d.size e:=tL (λe h=>by
   rw[Bu rfl (by show d.n+m<2*d.n+d.w;omega),KP _ h,P7 1]
   have q:fD d.n X (d.n-m) e=fD d.n X (d.n-(m+1)) e+X (d.n+m) e*(-1):=by
    rw[show d.n-m=(d.n-(m+1))+1 by omega];show v5 _ _+X (d.n+(d.n-1-(d.n-(m+1)))) e*(-1)=_;rw[show d.n-1-(d.n-(m+1))=m by omega];rfl
   show aX ((-pf d m:Int):Rat) e-X (d.n+m) e*1=fD d.n X (d.n-m) e-(if m+1<d.hs.length then fD d.n X (d.n-(m+1)) e else aX d.rest e);rw[q];by_cases c:m+1<d.hs.length
   . rw[r9 c];have:pf d m=0:=s9 (S8 c);rw[this];have:aX ((-0:Int):Rat) e=0:=by unfold aX;split<;>rfl
     rw[this];grind
   . rw[s9 c];have:m+1=d.hs.length:=Nat.le_antisymm a (kC c);have:pf d m=d.rest:=r9 this;rw[this,show d.n-(m+1)=0 by show d.hs.length-(m+1)=0;omega,pL];show _=0+X (d.n+m) e*(-1)-aX d.rest e
     unfold aX;split<;>grind) b
  rw[w1,w2,w3];grind
 unfold Z4 eO;rw[jQ,jQ,st];show(nL d X e _+(nL d X e _+0))+ls (nL d X e) (bF m (d.hr m))+_=_;rw[u1,u2,ln];unfold JY;grind
abbrev Jb(h:A7)(X:Nat->Nat->Rat)(t j i:Nat):Rat:=K3 (λi=>W8 h X t i-X (2*h.hs.length+j) i) (h.ws.getD j P6).most i
abbrev unK(h:A7)(X:Nat->Nat->Rat)(j i:Nat):Rat:=K3 (λi=>uA 1 i-X (2*h.hs.length+j) i) (h.ws.getD j P6).L5 i
theorem a5z(H:G4 d)(a:m<d.w)(b:e<3):ls (nL d X e) (bD d m)=unK d X m e+v5 (λq=>Jb d X (P5 d m+q) m e) (cK d m):=by
 have f:=H.f m a;show nL d X e _+ls _ _=_
 rw[Fn];have cc:∀{a b c h:Rat},a=c->b=h->a+b=c+h:=λj f=>by rw[j,f]
 refine cc ?_ (B4 _ λq c=>?_)
 . show K3 _ (val ((d.ws.getD m P6).L5,1)) e=_;rw[P7];refine tL (λe h=>?_) b;rw[Bu rfl (by show 2*d.n+m<2*d.n+d.w;simp_all),P7 1]
   rcases(tW u4)with rfl|rfl|rfl
   show val q0-_*1=0-_;rw[N8];simp;show val (1,1)-_*1=1-_;rw[P7 1];simp;show val q0-_*1=0-_;rw[N8];simp
 show K3 _ (val ((d.ws.getD m P6).most,1)) e=_;rw[P7];have c:q<((d.ws.getD m P6).last+1-(d.ws.getD m P6).first).toNat:=c;exact tL (λe h=>a5F (by show(d.ws.getD m P6).first.toNat+q<d.hs.length;omega) a) b
def Xa(h:A7)(X:Nat->Nat->Rat)(i:Nat):Rat:=0-hQ h X 0 i*(h.start:Rat)+v5 (λt=>W8 h X t i*(((h.hr t).need-(h.hr t).S6:Int):Rat)) h.n+v5 (λj=>X (2*h.n+j) i*((h.wk j).L5:Rat)) h.w+(v5 (λt=>JY h X t i+v5 (λj=>if P5 h j<=t/\t<P5 h j+cK h j then Jb h X t j i else 0) h.w) h.n+v5 (λj=>unK h X j i) h.w)
theorem ZN(H:G4 d)(K:Sx.Ok (A5 d).pb T)(ne:∀j,j<(A5 d).n->¬Sx.S0 (A5 d).pb T j){i:Nat}(a:i<3):cV d (eG (yK d T)) i=Xa d (bW d T) i:=by
 have O:=gi H;have l:∀j,j<(A5 d).n->∀t,t<3->(0:Rat)<((A5 d).sc j)*((A5 d).mu t)*T.size:=λj b t h=>fo (fo (Q3 (O.sc b).1) (Q3 (O.mu h).1)) (Q3 K.J6.pos)
 have c:=IS O K ne (ch:=λj=>n3 λi=>lR (A5 d) T i j) (λj b=>by
  have v:=λt h=>xP O K.J6 (t:=t) h b;rw[OP,WQ (r:=λt=>T.rest (A5 d).pb t j) (l j b 0 f5) (l j b 1 f5) (l j b 2 f5) (v 0 f5) (v 1 f5) (v 2 f5)]
  exact Classical.not_not) a
 rw[Vz H Xn (λj b=>(Wj b).symm) a]at c;have e:v5 (λj=>if n3 (λi=>lR (A5 d) T i j)=Uf then lR (A5 d) T i j*val (((A5 d).tp j).getD q0)else 0) (A5 d).n=ls (nL d (bW d T) i) (B5 d):=Fp (nL d (bW d T) i);rw[e]at c;rw[<-c];unfold B5;rw[jQ,oz,oz,B4 _ λt b=>a5P H b a,B4 _ λj b=>a5z H b a,aF]
 have r:v5 (λp=>val (Q0 (X8 (A5 d).M7 T p) i)*val ((A5 d).rg p)) (A5 d).m=0-hQ d (bW d T) 0 i*(d.start:Rat)+v5 (λt=>W8 d (bW d T) t i*(((d.hr t).need-(d.hr t).S6:Int):Rat)) d.n+v5 (λj=>bW d T (2*d.n+j) i*((d.wk j).L5:Rat)) d.w:=by
  show v5 (λp=>bW d T p i*val ((M5 d).getD p q0)) (2*d.n+d.w)=_;rw[gI,show 2*d.n=d.n+d.n by omega,gI]
  have e1:v5 (λp=>bW d T p i*val ((M5 d).getD p q0)) d.n=v5 (λt=>W8 d (bW d T) t i*(((d.hr t).need-(d.hr t).S6:Int):Rat)) d.n:=B4 _ λt b=>by
   rw[WG b,JK,Au];show _=bW d T t i*cF (d.hr t)*_;grind
  have e2:v5 (λs=>bW d T (d.n+s) i*val ((M5 d).getD (d.n+s) q0)) d.n=0-hQ d (bW d T) 0 i*(d.start:Rat):=by
   rw[B4 _ λs b=>by rw[WE b,P7]];have x:=a0j (X:=bW d T) (i:=i) H.n1 (d.start:Rat);rw[<-x];have w:=oH (g:=λp=>bW d T p i*(d.start:Rat)) (by show d.n+d.n<=2*d.n+d.w;omega)
   rw[<-w];exact B4 _ λp _=>by rw[Nat.add_zero,show d.n+d.n=2*d.n by omega]
  have e3:v5 (λj=>bW d T (d.n+d.n+j) i*val ((M5 d).getD (d.n+d.n+j) q0)) d.w=v5 (λj=>bW d T (d.n+d.n+j) i*((d.wk j).L5:Rat)) d.w:=B4 _ λj b=>by rw[show d.n+d.n=2*d.n by omega,WD b,P7]
  rw[e1,e2,e3];grind
 rw[r];unfold Xa;have k:v5 (λj=>v5 (λq=>Jb d (bW d T) (P5 d j+q) j i) (cK d j)) d.ws.length=v5 (λt=>v5 (λj=>if P5 d j<=t/\t<P5 d j+cK d j then Jb d (bW d T) t j i else 0) d.w) d.n:=by
  rw[CF];refine B4 _ λj b=>(oH (g:=λt=>Jb d (bW d T) t j i) ?_).symm;have:=H.f j b;show(d.ws.getD j P6).first.toNat+((d.ws.getD j P6).last+1-(d.ws.getD j P6).first).toNat<=d.hs.length;omega
 rw[k,aF];grind
end
theorem R9{T:Ds->Option Bool}{A B:Ds->Option Out}{b:Bool}(h:T r=U b)(hr:(if b=Uf then A r else B r)=d6):M0 T A B r=d6:=by
 unfold M0
 rwa [h]
theorem wA{b:DO}(h:a7 r=U (.ret z)):t8 a7 b r=U (.ret z):=by rw[D4,h,Eu]
theorem bV(h:G r=sd (.bool c7)):A9 G r=U c7:=by unfold A9;rw[h];rfl
theorem bN{F:DB}{b:Bool}(h:F r=U b):bJ F r=U (!b):=by unfold bJ;rw[h];rfl
theorem bO{F G:DB}(h:F r=U U')(k:G r=U U'):hE F G r=U U':=by unfold hE;rw[h];exact k
theorem c1{x:f9}(e:a8 [x]=K)(a:G r=sd x):f7 a8 (t4 G B1) r=K:=aa a e
theorem c2{x y:f9}(e:a8 [x,y]=K)(a:H r=sd x)(b:G r=sd y):f7 a8 (t4 H (t4 G B1)) r=K:=E4 a b e
theorem c3{F:DV}{x y:f9}{r:Option PV}(e:a8 [x,y,A]=r)(a:F L=sd x)(b:G L=sd y)(c:H L=sd A):f7 a8 (t4 F (t4 G (t4 H B1))) L=r:=jg a b c e
theorem wZ(e:G r=sd (.int (m:Int)))(a:m<=1000)(f:V6 c6 a7 (bA 0 m) r=d6):G0 (F3 G9 (t4 G B1)) c6 a7 r=d6:=by
 unfold G0 F3 t4;rw[e];show((G9 [.int _]).bind _)=_
 rwa [T8 (by lia),cA,A4]
theorem zf(n:Nat)(f:Nat->f9):C7 [.tuple (rl n f)]=sd (.int (n:Int)):=by delta C7 d1;simp
theorem DY(h:A7):C7 [.tuple (h.hs.map D2)]=sd (.int (h.n:Int)):=by delta C7 d1;simp
theorem ze(h:A7):C7 [.tuple (h.ws.map P4)]=sd (.int (h.w:Int)):=by delta C7 d1;simp
theorem WU{C A:DV}{l:Int}(a:G r=sd (.int D))(b:H r=sd (.int E))(c:C r=sd (.int M))(d:A r=sd (.int l)):fO (A9 (u3 tY G H)) (A9 (u3 tY C A)) r=U (decide (D<=E)&&decide (M<=l)):=by unfold fO;rw[bV ((B8 a b).trans rfl),bV ((B8 c d).trans rfl)];cases decide (D<=E)<;>rfl
theorem CV{y:f9}(e:G r=sd A)(f:K6 A (.int D)=sd y):u3 K6 G (fC (.int D)) r=sd y:=(B8 (y:=.dat (.int D)) e rfl).trans f
theorem DZ(f:Nat->Rat)(a:m<3):K6 (t3 f) (.int (m:Int))=sd (qd (f m)):=by rcases(tW u4)with rfl|rfl|rfl<;>rfl
theorem SW:G9 [.int 3]=U (rl 3 λk=>.int (k:Int)):=by
 rw[T8 (by decide)];exact C2 U (T9 λk _=>by rw[O8])
theorem wJ{f:Nat->Rat}(a:R3 f)(b:R3 v)(c:RO u)(d:R3 λi=>v i*u):jk [t3 f,t3 v,qd u]=sd (t3 λi=>f i+v i*u):=by exact K8 rfl (Q1 (aa (Z9 SW (by rw[E5];decide) (M6 λk e=>⟨[.int _],.dat (qd (f k+v k*u)),rfl,E4 ((B8 (x:=.dat (t3 f)) (y:=.dat (.int _)) rfl rfl).trans (DZ f e)) (E4 ((B8 (x:=.dat (t3 v)) (y:=.dat (.int _)) rfl rfl).trans (DZ v e)) rfl (lz (b k e) c)) (dW (a k e) (d k e)),rfl⟩)) rfl))
theorem wL{f:Nat->Rat}(a:R3 f)(b:R3 v)(c:RO (-y))(d:R3 λi=>v i*(-y)):V9 [t3 f,t3 v,qd y]=sd (t3 λi=>f i+v i*(-y)):=
 K8 rfl (Q1 (jg rfl rfl (aa rfl (wM y)) (wJ a b c d)))
theorem VP{x:Rat}(a:RO x)(b:RO y):wa [qd x,qd y]=sd (.bool (decide (x<y))):=by
 have e:=ml (S7 x) (S7 y);rw[X6,X6]at e;refine K8 rfl (Q1 ?_)
 let Uff:=U8 [qd x,qd y]++F7 (2-2) J
 have u:D5 (f6 u5 B3) (f6 A2 A1) Uff=sd _:=(B8 (x:=.dat (.int (q2 x).1)) (y:=.dat (.int (q2 y).2)) rfl rfl).trans (D6 (a.f.bt.mono f5) (b.f.bb.mono f5));have v:D5 (f6 A2 B3) (f6 u5 A1) Uff=sd _:=(B8 (x:=.dat (.int (q2 y).1)) (y:=.dat (.int (q2 x).2)) rfl rfl).trans (D6 (b.f.bt.mono f5) (a.f.bb.mono f5));rw[B8 u v,<-e];rfl
theorem a4g(x y:Rat):dE (qd x) (qd y)=sd (.bool (!decide (x=y))):=by
 show dE (fr (q2 x)) (fr (q2 y))=_;rw[BJ];by_cases c:x=y;subst c;simp;have:q2 x≠q2 y:=λe=>c (a1l.mp (C2 fr e));simp[c,this]
abbrev n0:Nat->Rat:=λ_=>0
theorem ro0:RO 0:=(Sz.zero (D:=1) (ku _)).ok ⟨by decide,⟨by decide⟩⟩ f5
theorem Gj(a:R3 v):iM [t3 v,t3 n0]=sd (.bool (n3 v)):=by
 have st:∀{k:Nat} (b:k<3),ar [sd (t3 v),sd _,sd _]=if v k=0 then U _ else U _:=λ{k} b=>by
  have i1:f6 u5 C3 [sd (t3 v),sd (t3 n0),sd _]=sd _:=(B8 (x:=.dat (t3 v)) (y:=.dat (.int _)) rfl rfl).trans (DZ v b);have i2:f6 A2 C3 [sd (t3 v),sd _,sd _]=sd (qd 0):=(B8 (x:=.dat (t3 n0)) (y:=.dat (.int _)) rfl rfl).trans (DZ n0 b);refine R9 (bV ((B8 i1 i2).trans (a4g _ _))) ?_;by_cases c:v k=0;rw[r9 c];simp[c];rfl;rw[s9 c,r9 (by simp[c])];exact Q1 (E4 i1 i2 (VP (a k b) ro0))
 refine K8 rfl ?_;have g:∀{x:Option PV}{k:Nat},D7 2 (.int k) [sd (t3 v),sd (t3 n0),x]=U [sd (t3 v),sd _,sd _]:=rfl;have fr:∀{x:Option PV}{k:Nat}{l:List f9} b,¬v k=0->V6 (D7 2) ar (.int _::l) [sd (t3 v),sd _,x]=U _:=λb c=>by unfold V6;rw[g,A4,st b,s9 c];rfl
 have fn:∀{x:Option PV}{k:Nat}{l:List f9} b,v k=0->V6 _ ar _ [sd (t3 v),sd _,x]=V6 _ ar l [sd (t3 v),sd _,sd _]:=λb c=>O6 g (by rw[st b,r9 c])
 let Uff:=U8 [t3 v,t3 n0]++F7 (3-2) J
 have ret:∀{y:Out},V6 (D7 2) ar [.int _,.int _,.int _] [sd (t3 v),sd _,J]=U y->G0 (F3 G9 _) _ ar Uff=U y:=λe=>by
  unfold G0
  rwa [show F3 G9 (B2 bE) Uff=_ from SW,A4]
 unfold n3;by_cases c0:v 0=0;by_cases c1:v 1=0;by_cases c2:v 2=0;refine(t6 (ret ((fn f5 c0).trans ((fn f5 c1).trans (fn f5 c2)))) (Q1 rfl)).trans ?_;simp[c0,c1,c2];refine(wA (ret ((fn f5 c0).trans ((fn f5 c1).trans (fr f5 c2))))).trans ?_;simp[c0,c1];refine(wA (ret ((fn f5 c0).trans (fr f5 c1)))).trans ?_;simp[c0,c1];refine(wA (ret (fr f5 c0))).trans ?_;simp[c0]
theorem xH{x:Rat}(ok:RO x)(a:0<=x)(b:x<=(D:Rat))(c:Bt 60000 D):kO [qd x,.int D]=sd (.bool Uf):=by
 have e:=ml (p:=(D,1)) (show 0<1 from f5) (S7 x)
 rw[X6,P7,ay (Rat.not_lt.mpr b)]at e;have f:(q2 x).1<=D*(q2 x).2:=by
  have:¬D*(q2 x).2<(q2 x).1*1:=of_decide_eq_false e
  simp_all
 refine K8 rfl (Q1 ?_)
 let Uff:=U8 [qd x,.int D]++F7 (2-2) J
 have u:D5 A2 (f6 u5 A1) Uff=sd _:=(B8 (x:=.dat (.int D)) (y:=.dat (.int (q2 x).2)) rfl rfl).trans (D6 c (ok.f.bb.mono f5));have v:u3 tY (f6 u5 B3) _ Uff=sd _:=(B8 rfl u).trans (by
  show tY (.int _) (.int _)=_
  rw[ZC,cy f])
 have w:A9 (u3 vd (f6 u5 B3) B3) Uff=U Uf:=bV ((B8 rfl rfl).trans (by
  show vd (.int _) (.int _)=_
  rw[wU,cy ((oT (S7 x)).mpr (by rw[X6];exact a))]))
 unfold tc;rw[w,A4,r9 rfl];exact v
theorem WW(ok:RO y):fZ [qd y]=sd (.bool Uf):=by
 refine K8 rfl (t6 (R9 (bO rfl (bO rfl (bO rfl rfl))) rfl) (Q1 ?_));have n:fy [.int (q2 y).1,.int (q2 y).2]=sd (qd y):=by
  rw[norm_eq (S7 y) (ok.f.bb.mono f5),NJ (S7 y)];show sd (fr (q2 (val (q2 y))))=_;rw[X6];rfl
 have w:A9 (u3 nK (f6 u5 A1) B3) (U8 [qd y]++F7 (1-1) J)=U Uf:=bV ((B8 rfl rfl).trans (by
  show nK (.int _) (.int _)=_
  rw[Kb,cy (S7 y)]))
 unfold tc;rw[w,A4,r9 rfl];refine(B8 (E4 rfl rfl n) rfl).trans ?_;show X0 (fr (q2 y)) (fr (q2 y))=_;rw[Kg];simp
theorem a4m(a:R3 v):iX [t3 v]=sd (.bool Uf):=by refine K8 rfl (t6 (R9 (bO rfl rfl) rfl) (Q1 (aa (Z9 (items:=rl 3 λk=>qd (v k)) rfl (by rw[E5];decide) (M6 λk e=>⟨[qd (v k)],.dat (.bool Uf),rfl,aa rfl (WW (a k e)),rfl⟩)) rfl)))
theorem a0P{g:Nat->Rat}(e:∀i,i<3->v i=g i):t3 v=t3 g:=by
 show fV [qd (v 0),qd (v 1),qd (v 2)]=_;rw[e 0 f5,e 1 f5,e 2 f5]
abbrev kb:Type:=(Nat->Rat)×Int
abbrev mn(r:kb):f9:=.tuple [t3 r.1,.int r.2]
def kS:List kb->Nat->Rat
 | [],_=>0
 |r::l,i=>K3 r.1 (r.2:Rat) i+kS l i
theorem uX(i:Nat)(a b:List kb):kS (a++b) i=kS a i+kS b i:=by
 induction a with
 |nil=>show _=0+_;grind
 |cons r l ih=>show K3 _ _ i+kS (l++b) i=K3 _ _ i+kS l i+_;rw[ih];rw[mO]
theorem ZE(i:Nat)(g:Nat->List kb)(n:Nat):kS ((D3 n).flatMap g) i=v5 (λt=>kS (g t) i) n:=by
 induction n with
 |zero=>rfl
 |succ n ih=>
  rw[bL,mX,uX,ih];show _=v5 _ n+kS (g n) i;simp
theorem a2E(i:Nat)(g:Nat->kb)(n:Nat):kS ((D3 n).map g) i=v5 (λt=>K3 (g t).1 ((g t).2:Rat) i) n:=by
 induction n with
 |zero=>rfl
 |succ n ih=>
  rw[bL,W4,uX,ih];show _+(K3 _ _ i+0)=v5 _ n+_;rw[vD]
theorem ZF(i:Nat)(g:Nat->kb)(p:Nat->Bool)(n:Nat):kS (((D3 n).filter p).map g) i=v5 (λt=>if p t=Uf then K3 (g t).1 ((g t).2:Rat) i else 0) n:=by
 induction n with
 |zero=>rfl
 |succ n ih=>
  rw[bL,QO,W4,uX,ih];show _=v5 _ n+(if p n=Uf then K3 (g n).1 _ i else 0);by_cases c:p n=Uf;rw[Aw,r9 c,r9 c];show _+(K3 _ _ i+0)=_;rw[vD];rw[Aw,s9 c,s9 c];show _+0=_;rfl
theorem cons_of{d:f9}(a:G r=sd d)(b:c8 r=U l):t4 G c8 r=U (d::l):=by unfold t4;rw[a,A4,b,A4];rfl
theorem uD(a:c8 r=U l)(b:l.length<=1000000:=by simp):v9 c8 r=sd (.tuple l):=by unfold v9;rw[a];exact r9 b
theorem OW(a:c8 r=U l)(b:l.length<=1000000:=by simp):N6 c8 r=U (.own l):=by unfold N6;rw[a];exact r9 b
section
variable{h:A7}{T:Sx.Tb}{P Q W:Nat->Nat->Rat}
abbrev dR(h:A7)(T:Sx.Tb):Int:=h.left.2*(h.kept.2*dP h T)
theorem Mu(H:G4 h)(K:Sx.Ok (A5 h).pb T):nj (dR h T):=⟨M3 H.l.pos (M3 H.k.pos (zF H K).pos),(H.l.bb.mul (H.k.bb.mul (H.l.bb.mul (H.k.bb.mul (rz H K).1)))).mono f5⟩
theorem zR(a:Zp (dP h T) e y):Zp (dR h T) e y:=a.mono ⟨h.left.2*h.kept.2,by show h.left.2*(h.kept.2*dP h T)=_;rw[<-O0,K7]⟩ (ku _)
theorem qg(a:F0 m q)(b:0<q.1/\q.1<=q.2):Sz q.2 1 (val q):=by refine⟨?_⟩;rw[<-ip a.pos a.low];exact⟨a.pos,a.low,fq _,by omega⟩
theorem zRk(H:G4 h)(a:Zp (dP h T) e y):Zp (dR h T) e (y * -val h.kept):=by have:=(a.mul (qg H.k H.k0).neg);rw[gs]at this;exact this.mono ⟨h.left.2,by show h.left.2*(h.kept.2*dP h T)=_;rw[K7 h.left.2,K7 h.kept.2]⟩ (ku _)
theorem zRl(H:G4 h)(a:Zp (dP h T) e y):Zp (dR h T) e (y * -val h.left):=by have:=(a.mul (qg H.l H.l0).neg);rw[gs]at this;exact this.mono ⟨h.kept.2,by show h.left.2*(h.kept.2*dP h T)=_;rw[K7 h.kept.2,<-O0,K7 h.left.2]⟩ (ku _)
theorem zN(a:Zp D e y):Zp D e (y * -1):=by
 rw[show y * -1 = -y by grind];exact a.neg
structure Kx(h:A7)(T:Sx.Tb)(P Q W:Nat->Nat->Rat):Prop where
 p:∀t,t<h.n->∀i,i<3->Zp (dP h T) 1030 (P t i)
 q:∀t,t<h.n->∀i,i<3->Zp (dP h T) 1030 (Q t i)
 w:∀j,j<h.w->∀i,i<3->Zp (dP h T) 1030 (W j i)
abbrev yP(h:A7)(P Q W:Nat->Nat->Rat):f9:=.tuple [.tuple (rl h.n λt=>t3 (P t)),.tuple (rl h.n λt=>t3 (Q t)),.tuple (rl h.w λj=>t3 (W j))]
abbrev Gs(h:A7)(Q:Nat->Nat->Rat)(t:Nat):Nat->Rat:=if t+1<h.hs.length then Q (t+1)else aX (h.rest:Rat)
abbrev nM(h:A7)(t j:Nat):Bool:=decide ((h.ws.getD j P6).first<=(t:Int))&&decide ((t:Int)<=(h.ws.getD j P6).last)
abbrev Ex(h:A7)(P Q:Nat->Nat->Rat)(t:Nat):List kb:=[(λi=>aX (eM (h.hr t)) i+P t i * -1,gg (h.hr t)),(λi=>P t i+aX (fc (h.hr t)) i * -1,gf (h.hr t)),(λi=>P t i+Q t i * -val h.kept,h.fill),(λi=>Q t i+P t i * -val h.left,h.take),(λi=>uA 0 i+P t i * -1,(h.hr t).need),(λi=>Q t i+Gs h Q t i * -1,h.size)]
abbrev Jl(h:A7)(P W:Nat->Nat->Rat)(t j:Nat):kb:=(λi=>P t i+W j i * -1,(h.ws.getD j P6).most)
abbrev tV(h:A7)(P Q W:Nat->Nat->Rat)(t:Nat):List kb:=Ex h P Q t++((D3 h.ws.length).filter (nM h t)).map (Jl h P W t)
abbrev Nz(h:A7)(W:Nat->Nat->Rat)(j:Nat):kb:=(λi=>uA 1 i+W j i * -1,(h.ws.getD j P6).L5)
theorem lU(f:Nat->f9)(a:e<m):K6 (.tuple (rl m f)) (.int (e:Int))=sd (f e):=by
 show(aA _ _).bind _=_;rw[N4 _ a];rfl
theorem BV(a:Int):gD [.int a]=sd (t3 (aX (a:Rat))):=rfl
theorem Gh(a:Int)(b : -1000000<=a/\a<=1000000)(i:Nat):Zp D 1030 (aX (a:Rat) i):=by
 unfold aX;split;exact IW b (by decide);exact IX
theorem KH(k i:Nat):Zp D 1030 (uA k i):=by
 unfold uA;split;exact IW f5 (by decide);exact IX
theorem ro1:RO (-1):=(Sz.int (D:=1) (M:=1) f5).ok ⟨by decide,⟨by decide⟩⟩ f5
theorem rm(hD:nj D){g:Nat->Rat}(a:∀i,i<3->Zp D 1030 (v i))(b:∀i,i<3->Zp D 1030 (g i)):V9 [t3 v,t3 g,.tuple [.int 1,.int 1]]=sd (t3 λi=>v i+g i * -1):=by
 have e:=wL (λi c=>fB hD (a i c) (by decide)) (λi c=>fB hD (b i c) (by decide)) ro1 (λi c=>fB hD (zN (b i c)) (by decide));exact e
theorem a3f(H:G4 h)(O:Kx h T P Q W)(i:Nat)(a:i<3):Zp (dP h T) 1030 (Gs h Q m i):=by
 show Zp _ _ ((if m+1<h.hs.length then Q _ else aX _) i);by_cases c:m+1<h.hs.length;rw[r9 c];exact O.q _ c i a;rw[s9 c];exact Gh _ (by have:=H.re;lia) i
theorem WT(x:Hr):K6 (tX x) (.int 1)=sd (.int (gg x))/\K6 (tX x) (.int 3)=sd (.int (gf x)):=by
 obtain⟨s,n,l⟩:=x;cases l with
 |none=>exact⟨rfl,rfl⟩
 |some l=>exact⟨rfl,rfl⟩
abbrev reS(h:A7)(t:Nat)(d x3 x5 x6 x7 x8:f9)(l:List kb)(y z:Option PV):Ds:=[sd (A8 h),sd d,sd (.int (t:Int)),sd x3,sd (eF h),sd x5,sd x6,sd x7,sd x8,U (.own (l.map mn)),y,z]
theorem Xl(h:G r=sd A)(a:r[m]?=U (U (.own l)))(b:l.length<1000)(e:r.set m (U (.own (l++[A])))=L):aW m G r=U (.next L):=by rw[oB,h,gk _ a (ky b f5)];exact C2 (λz=>U _) e
theorem SY(H:G4 h)(K:Sx.Ok (A5 h).pb T)(O:Kx h T P Q W)(a:m<h.n):gT [A8 h,yP h P Q W,.int (m:Int)]=U (.own ((tV h P Q W m).map mn)):=by
 have hD:=zF H K;have hR:=Mu H K;have n4:h.n<=24:=H.n4;have w2:h.w<=2:=H.w2;obtain⟨l1,l2,l3⟩:=BP (h.hr m);obtain⟨l4,l5⟩:=WT (h.hr m);obtain⟨⟨a0,a1⟩,c0,c1⟩:=Fs H a;have p:=O.p m a;have q:=O.q m a;have R:∀{f:Nat->Rat},(∀i,i<3->Zp (dP h T) 1030 (f i))->R3 f:=λz i c=>fB hD (z i c) (by decide)
 have fk:fr h.kept=qd (val h.kept):=nY H.k;have fl:fr h.left=qd (val h.left):=nY H.l;have e3:V9 [t3 (P m),t3 (Q m),fr h.kept]=sd (t3 λi=>P m i+Q m i * -val h.kept):=by rw[fk];exact wL (R p) (R q) (fB ⟨H.k.pos,H.k.bb.mono f5⟩ (e:=0) (qg H.k H.k0).neg (by decide)) λi c=>fB hR (zRk H (q i c)) (by decide)
 have e4:V9 [t3 (Q m),t3 (P m),fr h.left]=sd (t3 λi=>Q m i+P m i * -val h.left):=by rw[fl];exact wL (R q) (R p) (fB ⟨H.l.pos,H.l.bb.mono f5⟩ (e:=0) (qg H.l H.l0).neg (by decide)) λi c=>fB hR (zRl H (p i c)) (by decide)
 generalize hd:yP h P Q W=d;have d0:f6 (f6 A2 B3) C3=f6 (f6 A2 B3) C3:=rfl;refine K8 rfl ?_;refine t6 (v7 (pv:=.dat (D2 (h.hr m))) (rB h a) rfl) ?_;refine t6 (v7 (pv:=.dat (eF h)) rfl rfl) ?_;refine t6 (v7 (pv:=.dat (t3 (P m))) (by subst hd;exact lU (λm=>t3 (P m)) a) rfl) ?_;refine t6 (v7 (pv:=.dat (t3 (Q m))) (by subst hd;exact lU (λm=>t3 (Q m)) a) rfl) ?_
 let Y:=t3 (aX (h.rest:Rat))
 refine t6 (ds1:=[sd (A8 h),sd d,sd (.int (m:Int)),sd (D2 (h.hr m)),sd (eF h),sd (t3 (P m)),sd (t3 (Q m)),sd Y,J,J,J,J]) (v7 (pv:=.dat Y) (aa rfl (BV _)) rfl) ?_;refine t6 (ds1:=[sd (A8 h),sd d,sd (.int (m:Int)),sd (D2 (h.hr m)),sd (eF h),sd (t3 (P m)),sd (t3 (Q m)),sd (t3 (Gs h Q m)),J,J,J,J]) (R9 (b:=decide (m+1<h.hs.length)) (bV ((B8 (x:=.dat (.int ((m:Int)+1))) (y:=.dat (.int (h.n:Int))) rfl (aa (x:=.dat (.tuple (h.hs.map D2))) rfl (by delta C7 d1;simp))).trans (by
  show oV (.int _) (.int _)=_;rw[JN]
  congr 3
  exact propext (show((m:Int)+1<(h.hs.length:Int))↔m+1<h.hs.length by omega)))) ?_) ?_
 show _=U (Out.next [sd (A8 h),sd d,sd (.int (m:Int)),sd (D2 (h.hr m)),sd (eF h),sd (t3 (P m)),sd (t3 (Q m)),sd (t3 (if m+1<h.hs.length then Q (m+1)else aX (h.rest:Rat))),J,J,J,J]);by_cases c:m+1<h.hs.length;rw[r9 (cy c),r9 c];refine v7 (pv:=.dat (t3 (Q (m+1)))) ?_ rfl;subst hd;exact lU (λm=>t3 (Q m)) c;rw[s9 (by simp[c]),s9 c];rfl
 let V:Ds:=[sd (A8 h),sd d,sd (.int (m:Int)),sd (D2 (h.hr m)),sd (eF h),sd (t3 (P m)),sd (t3 (Q m)),sd (t3 (Gs h Q m)),sd (tX (h.hr m)),J,J,J]
 refine t6 (ds1:=V) (v7 (aa rfl l1) rfl) ?_
 let Uff:=λ(l:List kb) (y z:Option PV)=>reS h m d (D2 (h.hr m)) (t3 (P m)) (t3 (Q m)) (t3 (Gs h Q m)) (tX (h.hr m)) l y z
 have ap:∀{l:List kb}{r:kb}{A:DV}{y z:Option PV},A (Uff l y z)=sd (mn r)->l.length<1000->aW 9 A (Uff l y z)=U (.next (Uff (l++[r]) y z)):=λ{l r A y z} e g=>Xl e rfl (by rw[F9];exact g) (by show _=([_,_,_,_,_,_,_,_,_,U (.own ((l++[r]).map mn)),y,z]:Ds);rw[W4];rfl);have row:∀{ds:Ds}{A B:DV}{r:kb},A ds=sd (t3 r.1)->B ds=sd (.int r.2)->v9 (t4 A (t4 B B1)) ds=sd (mn r):=λe f=>uD (cons_of e (cons_of f rfl));refine t6 (ds1:=Uff [(λi=>aX (eM (h.hr m)) i+P m i * -1,gg (h.hr m)),(λi=>P m i+aX (fc (h.hr m)) i * -1,gf (h.hr m))] J J) ?_ ?_
 . have e:N6 (v8 (v9 (v8 (f7 V9 (F8 (f7 gD (B2 (f6 dN B3))) R6 (v9 (v8 A1 A1)))) (f6 dN A1))) (v9 (v8 (f7 V9 (F8 R6 (f7 gD (B2 (f6 dN K5))) (v9 (v8 A1 A1)))) (f6 dN bE)))) V=U (.own [mn (λi=>aX (eM (h.hr m)) i+P m i * -1,gg (h.hr m)),mn (λi=>P m i+aX (fc (h.hr m)) i * -1,gf (h.hr m))]):=
     OW (cons_of (row (jg (x:=.dat (t3 (aX (eM _)))) (aa (CV rfl l2) (BV _)) rfl rfl (rm hD (λi _=>Gh _ ⟨a0,a1⟩ i) p)) (CV rfl l4)) (cons_of (row (jg rfl (aa (CV rfl l3) (BV _)) rfl (rm hD p (λi _=>Gh _ ⟨c0,c1⟩ i))) (CV rfl l5)) rfl))
   unfold U5;rw[e];rfl
 refine t6 (ap (r:=(λi=>P m i+Q m i * -val h.kept,h.fill)) (row (c3 e3 rfl rfl rfl) rfl) (by simp)) (t6 (ap (r:=(λi=>Q m i+P m i * -val h.left,h.take)) (row (c3 e4 rfl rfl rfl) rfl) (by simp)) (t6 (ap (r:=(λi=>uA 0 i+P m i * -1,(h.hr m).need)) (row (c3 (rm hD (λi _=>KH 0 i) p) rfl rfl rfl) rfl) (by simp)) (t6 (ap (r:=(λi=>Q m i+Gs h Q m i * -1,h.size)) (row (c3 (rm hD q (a3f H O)) rfl rfl rfl) rfl) (by simp)) ?_)))
 obtain⟨s,f,y,z,rfl⟩:=aI (gt:=D7 10) (G:=js) (n:=h.w)
  (λk s=>∃y z,s=Uff (Ex h P Q m++((D3 k).filter (nM h m)).map (Jl h P W m)) y z) ⟨J,J,by show _=Uff (Ex h P Q m++[]) J J;rw[af]⟩ (by
   rintro k s b ⟨y,z,rfl⟩;rw[O8];have:(((D3 k).filter (nM h m)).map (Jl h P W m)).length<=k:=by
    rw[F9];have:=Rl (nM h m) (D3 k)
    rwa [kF]at this
   have wk:f6 (f6 u5 K5) oK (Uff (Ex h P Q m++((D3 k).filter (nM h m)).map (Jl h P W m)) (sd _) z)=sd _:=(B8 (x:=.dat (.tuple _)) (y:=.dat (.int _)) rfl rfl).trans (wj h b);have pw:f6 (f6 A2 K5) oK (Uff (Ex h P Q m++((D3 k).filter (nM h m)).map (Jl h P W m)) (sd _) (sd (P4 (h.wk k))))=sd _:=(B8 (x:=.dat (.tuple (rl h.w λj=>t3 (W j)))) (y:=.dat (.int _)) (by subst hd;rfl) rfl).trans (lU _ b);refine⟨Uff _ (sd _) z,Uff _ (sd (.int k)) (sd (P4 (h.wk k))),rfl,.inl (t6 (v7 wk rfl) (R9 (b:=nM h m k) ?_ ?_)),_,_,rfl⟩;exact WU rfl rfl rfl rfl
   . rw[bL,QO,W4];by_cases c:nM h m k=Uf;rw[r9 c,Aw,r9 c];refine(ap (r:=Jl h P W m k) (row (c3 (rm hD p (O.w k b)) rfl pw rfl) rfl) (by rw[T7];show 6+_<1000;omega)).trans ?_;rw[AB];rfl
     . rw[s9 c,Aw,s9 c];show U _=U (Out.next (Uff (_++(_++[])) _ _))
       rw[af];rfl)
 refine t6 (ds1:=Uff _ y z) ?_ rfl
 let X:=Uff (Ex h P Q m) J J
 exact wZ (aa rfl (ze h)) (by exact B7 u4 f5) f
end
section
variable{h:A7}{T:Sx.Tb}
structure RwO(h:A7)(T:Sx.Tb)(r:kb):Prop where
 f:∀i,i<3->Zp (dR h T) 1034 (r.1 i)
 m:0<=r.2/\r.2<=1000000
abbrev cP:Int:=2^1060
abbrev TtO(h:A7)(T:Sx.Tb)(k:Nat)(f:Nat->Rat):Prop:=∀i,i<3->Sz (dR h T) (cP*k) (f i)
theorem KN(hD:nj D)(a:Sz D (cP*m) y)(b:m<=900):RO y:=by
 have e:cP*m<=2^1070:=by
  have:2^1070=cP*1024:=by
   rw[show 1070=1060+10 from rfl,Int.pow_add];exact C2 _ (by rfl)
  rw[this];exact fX (by lia) (S9 (GB f5))
 exact fB hD (a.mono (fq _) e) (by decide)
theorem yB{k:Nat}(a:Sz D (cP*k) u)(b:Zp D e y)(c:e<=1060):Sz D (cP*(k+1:Nat)) (u+y):=by
 have:=a.add (Wc b c)
 rwa [show cP*k+2^1060=cP*(k+1:Nat) by rw[Int.natCast_add,dX];simp]at this
theorem a5O{r:kb}(O:RwO h T r)(a:m<3):Zp (dR h T) 1054 (K3 r.1 (r.2:Rat) m):=by
 unfold K3;split;exact Cw (O.f m a) (by have:=O.m;lia);exact IX
theorem zj(a : -1000000<=E/\E<=1000000):RO (E:Rat):=(Sz.int (D:=1) (M:=2^20) (by have:2^20=1048576:=f5;omega)).ok ⟨by decide,⟨by decide⟩⟩ f5
abbrev pd(h:A7)(d:f9)(f:Nat->Rat)(x4 x5 x6 x7 y z:Option PV):Ds:=[sd (A8 h),sd d,sd (t3 n0),sd (t3 f),x4,x5,x6,x7,y,z]
theorem yf{x5 x6 x7 y z:Option PV}{f:Nat->Rat}(e:∀i,i<3->f i=v i):pd h A f K x5 x6 x7 y z=pd h A v K x5 x6 x7 y z:=by rw[show pd h A f K x5 x6 x7 y z=[sd _,sd A,sd _,sd (t3 f),K,x5,x6,x7,y,z]from rfl,a0P e]
theorem NA(H:G4 h)(K:Sx.Ok (A5 h).pb T){d:f9}{x4 x5 x6 x7:Option PV}:∀(l:List kb) (f:Nat->Rat) (k:Nat) (y z:Option PV),(∀r∈l,RwO h T r)->TtO h T k f->k+l.length<=900 ->
  ∃y' z',V6 (du 2 (M1 8 (M1 9 dA))) eh (l.map mn) (pd h d f x4 x5 x6 x7 y z)=U (.next (pd h d (λi=>f i+kS l i) x4 x5 x6 x7 y' z')):=by
 have hR:=Mu H K;intro l;induction l with
 |nil=>intro f k y z _ _ _;exact⟨y,z,by rw[show pd h d (λi=>f i+kS [] i) x4 x5 x6 x7 y z=pd h d f x4 x5 x6 x7 y z from yf λi _=>by show f i+0=f i;grind];rfl⟩
 |cons r l ih=>
  intro f k y z o t b;have O:=o r F2;have:k+(l.length+1)<=900:=b;obtain⟨m0,m1⟩:=O.m;have rr:=λi c=>fB hR (O.f i c) (by decide)
  have st:eh (pd h d f x4 x5 x6 x7 (sd (t3 r.1)) (sd (.int r.2)))=U (.next (pd h d (λi=>f i+K3 r.1 r.2 i) x4 x5 x6 x7 (sd (t3 r.1)) (sd (.int r.2)))):=by
   refine R9 (bV (c2 (Gj rr) rfl rfl)) ?_;by_cases c:n3 r.1=Uf;rw[r9 c];exact v7 (pv:=.dat (t3 λi=>f i+r.1 i*r.2)) (c3 (wJ (λi a=>KN hR (t i a) (by lia)) rr (zj (by lia)) λi a=>fB hR (Cw (O.f i a) (by lia)) (by decide)) rfl rfl rfl) (yf (f:=λi=>f i+r.1 i*r.2) λi _=>by unfold K3;rw[r9 c]);rw[s9 c];exact C2 _ (yf λi _=>by unfold K3;rw[s9 c];grind)
  obtain⟨y',z',e⟩:=ih _ _ _ _ (λr' m=>o r' (E7 _ m)) (λi a=>yB (t i a) (a5O O a) (by decide)) (by lia);refine⟨y',z',?_⟩;rw[E8,O6 rfl st,e];exact C2 (λz=>U _) (yf λi _=>by show f i+K3 r.1 r.2 i+kS l i=f i+(K3 r.1 r.2 i+kS l i);rw[mO])
theorem a2v(H:G4 h)(a:m<h.n):(0<=gg (h.hr m)/\gg (h.hr m)<=1000000)/\0<=gf (h.hr m)/\gf (h.hr m)<=1000000:=by
 unfold gg gf;cases e:(h.hr m).line with
 |none=>exact⟨⟨f5,f5⟩,f5,f5⟩
 |some l=>
  obtain⟨x,y,u,v⟩:=l;have:=H.ln m _ _ _ _ a e;exact⟨this.2.1,this.2.2.2⟩
theorem a0Y{Q W:Nat->Nat->Rat}(H:G4 h)(O:Kx h T X Q W)(a:m<h.n):∀r∈tV h X Q W m,RwO h T r:=by
 obtain⟨lb,ld⟩:=a2v H a;obtain⟨la,lc⟩:=Fs H a;have s:∀{x y:Rat},Zp (dR h T) 1030 x->Zp _ 1030 y->Zp _ 1034 _:=λu v=>zpA u v (by decide) (by decide);have p:=λi c=>zR (O.p m a i c);have q:=λi c=>zR (O.q m a i c)
 intro r P;rcases List.mem_append.mp P with P|P
 . simp only[bu,kh,or_false]at P;rcases P with rfl|rfl|rfl|rfl|rfl|rfl
   exact⟨λi c=>s (Gh _ la i) (zN (p i c)),lb⟩;exact⟨λi c=>s (p i c) (zN (Gh _ lc i)),ld⟩;exact⟨λi c=>s (p i c) (zRk H (O.q m a i c)),H.fl⟩;exact⟨λi c=>s (q i c) (zRl H (O.p m a i c)),H.tk⟩;exact⟨λi c=>s (KH 0 i) (zN (p i c)),((H.hr m a).2.2)⟩;exact⟨λi c=>s (q i c) (zN (zR (a3f H O i c))),W3 H.st.1 H.st.2.1,H.st.2.2⟩
 obtain⟨j,f,rfl⟩:=mem_map.mp P;have b:=mem_range.mp (mem_filter.mp f).1;exact⟨λi c=>s (p i c) (zN (zR (O.w j b i c))),(H.wk j b).2.2⟩
theorem Jm{P Q W:Nat->Nat->Rat}(t:Nat):(tV h P Q W t).length<=6+h.w:=by rw[T7,F9];have:=Rl (nM h t) (D3 h.ws.length);rw[kF]at this;exact Nat.add_le_add_left this 6
abbrev qT(h:A7)(P Q W:Nat->Nat->Rat)(n w:Nat):List kb:=(D3 n).flatMap (tV h P Q W)++(D3 w).map (Nz h W)
def tT(h:A7)(P Q W:Nat->Nat->Rat)(n w i:Nat):Rat:=0+Q 0 i * -(h.start:Rat)+v5 (λt=>P t i*(((h.hr t).need-(h.hr t).S6:Int):Rat)) n+v5 (λj=>W j i*((h.wk j).L5:Rat)) w
theorem KR{Q W:Nat->Nat->Rat}(H:G4 h)(O:Kx h T X Q W)(b:m<=h.w):∀{n:Nat},n<=h.n->TtO h T (1+n+m) (tT h X Q W n m):=by
 intro n a i c;have:=H.st;have A:∀k,k<=h.n->Sz _ (cP*(1+k)) (0+Q 0 i * -h.start+v5 (λt=>X t i*(((h.hr t).need-(h.hr t).S6:Int))) k):=λk=>by
  induction k with
  |zero=>
   intro _;have:=yB (k:=0) (Sz.zero (by decide)) (zR (Cw (i:=-h.start) (O.q 0 H.n1 i c) (by lia))) (by decide)
   rwa [show 0+Q 0 i * -h.start+v5 _ 0=0+Q 0 i * -h.start from vD _]
  |succ k ih=>
   intro a;have n:=H.hr k a;have:=yB (ih (br a)) (zR (Cw (i:=(h.hr k).need-(h.hr k).S6) (O.p k a i c) (by have:0<=(h.hr k).S6/\(h.hr k).S6<=1000000/\0<=(h.hr k).need/\(h.hr k).need<=1000000:=n;lia))) (by decide);show Sz _ _ (0+Q 0 i * -h.start+(v5 _ k+X k i*(((h.hr k).need-(h.hr k).S6:Int))))
   rwa [<-mO]
 induction m with
 |zero=>exact(show Sz _ _ (_+0) by rw[vD];exact A n a)
 |succ m ih=>
  have P:=(H.wk m b);have:=yB (ih (br b)) (zR (Cw (i:=(h.wk m).L5) (O.w m b i c) (by have:0<=(h.wk m).L5/\(h.wk m).L5<=1000000:=⟨P.1,P.2.1⟩;lia))) (by decide);show Sz _ _ (_+(v5 _ m+W m i*((h.wk m).L5)))
  rwa [<-mO]
theorem Vk{P Q W:Nat->Nat->Rat}(H:G4 h)(K:Sx.Ok (A5 h).pb T)(O:Kx h T P Q W):da [A8 h,yP h P Q W]=sd (t3 λi=>tT h P Q W h.n h.w i+kS (qT h P Q W h.n h.w) i):=by
 have hD:=zF H K;have hR:=Mu H K;have n4:h.n<=24:=H.n4;have w2:h.w<=2:=H.w2;have st:=H.st;have n1:0<h.n:=H.n1;have R:∀{f:Nat->Rat},(∀i,i<3->Zp (dP h T) 1030 (f i))->R3 f:=λz i c=>fB hD (z i c) (by decide);generalize hd:yP h P Q W=d
 let Uff:=λ(n w:Nat) (x5 x6 x7:Option PV)=>pd h d (tT h P Q W n w) (U (.own ((qT h P Q W n w).map mn))) x5 x6 x7 J J
 have len:∀n,n<=h.n->((D3 n).flatMap (tV h P Q W)).length<=n*8:=λn=>by
  induction n with
  |zero=>intro _;exact V1 _
  |succ n ih=>
   intro a;rw[bL,mX,T7];have:=ih (br a);have:=Jm (h:=h) (P:=P) (Q:=Q) (W:=W) n;simp only[vP,vM,af];omega
 obtain⟨s,f,x5,x6,x7,rfl⟩:=aI (gt:=D7 5) (G:=ej) (lo:=0) (n:=h.n) (ds:=Uff 0 0 J J J)
  (λn s=>∃x5 x6 x7,s=Uff n 0 x5 x6 x7) ⟨J,J,J,rfl⟩ (by
   rintro n s a ⟨x5,x6,x7,rfl⟩;rw[O8];have nh:=H.hr n a;have nb:0<=(h.hr n).S6/\(h.hr n).S6<=1000000/\0<=(h.hr n).need/\(h.hr n).need<=1000000:=nh;refine⟨Uff n 0 (sd (.int (n:Int))) x6 x7,Uff (n+1) 0 (sd (.int (n:Int))) x6 x7,rfl,.inl ?_,_,_,_,rfl⟩
   let V:=Uff n 0 (sd (.int (n:Int))) x6 x7
   have hh:f6 (f6 u5 B3) R6 V=sd (D2 (h.hr n)):=(B8 (x:=.dat (.tuple (h.hs.map D2))) (y:=.dat (.int (n:Int))) rfl rfl).trans (rB h a);have hp:f6 (f6 A2 B3) R6 V=sd (t3 (P n)):=(B8 (x:=.dat (.tuple (rl h.n λt=>t3 (P t)))) (y:=.dat (.int (n:Int))) (by subst hd;rfl) rfl).trans (lU (λt=>t3 (P t)) a)
   let X:=f6 (f6 u5 B3) R6
   have by':v9 (v8 (u3 di (f6 X A1) (f6 X B3)) A1) V=sd (qd (((h.hr n).need-(h.hr n).S6:Int):Rat)):=uD (cons_of (d:=.int ((h.hr n).need-(h.hr n).S6)) ((B8 (x:=.dat (.int (h.hr n).need)) (y:=.dat (.int (h.hr n).S6)) (CV hh rfl) (CV hh rfl)).trans rfl) (cons_of rfl rfl));unfold ej;refine t6 (ds1:=pd h d (tT h P Q W (n+1) 0) (U (.own ((qT h P Q W n 0).map mn))) (sd (.int (n:Int))) x6 x7 J J) (v7 (pv:=.dat (t3 λi=>tT h P Q W n 0 i+P n i*(((h.hr n).need-(h.hr n).S6:Int):Rat))) (c3 (wJ (λi c=>KN hR (KR H O (iH _) (br a) i c) (by lia)) (R (O.p n a)) (zj (by lia)) λi c=>fB hD (Cw (O.p n a i c) (by lia)) (by decide)) rfl hp by') (yf (f:=λi=>tT h P Q W n 0 i+P n i*(((h.hr n).need-(h.hr n).S6:Int):Rat)) λi _=>by
     show 0+Q 0 i * -(h.start:Rat)+v5 (λt=>P t i*(((h.hr t).need-(h.hr t).S6:Int):Rat)) n+0+P n i*(((h.hr n).need-(h.hr n).S6:Int):Rat)=0+Q 0 i * -(h.start:Rat)+(v5 (λt=>P t i*(((h.hr t).need-(h.hr t).S6:Int):Rat)) n+P n i*(((h.hr n).need-(h.hr n).S6:Int):Rat))+0
     grind)) ?_
   have l1:=len n (br a);have l2:=Jm (h:=h) (P:=P) (Q:=Q) (W:=W) n;refine zD (l:=(qT h P Q W n 0).map mn) (m:=(tV h P Q W n).map mn) (c3 (by subst hd;exact SY H K O a) rfl rfl rfl) rfl (by rw[F9,F9,T7];show _+0+_<=_;omega) ?_;show pd h d (tT h P Q W (n+1) 0) (U (PV.own ((qT h P Q W n 0).map mn++(tV h P Q W n).map mn))) _ _ _ _ _=_
   rw[<-W4];have:qT h P Q W n 0++tV h P Q W n=qT h P Q W (n+1) 0:=by
    show(D3 n).flatMap (tV h P Q W)++[]++tV h P Q W n=(D3 (n+1)).flatMap (tV h P Q W)++[];rw[af,af,bL,mX];simp
   rw[this])
 obtain⟨s,g,x6',x7',rfl⟩:=aI (gt:=D7 6) (G:=ei) (lo:=0) (n:=h.w) (ds:=Uff h.n 0 x5 x6 x7)
  (λw s=>∃x6 x7,s=Uff h.n w x5 x6 x7) ⟨x6,x7,rfl⟩ (by
   rintro w s a ⟨x6,x7,rfl⟩;rw[O8];have mb:=H.wk w a;have nb:0<=(h.wk w).L5/\(h.wk w).L5<=1000000:=⟨mb.1,mb.2.1⟩;refine⟨Uff h.n w x5 (sd (.int (w:Int))) x7,Uff h.n (w+1) x5 (sd (.int (w:Int))) (sd (P4 (h.wk w))),rfl,.inl ?_,_,_,rfl⟩;have wk:f6 (f6 u5 K5) aU (Uff h.n w x5 (sd (.int (w:Int))) x7)=sd (P4 (h.wk w)):=(B8 (x:=.dat (.tuple (h.ws.map P4))) (y:=.dat (.int (w:Int))) rfl rfl).trans (wj h a);have pw:∀f x4,f6 (f6 A2 K5) aU (pd h d f x4 x5 (sd (.int (w:Int))) (sd (P4 (h.wk w))) J J)=sd (t3 (W w)):=λf x4=>(B8 (x:=.dat (.tuple (rl h.w λj=>t3 (W j)))) (y:=.dat (.int (w:Int))) (by subst hd;rfl) rfl).trans (lU (λj=>t3 (W j)) a);unfold ei;refine t6 (ds1:=Uff h.n w x5 (sd _) (sd (P4 _))) (v7 wk rfl) ?_
   let Y:=tT h P Q W h.n (w+1)
   refine t6 (ds1:=pd h d Y _ x5 (sd _) (sd _) J J) (v7 (pv:=.dat (t3 λi=>tT h P Q W h.n w i+W w i*((h.wk w).L5))) (c3 (wJ (λi c=>KN hR (KR H O (br a) (V1 _) i c) (by lia)) (R (O.w w a)) (zj (by lia)) λi c=>fB hD (Cw (O.w w a i c) (by lia)) (by decide)) rfl (pw _ _) rfl) (yf (f:=λi=>tT h P Q W h.n w i+W w i*((h.wk w).L5)) λi _=>by
     show _+v5 _ w+W w i*((h.wk w).L5)=_+(v5 _ w+W w i*((h.wk w).L5))
     rw[mO])) ?_
   have:=len h.n (V1 _);refine Xl (uD (cons_of (c3 (rm hD (λi _=>KH 1 i) (O.w w a)) rfl (pw _ _) rfl) (cons_of rfl rfl))) rfl (by rw[F9,T7,F9,kF];omega) ?_;show pd h d Y (U (PV.own ((qT h P Q W h.n w).map mn++[Nz h W w].map mn))) _ _ _ _ _=_
   rw[<-W4];have:qT h P Q W h.n w++[Nz h W w]=qT h P Q W h.n (w+1):=by
    show _++(D3 w).map _++[Nz h W w]=_++(D3 _).map _;rw[bL,W4,AB];rfl
   rw[this])
 have:=len h.n (V1 _);obtain⟨y,z,k⟩:=NA (d:=d) (x4:=sd (.list ((qT h P Q W h.n h.w).map mn))) (x5:=x5) (x6:=x6') (x7:=x7') H K (qT h P Q W h.n h.w) _ _ J J (by
  intro r m;rcases List.mem_append.mp m with m|m
  obtain⟨t,a,m⟩:=mem_flatMap.mp m;exact a0Y H O (mem_range.mp a) r m
  . obtain⟨j,a,rfl⟩:=mem_map.mp m;have b:=mem_range.mp a;have mb:=H.wk j b;exact⟨λi c=>zpA (KH 1 i) (zN (zR (O.w j b i c))) (by decide) (by decide),⟨mb.1,mb.2.1⟩⟩) (KR H O (V1 _) (V1 _)) (by rw[T7,F9,kF];omega)
 refine K8 rfl (t6 rfl ?_);refine t6 (v7 (c3 (wL (λ_ _=>ro0) (R (O.q 0 n1)) (by rw[<-pL];exact zj (by lia)) λi c=>by rw[<-pL];exact fB hD (Cw (O.q 0 n1 i c) (by lia)) (by decide)) rfl (by subst hd;exact lU _ n1) rfl) (yf (f:=λi=>0+Q 0 i * -h.start) λi _=>by
  show _=0+Q 0 i * -h.start+0+0
  grind)) ?_
 refine t6 rfl (t6 (ds1:=Uff h.n 0 x5 x6 x7) ?_ ?_);exact wZ (c1 (DY h) rfl) (by exact B7 u4 f5) f;refine t6 (ds1:=Uff h.n h.w x5 x6' x7') ?_ ?_;exact wZ (c1 (ze h) rfl) (by exact B7 u4 f5) g;exact t6 k rfl
end
section
variable{T:Sx.Tb}
abbrev wP(h:A7)(X:Nat->Nat->Rat)(j i:Nat):Rat:=X (2*h.hs.length+j) i
theorem zQ(H:G4 d)(a:m<d.w):nM d e m=Uf↔(P5 d m<=e/\e<P5 d m+cK d m):=by
 have:=H.f m a;show(decide _&&decide _)=Uf↔((d.ws.getD m P6).first.toNat<=e/\e<(d.ws.getD m P6).first.toNat+((d.ws.getD m P6).last+1-(d.ws.getD m P6).first).toNat);rw[pP,pT,pT];omega
theorem a4p(H:G4 d)(a:m<3):tT d (W8 d X) (hQ d X) (wP d X) d.n d.w m+kS (qT d (W8 d X) (hQ d X) (wP d X) d.n d.w) m=Xa d X m:=by
 have s:∀{f g:Nat->Rat}{h:Rat},(∀m,f m=g m)->K3 f h m=K3 g h m:=λe=>tL (λm _=>e m) a
 have k6:∀t,kS (Ex d (W8 d X) _ t) m=JY d X t m:=λt=>by
  show K3 _ _ m+(K3 _ _ m+(K3 _ _ m+(K3 _ _ m+(K3 _ _ m+(K3 _ _ m+0)))))=_
  unfold JY;rw[s (g:=λm=>aX (eM (d.hr t)) m-W8 d X t m) λm=>by grind,s (f:=λm=>W8 d X t m+aX _ m * -1) (g:=λm=>W8 d X t m-aX (fc (d.hr t)) m) λm=>by grind,s (f:=λm=>W8 d X t m+hQ d X t m * -val d.kept) (g:=λm=>W8 d X t m-hQ d X t m*val d.kept) λm=>by grind,s (f:=λm=>hQ d X t m+W8 d X t m * -val d.left) (g:=λm=>hQ d X t m-W8 d X t m*val d.left) λm=>by grind,s (f:=λm=>uA 0 m+W8 d X t m * -1) (g:=λm=>uA 0 m-W8 d X t m) λm=>by grind,s (f:=λm=>hQ d X t m+Gs d _ t m * -1) λm=>by
   show hQ d X t m+(if t+1<d.hs.length then hQ d X _ else aX _) m * -1=hQ d X t m-(if t+1<d.hs.length then fD d.n X (d.n-(t+1)) m else aX d.rest m);by_cases c:t+1<d.hs.length;rw[r9 c,r9 c];grind
   . rw[s9 c,s9 c];grind]
  grind
 have kL:∀t,kS (tV d _ _ (wP d X) t) m=JY d X t m+v5 (λj=>if P5 d j<=t/\t<P5 d j+cK d j then Jb d X t j m else 0) d.w:=λt=>by
  rw[uX,k6,ZF];refine C2 _ (B4 _ λj b=>?_);by_cases c:P5 d j<=t/\t<P5 d j+cK d j
  . rw[r9 c,r9 ((zQ H b).mpr c)];exact s λm=>by show W8 d X t m+X _ m * -1=_;grind
  rw[s9 c,s9 λe=>c ((zQ H b).mp e)]
 have kU:v5 (λj=>K3 (Nz d (wP d X) j).1 _ m) d.w=v5 (λj=>unK d X j m) d.w:=B4 _ λj _=>s λm=>by show uA 1 m+X _ m * -1=_;grind
 rw[uX,ZE,a2E,B4 _ λt _=>kL t,kU];unfold tT Xa;grind
theorem a5B(a:Zp D e y)(x:Hr):Zp D e (y*cF x):=by
 unfold cF;split;rw[Rat.mul_one];exact a;exact zN a
theorem a1F(H:G4 d)(K:Sx.Ok (A5 d).pb T):Kx d T (W8 d (bW d T)) (hQ d (bW d T)) (wP d (bW d T)):=by
 have:d.n<=24:=H.n4;have z:∀p,p<hM d->∀i,i<3->Zp _ 1000 _:=λp a i b=>(Lj H K a b).1;refine⟨λt a i b=>a5B (Wc (z t (by show t<2*d.n+d.w;lia) i b) (by decide)) _,λt a i b=>Wc (WA z _ (by simp_all) i b) (by lia),λj a i b=>Wc (z _ (by show 2*d.n+j<2*d.n+d.w;simp_all) i b) (by decide)⟩
theorem Mn(H:G4 d)(K:Sx.Ok (A5 d).pb T)(ne:∀j,j<(A5 d).n->¬Sx.S0 (A5 d).pb T j):da [A8 d,oy d (bW d T)]=sd (t3 (cV d (eG (yK d T)))):=by
 rw[show oy d _=yP d _ _ _ from rfl,(Vk H K (a1F H K))];exact C2 _ (a0P λi a=>by rw[a4p H a,ZN H K ne a])
theorem TR(H:G4 d)(K:Sx.Ok (A5 d).pb T)(ne:∀j,j<(A5 d).n->¬Sx.S0 (A5 d).pb T j){t:Nat}(a:t<d.n):n3 (W8 d (bW d T) t)=U':=by
 have O:=gi H
 let x:Ch:=⟨k2 "spilt" t,⟨(0,1),(0,1),(0,1)⟩,J,[(t,outF (d.hr t))]⟩
 have m:x∈B5 d:=T1 _ (mem_flatMap.mpr ⟨t,mem_range.mpr a,T1 _ (T1 _ (E7 _ F2))⟩);obtain⟨b,e⟩:=vm m;have l:∀t,t<3->(0:Rat)<((A5 d).sc _)*((A5 d).mu t)*T.size:=λt h=>fo (fo (Q3 (O.sc b).1) (Q3 (O.mu h).1)) (Q3 K.J6.pos);have v:=λt h=>xP O K.J6 (t:=t) h b;have nn:=WQ (r:=λt=>T.rest (A5 d).pb t (nJ d x.k)) (l 0 f5) (l 1 f5) (l 2 f5) (v 0 f5) (v 1 f5) (v 2 f5)
 have r:∀i,i<3->lR _ T i _=W8 d (bW d T) t i:=λi h=>by
  have:lR (A5 d) T i (nJ d x.k)=rX d (bW d T) _ i:=rfl;rw[this,e,Bu rfl (by show t<2*d.n+d.w;lia),ju]
  have:val (Q0 x.c i)=0:=by show val _=0;unfold Q0;split<;>exact N8
  grind
 rw[r 0 f5,r 1 f5,r 2 f5]at nn;have ng:=λg=>by
  classical
  have:=(Dg O K ne b ⟨λ_=>g,λ_=>rfl⟩).1 rfl;exact this (by show(dS d _).t=J;rw[e])
 have:=nn.mpr ng;cases c:n3 _ with
 |false=>rfl
 |true=>exact absurd this ((OP _).mp c)
end
structure Dn(h:A7)(D:Int)(x:Dy):Prop where
 b:Sz D (2^39) x.b
 g:Sz D (2^39) x.g
 fi:Sz D (2^39) x.fi
 ta:Sz D (2^39) x.ta
 la:Sz D (2^39) x.la
 wk:∀j,j<h.ws.length->Sz D (2^39) (x.wk j)
 kf:Sz D (2^39) (val h.kept*x.fi)
 lt:Sz D (2^39) (val h.left*x.ta)
section
variable{T:Sx.Tb}
abbrev dZ(h:A7)(T:Sx.Tb):Int:=h.left.2*(h.kept.2*(T.size*(A5 h).un)*h.kept.1)
theorem Ee(H:G4 d)(K:Sx.Ok (A5 d).pb T):nj (dZ d T):=by obtain⟨a,d1⟩:=vc H;have O:=gi H;have:=gO a O.un.2.1;exact⟨M3 H.l.pos (M3 (M3 H.k.pos (M3 K.J6.pos O.un.1)) H.k0.1),(H.l.bb.mul (((H.k.bb.mul ((rz H K).1.mul (n:=8) (xf (b:=225) ⟨by decide⟩ (by have:=O.un.1;lia) (W3 u4 u4)))).mul H.k.bt))).mono f5⟩
theorem Ms(H:G4 d)(K:Sx.Ok (A5 d).pb T)(t:Nat):MF d (yK d T) t/\Dn d (dZ d T) (au d (yK d T) t):=by
 obtain⟨r,p,f⟩:=kv H;have hD:=Ee H K;have ne:∀{s:Str},s ≠ "spilt"->∀t',k2 s t≠k2 "spilt" t':=λq t' e=>q (mr e).1;have h:d.kept.2*(T.size*(A5 d).un)*d.kept.1∣dZ d T:=⟨d.left.2,by show d.left.2*_=_;rw[K7]⟩;have b:=gy ⟨d.kept.1,rfl⟩ h;have o:d.left.2*(d.kept.2*(T.size*(A5 d).un))∣dZ d T:=⟨d.kept.1,by show d.left.2*_=_;simp only[O0]⟩;have big:∀{k:List Key},(∀t,k≠k2 "spilt" t)->Sz _ (2^39) _:=λg=>(Sb H K g).mono (gy ⟨d.kept.2*d.kept.1,by rw[K7 d.kept.2,O0]⟩ h) f5;have ok:∀{k:List Key},(∀t,k≠k2 "spilt" t)->RO _:=λg=>(big g).ok hD f5;have i:∀t',k2 "filled" t≠k2 "spilt" t':=ne (by decide +kernel);have n:∀t',k2 "taken" t≠k2 "spilt" t':=ne (by decide +kernel)
 have m:Sz (d.kept.2*(T.size*(A5 d).un)) 1000000 (val d.kept*yK d T (k2 "filled" t)):=by have:=p.mul (Sb H K i);exact this
 have c:=m.sub ((Sb H K n).mono ⟨d.kept.2,by rw[K7]⟩ (ku _))
 let Uff:=val d.kept*yK d T (k2 "filled" t)-yK d T (k2 "taken" t)
 have l:Sz (d.kept.2*(T.size*(A5 d).un)) 2000000 (qX (val d.kept) (yK d T (k2 "filled" t)) (yK d T (k2 "taken" t))):=by
  unfold qX;split;rw[show 0-Uff = - Uff by grind];exact c.neg;exact Sz.zero f5
 refine⟨⟨ok i,ok n,(m.mono b (ku _)).ok hD f5,((c.mono b (ku _)).ok hD f5)⟩,big (ne (by decide +kernel)),big (ne (by decide +kernel)),?_,l.mono b f5,big (ne (by decide +kernel)),λj _=>big (λt' e=>by have:=C2 kx e;simp[k2,qc]at this),?_,?_⟩;show Sz _ _ (oO _ _ _);unfold oO;split;exact Sz.zero f5;exact(c.mul f).mono h f5;show Sz _ _ (val d.kept*oO _ _ _);unfold oO;split;rw[Rat.mul_zero];exact Sz.zero f5;rw[show val d.kept*(Uff*(val d.kept)⁻¹)=val d.kept*yK d T (k2 "filled" t)-yK d T (k2 "taken" t) by grind];exact c.mono b f5;have:=(qg H.l H.l0).mul l;exact this.mono o f5
end
theorem Dn.ok{x:Dy}(S:Dn d D x)(hD:nj D):MJ d D x:=by
 have E:∀{y:Rat},Sz D (2^39) y->RO y:=λc=>cE hD (eZ (U3 c f5)) f5;exact⟨S.b,S.g,E S.fi,E S.kf,E S.ta,U3 (S.kf.sub S.ta) f5,U3 S.la f5,λj b=>U3 (S.wk j b) f5⟩
theorem a2t(a:∀x∈l,∀y,∃ds1 y',c6 x (h8 y)=U ds1/\a7 ds1=U (.next (h8 y')))(y:Option PV):∃y',V6 c6 a7 l (h8 y)=U (.next (h8 y')):=by
 induction l generalizing y with
 |nil=>exact⟨y,rfl⟩
 |cons x G ih=>
  obtain⟨ds1,y',b,c⟩:=a x F2 y;obtain⟨z,d⟩:=ih (λx m=>a x (E7 _ m)) y';exact⟨z,by rw[O6 b c,d]⟩
theorem vf{Fi:DL}{gt:f9->DD}{G:DO}{items:List f9}{S:Option PV->Ds}{y:Option PV}(e:Fi (S y)=U items)(a:∀x∈items,∀y,∃ds1 y',gt x (S y)=U ds1/\G ds1=U (.next (S y'))):∃y',G0 Fi gt G (S y)=U (.next (S y')):=by obtain⟨y',f⟩:=a2t a y;exact⟨y',by unfold G0;rw[e,A4,f]⟩
section
variable{h:A7}
structure DyR(h:A7)(x:Dy):Prop where
 b:RO x.b
 g:RO x.g
 fi:RO x.fi
 ta:RO x.ta
 la:RO x.la
 wk:∀j,j<h.ws.length->RO (x.wk j)
theorem Fg(n:Int):dE (.int n) (.int n)=sd (.bool U'):=by rw[Fj];simp
theorem Yc(H:G4 h)(R:∀t,t<h.n->DyR h (b6 t)):qz [A8 h,.tuple (rl h.n λt=>X1 h.w (b6 t))]=sd (.bool Uf):=by
 have:h.w<=2:=H.w2;generalize hp:fV _=p;refine K8 rfl ?_
 let Uff:=[sd (A8 h),sd p,J,J]
 refine t6 (ds1:=Uff) (R9 (bO (by subst hp;rfl) (bV ((B8 (x:=.dat (.int _)) (c1 (by subst hp;exact zf _ _) rfl) (c1 (DY h) rfl)).trans (Fg _)))) rfl) ?_
 have a:∀x∈rl h.n (λt=>X1 h.w (b6 t)),∀y:Option PV,∀z:Option PV,∃z',qK [sd _,sd p,sd x,z]=U (.next [sd _,sd p,sd x,z']):=λx m y z=>by
  obtain⟨t,a,rfl⟩:=mem_map.mp m;have r:=R t (mem_range.mp a);have it:N2 (u3 C8 (ua CG C3 wG (fQ gZ)) (f6 C3 gZ)) [sd (A8 h),sd p,sd (X1 h.w (b6 t)),z]=U ([qd (b6 t).b,qd (b6 t).g,qd (b6 t).fi,qd (b6 t).ta,qd (b6 t).la]++rl h.w λj=>qd ((b6 t).wk j)):=by
   show(C8 (.tuple _) (.tuple _)).bind _=_;rw[tH (by rw[E5];show 5+_<=_;lia)];rfl
  obtain⟨z',e⟩:=vf (S:=λz=>[sd _,sd p,sd _,z]) (gt:=D7 3) (G:=qL) it λx m y=>⟨[sd _,sd p,sd _,sd x],sd x,rfl,by
   have ok:∃v,x=qd v/\RO v:=by
    rcases List.mem_append.mp m with m|m
    . simp only[bu,kh,or_false]at m;rcases m with rfl|rfl|rfl|rfl|rfl
      exact⟨_,rfl,r.b⟩;exact⟨_,rfl,r.g⟩;exact⟨_,rfl,r.fi⟩;exact⟨_,rfl,r.ta⟩;exact⟨_,rfl,r.la⟩
    obtain⟨j,b,rfl⟩:=mem_map.mp m;exact⟨_,rfl,r.wk j (mem_range.mp b)⟩
   obtain⟨v,rfl,o⟩:=ok;exact R9 (bN (bV (c1 (WW o) rfl))) rfl⟩
  refine⟨z',t6 (R9 (bO rfl (bO rfl rfl)) rfl) (t6 (R9 (bV ((B8 (c1 (zf _ _) rfl) (c1 (ze h) rfl)).trans (Fg _))) rfl) e)⟩
 obtain⟨s,f,y,z,rfl⟩:=dG (gt:=D7 2) (ds:=Uff) (λi s=>∃y z,s=[sd _,sd p,y,z]) ⟨J,J,rfl⟩ (by rintro i x s l ⟨y,z,rfl⟩;obtain⟨z',e⟩:=a x (qt l) y z;exact⟨_,_,rfl,.inl e,_,_,rfl⟩);refine t6 (ds1:=[sd (A8 h),sd p,y,z]) ?_ (Q1 rfl);unfold G0
 rwa [show N2 A2 Uff=U _ from by subst hp;rfl,A4]
theorem TQ(H:G4 h){Q W:Nat->Nat->Rat}(p:∀t,t<h.n->R3 (X t))(q:∀t,t<h.n->R3 (Q t))(w:∀j,j<h.w->R3 (W j)):gU [A8 h,yP h X Q W]=sd (.bool Uf):=by
 generalize hd:yP h X Q W=d;have one:∀{k n:Nat}{f:Nat->Nat->Rat}{hl:List f9} z,f6 A2 C3 [sd (A8 h),sd d,sd (.int k),z]=sd (.tuple _)->f6 u5 _ [sd _,sd d,sd _,z]=sd _->C7 [.tuple hl]=sd _->(∀t,t<n->R3 (f t))->∃z',fA [sd _,sd d,sd _,z]=U _:=λ{k n f hl} z e1 e2 e3 r=>by
  have it:∀z,f6 A2 C3 [sd (A8 h),sd d,sd _,z]=sd _:=λz'=>e1;obtain⟨z',e⟩:=vf (S:=λz=>[sd _,sd d,sd _,z]) (Fi:=N2 (f6 A2 C3)) (gt:=D7 3) (G:=jt) (y:=z) (by unfold N2;rw[it];rfl) λx m y=>⟨[sd _,sd d,sd _,sd x],sd x,rfl,by obtain⟨t,b,rfl⟩:=mem_map.mp m;exact R9 (bN (bV (c1 (a4m (r t (mem_range.mp b))) rfl))) rfl⟩;refine⟨z',t6 (R9 (bO (bN (b:=Uf) (bV ?_)) (bV ((B8 (c1 (zf _ _) (it z)) (c1 e3 e2)).trans (Fg _)))) rfl) e⟩;unfold fS;rw[it];rfl
 let Uff:=[sd (A8 h),sd d,J,J]
 obtain⟨s,f,y,z,rfl⟩:=dG (gt:=D7 2) (items:=rl 3 λk=>.int _) (ds:=Uff) (λi s=>∃y z,s=[sd _,sd d,y,z]) ⟨J,J,rfl⟩ (by
  rintro i x s l ⟨y,z,rfl⟩;obtain⟨k,b,rfl⟩:=mem_map.mp (qt l);have b:=mem_range.mp b;have:∃z',fA [sd (A8 h),sd d,sd (.int k),z]=U (.next [sd (A8 h),sd d,sd (.int k),z']):=by
   subst hd;rcases(tW u4)with rfl|rfl|rfl
   exact one z rfl rfl (DY h) p;exact one z rfl rfl (DY h) q;exact one z rfl rfl (ze h) w
  obtain⟨z',e⟩:=this;exact⟨_,_,rfl,.inl e,_,_,rfl⟩)
 refine K8 rfl (t6 (ds1:=Uff) (R9 (bO (by subst hd;rfl) (by subst hd;rfl)) rfl) (t6 (ds1:=[sd (A8 h),sd d,y,z]) ?_ (Q1 rfl)));unfold G0
 rwa [show F3 G9 (B2 bE) Uff=_ from SW,A4]
end
section
variable{h:A7}
theorem szp(h:Sz D (cB*m) u)(a:Sz D cB y):Sz D (cB*(m+1:Nat)) (u+y)/\Sz D (cB*(m+1:Nat)) (u-y):=by exact⟨h.add a,h.sub a⟩
theorem Gu{D:Int}(hD:nj D){gt:f9->Ds->Option Ds}{G:Ds->Option Out}{S:Rat->Option PV->Ds}{op:Rat->Rat->Rat}(a:∀{k:Nat}{r x:Rat},Sz D (cB*k) r->Sz D cB x->Sz D (cB*(k+1:Nat)) (op r x))(c:∀{r x:Rat} (y:Option PV),RO r->RO x->∃ds1 z,gt (qd x) (S r y)=U ds1/\G ds1=U (.next (S (op r x) z))):
  ∀(l:List Rat) (k:Nat) (r:Rat) (y:Option PV),(∀x∈l,Sz D cB x)->Sz D (cB*k) r->k+l.length<=900->∃z,V6 gt G (l.map qd) (S r y)=U (.next (S (l.foldl op r) z))/\Sz D (cB*(k+l.length:Nat)) (l.foldl op r)
 | [],k,r,y,_,hr,_=>⟨y,rfl,hr⟩
 |x::l,k,r,y,hx,hr,hk=>by
  have b:=hx x F2;rw[Y7]at hk;obtain⟨ds1,z,h,f⟩:=c y (cE hD hr (B7 (B7 (kE _ _) u4) f5)) (cE hD (eZ b) f5);obtain⟨g,d,i⟩:=Gu hD a c l _ _ z (λy e=>hx y (E7 _ e)) (a hr b) t9;refine⟨g,?_,?_⟩;rw[E8,O6 h f];exact d;rw[Y7,show k+(l.length+1)=k+1+l.length by lia];exact i
theorem a1b(w:Nat)(f:Nat->Rat):(rl w λj=>qd (f j))=((D3 w).map f).map qd:=by rw[fw];rfl
theorem WR(H:G4 h)(P:∀m,m<h.n->Dn h D (b6 m))(a:m<=h.n):Sz D (cB*(1+m:Nat)) (X9 h b6 m):=by
 have:=(eZ (U3 (aV (n:=h.start) (by have:=H.st;lia) (by have:=H.st;lia)) f5)).add (eD m λi b=>U3 ((P i (B7 u4 u4)).kf.sub (P i (B7 u4 u4)).ta) f5)
 rwa [<-dX]at this
def Jn(h:A7)(x:Dy)(t:Nat):Rat:=(x.g::x.fi::(D3 h.ws.length).map x.wk).foldl (λr y=>r + -y) ((((h.hs.getD t O5).S6-(h.hs.getD t O5).need:Int):Rat)+(x.b+x.la)+val h.left*x.ta)
structure HfO(h:A7)(x:Dy)(t:Nat):Prop where
 b:0<=x.b/\x.b<=(gg (h.hs.getD t O5):Rat)
 g:0<=x.g/\x.g<=(gf (h.hs.getD t O5):Rat)
 fi:0<=x.fi/\x.fi<=(h.fill:Rat)
 ta:0<=x.ta/\x.ta<=(h.take:Rat)
 la:0<=x.la/\x.la<=((h.hs.getD t O5).need:Rat)
 wk:∀j,j<h.ws.length->0<=x.wk j/\x.wk j<=((if nM h t j=Uf then(h.ws.getD j P6).most else 0:Int):Rat)
 rs:0<=Jn h x t
theorem btM(a:0<=D/\D<=1000000):Bt 60000 D:=xf ((show Bt 20 1000000 from⟨by decide⟩).mono f5) (by lia) a.2
abbrev oY(h:A7)(t:Nat)(x:Dy)(x6:f9)(x7 x8 x9 x10 x11 x12:Option PV):Ds:=[sd (A8 h),sd (.int (t:Int)),sd (X1 h.w x),sd (D2 (h.hr t)),sd (eF h),sd (tX (h.hr t)),sd x6,x7,x8,x9,x10,x11,x12]
theorem IQ(hD:nj D)(H:G4 h){x:Dy}(S:Dn h D x)(a:m<h.n)(F:HfO h x m):iY [A8 h,.int (m:Int),X1 h.w x]=sd (.bool Uf):=by
 have w2:h.w<=2:=H.w2;have E:∀{y:Rat},Sz D (2^39) y->RO y:=λc=>cE hD (eZ (U3 c f5)) f5;have B:∀{y:Rat},Sz D (2^39) y->Sz D cB y:=λc=>U3 c f5;obtain⟨lb,ld⟩:=a2v H a;obtain⟨l1,l2,l3⟩:=BP (h.hr m);obtain⟨l4,l5⟩:=WT (h.hr m);have hr:0<=(h.hr m).S6/\(h.hr m).S6<=1000000/\0<=(h.hr m).need/\(h.hr m).need<=1000000:=H.hr m a;generalize hm:mN [.int (gg (h.hr m)),.int (gf (h.hr m)),.int h.fill,.int h.take,.int (h.hr m).need]=ms;refine K8 rfl ?_;refine t6 (v7 (pv:=.dat (D2 (h.hr m))) (rB h a) rfl) ?_;refine t6 (v7 (pv:=.dat (eF h)) rfl rfl) ?_;refine t6 (v7 (c1 l1 rfl) rfl) ?_;refine t6 (ds1:=oY h m x ms J J J J J J) (v7 (pv:=.own [.int (gg (h.hr m)),.int (gf (h.hr m)),.int h.fill,.int h.take,.int (h.hr m).need]) (OW (cons_of (CV rfl l4) (cons_of (CV rfl l5) (cons_of rfl (cons_of rfl (cons_of rfl rfl)))))) (by subst hm;rfl)) ?_
 have w5:∀{v:Rat}{t:Int}{k:Nat}{y:Option PV},K6 (X1 h.w x) (.int (k:Int))=sd (qd v)->K6 ms (.int (k:Int))=sd (.int t)->Sz D (2^39) v->(0<=v/\v<=(t:Rat))->(0<=t/\t<=1000000)->kY (oY h m x ms (sd (.int (k:Int))) J J J J J)=U (.next (oY h m x ms (sd (.int (k:Int))) J J J J J)):=λ{v t k y} e f s c b=>
  R9 (bN (bV (c2 (xH (E s) c.1 c.2 (btM b)) ((B8 (x:=.dat (X1 h.w x)) (y:=.dat (.int (k:Int))) rfl rfl).trans e) ((B8 (x:=.dat ms) (y:=.dat (.int (k:Int))) rfl rfl).trans f)))) rfl
 obtain⟨y7,e7⟩:=vf (Fi:=F3 G9 (B2 gZ)) (gt:=D7 7) (S:=λy=>oY h m x ms y J J J J J) (items:=rl 5 λk=>.int (k:Int)) (by
  show G9 [.int 5]=_;rw[T8 (by decide)]
  exact C2 U (T9 λk _=>by rw[O8])) λz t y=>by
  obtain⟨k,b,rfl⟩:=mem_map.mp t;have b:=mem_range.mp b;refine⟨oY h m x ms (sd (.int (k:Int))) J J J J J,sd (.int (k:Int)),rfl,?_⟩;subst hm;rcases(by omega:k=0\/k=1\/k=2\/k=3\/k=4)with rfl|rfl|rfl|rfl|rfl
  exact w5 (y:=y) rfl rfl S.b F.b lb;exact w5 (y:=y) rfl rfl S.g F.g ld;exact w5 (y:=y) rfl rfl S.fi F.fi H.fl;exact w5 (y:=y) rfl rfl S.ta F.ta H.tk;exact w5 (y:=y) rfl rfl S.la F.la hr.2.2
 refine t6 e7 ?_;have zi:Sz D cB (((h.hr m).S6-(h.hr m).need:Int):Rat):=U3 (aV (by omega) (by omega)) f5;have z1:=szp (eZ (B S.b)) (B S.la);have z2:Sz D (cB*(3:Nat)) ((((h.hr m).S6-(h.hr m).need:Int):Rat)+(x.b+x.la)):=(eZ zi).add z1.1
 let V:=qd ((((h.hr m).S6-(h.hr m).need:Int):Rat)+(x.b+x.la))
 refine t6 (v7 (c2 (dW (cE hD (eZ zi) f5) (cE hD z1.1 f5)) rfl (c2 (dW (E S.b) (E S.la)) rfl rfl)) rfl) ?_;have tl:U1 [fr h.left,qd x.ta]=sd (qd (val h.left*x.ta)):=by rw[nY H.l];exact lz (fB ⟨H.l.pos,H.l.bb.mono f5⟩ (e:=0) (qg H.l H.l0) (by decide)) (E S.ta)
 let Uff:=sd (qd ((((h.hr m).S6-(h.hr m).need))+(x.b+x.la)+val h.left*x.ta))
 refine t6 (v7 (c2 (dW (cE hD z2 f5) (E S.lt)) rfl (c2 tl rfl rfl)) rfl) ?_;obtain⟨y9,e9,z9⟩:=Gu (gt:=D7 9) (G:=kX) (S:=λr y=>oY h m x ms y7 (sd (qd r)) y J J J) hD (λa b=>a.add b.neg) (λ{r y} _ hr c=>⟨_,sd (qd y),rfl,v7 (c2 (dW hr ⟨by have:=c.f;rw[<-qW];exact⟨this.pos,by show F1 (-_) _=1;rw[zY];exact this.low,⟨by show(-(q2 y).1).natAbs<_;rw[Int.natAbs_neg];exact this.bt.lt⟩,this.bb⟩⟩) rfl (c1 (wM y) rfl)) rfl⟩)
  (x.g::x.fi::(D3 h.w).map x.wk) 4 _ J (λy c=>by
   rcases List.mem_cons.mp c with rfl|c
   exact B S.g
   . rcases List.mem_cons.mp c with rfl|c
     exact B S.fi
     . obtain⟨j,A,rfl⟩:=mem_map.mp c;exact B (S.wk j (mem_range.mp A))) ((szp z2 (B S.lt)).1) (by simp;omega)
 refine t6 (ds1:=oY h m x ms y7 (sd (qd (Jn h x m))) y9 J J J) ?_ ?_
 . unfold G0;rw[show N2 _ _=U _ from by
    show(C8 (.tuple _) (.tuple _)).bind _=_;rw[tH (by rw[E5];show 2+_<=_;omega),a1b]
    rfl,A4]
   exact e9
 obtain⟨s,f,y10,y11,y12,rfl⟩:=aI (gt:=D7 10) (G:=kW) (ds:=oY h m x ms y7 _ y9 J J J) (λi s=>∃y10 y11 y12,s=oY h m x ms y7 _ y9 y10 y11 y12) ⟨J,J,J,rfl⟩ (by
  rintro j s b ⟨y10,y11,y12,rfl⟩;rw[O8];have:=(H.wk j b).2.2;have wk:f6 (f6 u5 K5) oK (oY h m x ms y7 (sd (qd (Jn h x m))) y9 (sd _) y11 y12)=sd _:=(B8 (x:=.dat (.tuple _)) (y:=.dat (.int _)) rfl rfl).trans (wj h b);refine⟨oY h m x ms y7 _ y9 (sd _) y11 y12,oY h m x ms y7 _ y9 (sd (.int j)) (sd (P4 (h.wk j))) (sd (.int (if nM h m j=Uf then(h.wk j).most else 0))),rfl,.inl (t6 (v7 wk rfl) (t6 rfl (t6 (ds1:=oY h m x ms y7 (sd (qd (Jn h x m))) y9 (sd (.int j)) (sd (P4 (h.wk j))) (sd (.int (if nM h m j=Uf then(h.wk j).most else 0)))) (R9 (b:=nM h m j) ?_ ?_) ?_))),_,_,_,rfl⟩;exact WU rfl rfl rfl rfl;by_cases c:nM h m j=Uf;rw[r9 c,r9 c];rfl;rw[s9 c,s9 c];rfl
  . have dw:f6 (f6 C3 gZ) oK (oY h m x ms y7 (sd (qd (Jn h x m))) y9 (sd _) (sd (P4 (h.wk j))) (sd (.int (if nM h m j=Uf then(h.wk j).most else 0))))=sd (qd _):=(B8 (x:=.dat (.tuple (rl h.w λj=>qd _))) (y:=.dat (.int _)) rfl rfl).trans (lU _ b)
    exact R9 (bN (bV (c2 (xH (E (S.wk j b)) (F.wk j b).1 (F.wk j b).2 (btM (by split<;>omega))) dw rfl))) rfl)
 refine t6 (ds1:=oY h m x ms y7 (sd (qd (Jn h x m))) y9 y10 y11 y12) ?_ (Q1 ?_);exact wZ (c1 (ze h) rfl) (by omega) f;refine(B8 rfl rfl).trans ?_;show vd (.int _) (.int _)=_;rw[wU,cy ((oT (S7 _)).mpr (by rw[X6];exact F.rs))]
end
theorem NB(c:RO y):RO (-y):=⟨by
 have:=c.f;exact⟨this.pos,by show F1 (-_) _=1;rw[zY];exact this.low,⟨by show(-(q2 y).1).natAbs<_;rw[Int.natAbs_neg];exact this.bt.lt⟩,this.bb⟩⟩
theorem MA(l:List d2):boolsOf (l.map λ_=>.bool Uf)=U (l.map λ_=>Uf):=by
 induction l with
 |nil=>rfl
 |cons _ _ h=>exact C2 (Ab · λs=>U (Uf::s)) h
section
variable{T:Sx.Tb}
abbrev dO(h:A7)(X:Nat->Dy)(t j:Nat):Rat:=nu h j-v5 (λi=>(X i).wk j) t
theorem a4k(H:G4 d)(S:∀e,e<d.n->Dn d D (b6 e))(b:m<d.w)(a:e<=d.n):Sz D (cB*(1+e:Nat)) (dO d b6 e m):=by
 have h:=H.wk m b;have:=(eZ (U3 (aV (by lia) h.2.1) f5)).sub (eD e λi c=>U3 ((S i (O1 c a)).wk m b) f5)
 rwa [<-dX]at this
theorem a2V(hD:nj D)(H:G4 d)(S:∀t,t<d.n->Dn d D (b6 t))(F:∀t,t<d.n->HfO d (b6 t) t)(lv:∀t,t<d.n->0<=X9 d b6 (t+1)/\X9 d b6 (t+1)<=(d.size:Rat))(un:∀j,j<d.w->0<=dO d b6 d.n j):tN [A8 d,.tuple (rl d.n λt=>X1 d.w (b6 t))]=sd (.bool Uf):=by
 have n4:d.n<=24:=H.n4;have w2:d.w<=2:=H.w2;have E:∀{y:Rat},Sz D (2^39) y->RO y:=λc=>cE hD (eZ (U3 c f5)) f5;have rk:RO (val d.kept):=fB ⟨H.k.pos,H.k.bb.mono f5⟩ (e:=0) (qg H.k H.k0) (by decide);generalize hp:fV (rl d.n λt=>X1 d.w (b6 t))=p
 let Uff:=λ(v:Rat) (l:Nat->Rat) (y4 y5 y6:Option PV)=>([sd (A8 d),sd p,sd (qd v),U (.own (rl d.w λj=>qd (l j))),y4,y5,y6]:Ds)
 have Uc:∀{v:Rat}{l m:Nat->Rat}{y4 y5 y6:Option PV},(∀j,j<d.w->l j=m j)->Uff v l y4 y5 y6=Uff v m y4 y5 y6:=λ{v l m y4 y5 y6} e=>by
  show([sd (A8 d),sd p,sd (qd v),U (.own (rl d.w λj=>qd (l j))),y4,y5,y6]:Ds)=[sd (A8 d),sd p,sd (qd v),U (.own (rl d.w λj=>qd (m j))),y4,y5,y6];rw[T9 λj b=>by rw[e j b]]
 obtain⟨s,f,y4,y5,y6,rfl⟩:=aI (gt:=D7 4) (G:=tS) (ds:=Uff (X9 d b6 0) (dO d b6 0) J J J) (λt s=>∃y4 y5 y6,s=Uff (X9 d b6 t) (dO d b6 t) y4 y5 y6) ⟨J,J,J,rfl⟩ (by
  rintro t s a ⟨y4,y5,y6,rfl⟩;rw[O8];have s:=S t a;have hd:∀{v l y5 y6},f6 A2 L7 (Uff v l (sd (.int (t:Int))) y5 y6)=sd (X1 d.w (b6 t)):=λ{v l y5 y6}=>(B8 rfl rfl).trans (by subst hp;exact lU (λt=>X1 d.w (b6 t)) a);have lvs:=WR H S (br a)
  let Jff:=val d.kept*(b6 t).fi + -(b6 t).ta
  have e1:X9 d b6 (t+1)=X9 d b6 t+Jff:=by
   show(d.start:Rat)+(v5 (λi=>val d.kept*(b6 i).fi-(b6 i).ta) t+(val d.kept*(b6 t).fi-(b6 t).ta))=_;unfold X9;grind
  have kt:U1 [fr d.kept,qd (b6 t).fi]=sd (qd (val d.kept*(b6 t).fi)):=by rw[nY H.k];exact lz rk (E s.fi)
  have zz:Sz D (cB*(2:Nat)) Jff:=(eZ (U3 s.kf f5)).add (eZ (U3 s.ta f5)).neg;refine⟨Uff (X9 d b6 t) (dO d b6 t) (sd (.int (t:Int))) y5 y6,?_⟩;obtain⟨s',g,y6',rfl⟩:=aI (gt:=D7 6) (G:=oq) (ds:=Uff (X9 d b6 (t+1)) (dO d b6 t) (sd (.int (t:Int))) (sd (X1 d.w (b6 t))) y6) (λj s=>∃y6,s=Uff (X9 d b6 (t+1)) (λq=>if q<j then dO d b6 (t+1) q else dO d b6 t q) (sd (.int (t:Int))) (sd (X1 d.w (b6 t))) y6) ⟨y6,(Uc λj _=>by rw[s9 (vK _)]).symm⟩ (by
   rintro j s b ⟨y6,rfl⟩;rw[O8];refine⟨Uff (X9 d b6 (t+1)) (λq=>if q<j then dO d b6 (t+1) q else dO d b6 t q) (sd (.int (t:Int))) (sd (X1 d.w (b6 t))) (sd (.int (j:Int))),Uff (X9 d b6 (t+1)) (λq=>if q<j+1 then dO d b6 (t+1) q else dO d b6 t q) (sd (.int (t:Int))) (sd (X1 d.w (b6 t))) (sd (.int (j:Int))),rfl,.inl ?_,_,rfl⟩
   let W:=Uff (X9 d b6 (t+1)) (λq=>if q<j then dO d b6 (t+1) q else dO d b6 t q) (sd (.int (t:Int))) (sd (X1 d.w (b6 t))) (sd (.int (j:Int)))
   have le:sZ 3 aU W=sd (qd (dO d b6 t j)):=by
    show K6 (.list (rl d.w λq=>qd (if q<j then dO d b6 (t+1) q else dO d b6 t q))) (.int (j:Int))=_;show(aA (rl d.w _) (j:Int)).bind _=_;rw[N4 _ b,s9 (bw _)];rfl
   have we:f6 (f6 R6 gZ) aU W=sd (qd ((b6 t).wk j)):=(B8 (x:=.dat (.tuple (rl d.w λj=>qd ((b6 t).wk j)))) (y:=.dat (.int (j:Int))) rfl rfl).trans (lU (λj=>qd ((b6 t).wk j)) b)
   let Z:=dO d b6 t j + -(b6 t).wk j
   have V:f7 Q4 (v8 (sZ 3 aU) (f7 ag _)) W=sd (qd Z):=c2 (dW (cE hD (a4k H S b (br a)) (by lia)) (NB (E (s.wk j b)))) le (c1 (wM _) we);unfold oq Y4;rw[V,A4];show(gh (rl d.w _).length _).bind _=_;rw[E5,fL b,A4,ik];refine C2 (λz=>U _) ?_;show([sd _,sd p,sd (qd _),U (.own (rl d.w λk=>if k=j then qd Z else qd _)),_,_,_]:Ds)=[sd _,sd p,sd (qd _),U _,_,_,_]
   rw[T9 λk _=>show(if k=j then qd Z else qd _)=qd (if k<j+1 then dO d b6 (t+1) k else dO d b6 t k)from by
    by_cases c:k=j;subst c;rw[r9 rfl,r9 (pR _)];refine C2 qd ?_;show nu d k-v5 _ t + -(b6 t).wk k=nu d k-(v5 _ t+(b6 t).wk k);grind
    . rw[s9 c];by_cases h:k<j;rw[r9 h,r9 (by lia)]
      . rw[s9 h,s9 (by lia)]])
  refine⟨Uff _ _ (sd (.int t)) (sd (X1 d.w (b6 t))) y6',rfl,.inl ?_,_,_,_,rfl⟩;have gw:Uff (X9 d b6 (t+1)) (λq=>if q<d.w then dO d b6 (t+1) q else dO d b6 t q) (sd (.int t)) (sd (X1 d.w (b6 t))) y6'=Uff _ _ (sd _) (sd _) y6':=Uc λj b=>r9 b;rw[gw]at g;refine t6 (v7 hd rfl) ?_;refine t6 (ds1:=Uff (X9 d b6 _) _ (sd _) (sd _) y6) (v7 (pv:=.dat (qd _)) (by rw[e1];exact c2 (dW (cE hD lvs (by lia)) (cE hD zz f5)) rfl (c2 (dW (E s.kf) (NB (E s.ta))) (c2 kt rfl rfl) (c1 (wM _) rfl))) rfl) ?_;refine t6 (ds1:=Uff (X9 d b6 (t+1)) (dO d b6 (t+1)) (sd (.int t)) (sd (X1 d.w (b6 t))) y6') ?_ ?_;refine wZ ?_ (by exact B7 u4 f5) g;show U (PV.dat (.int _))=_;rw[E5]
  . refine R9 (bO (bN (bV (c3 (IQ hD H s a (F t a)) rfl rfl rfl))) (bN (bV (c2 (xH (cE hD (WR H S a) (by lia)) (lv t a).1 (lv t a).2 (btM ⟨W3 H.st.1 H.st.2.1,H.st.2.2⟩)) rfl rfl)))) rfl)
 refine K8 rfl ?_;have l0:X9 d b6 0=d.start:=by show(d.start:Rat)+0=_;grind
 let Y:=[sd (A8 d),sd p,sd (qd (X9 d b6 0)),J,J,J,J]
 refine t6 (ds1:=Y) (v7 (pv:=.dat (qd _)) (by rw[l0];rfl) rfl) (t6 (ds1:=Uff (X9 d b6 0) (dO d b6 0) J J J) ?_ ?_)
 . have c:Q8 C6 C5 tR Y (d.ws.map P4)=U (rl d.w λj=>qd (dO d b6 0 j)):=by
     have e:d.ws.map P4=rl d.w λj=>P4 _:=ri P4 P6 _;rw[e];exact M6 λj b=>⟨[P4 _],.dat (qd _),rfl,by rw[show dO d b6 0 j=((d.wk j).L5) by show((d.ws.getD j P6).L5:Rat)-0=_;grind];rfl,rfl⟩
   unfold U5;rw[Z9 rfl (by rw[F9];exact B7 w2 f5) c];rfl
 refine t6 (ds1:=Uff (X9 d b6 d.n) (dO d b6 d.n) y4 y5 y6) ?_ (Q1 ?_);exact wZ (c1 (by subst hp;exact zf _ _) rfl) (by exact B7 u4 f5) f;show f7 vo _ _=_;refine aa (Z9 rfl (by rw[E5];exact B7 w2 f5) (M6 λj b=>⟨[qd _],.dat (.bool Uf),rfl,?_,rfl⟩)) ?_;refine(B8 rfl rfl).trans ?_;show vd (.int _) (.int _)=_;rw[wU,cy ((oT (S7 _)).mpr (by rw[X6];exact un j b))];show(boolsOf (rl d.w λ_=>.bool Uf)).bind _=_;rw[MA];simp
end
section
variable{T:Sx.Tb}
theorem Vy(H:G4 d)(K:Sx.Ok (A5 d).pb T):nc [A8 d,.tuple (rl d.n λt=>X1 d.w (au d (yK d T) t))]=sd (t3 (cV d (eG (yK d T)))):=by
 obtain⟨l,p,_⟩:=kv H;have ok:RO (val d.kept):=by have:nj d.kept.2:=⟨H.k.pos,H.k.bb.mono f5⟩;exact p.ok this f5
 have F:=zA H K;obtain⟨q,u,s,v⟩:=Vx (Ee H K) H ok λt _=>(Ms H K t).2.ok (Ee H K)
 have:=H.n1;have b:∀i,i<3->cV d (eG (yK d T)) i=(λi=>if i=0 then Fw (au d _) d.n else if i=1 then jH d (au d (yK d T)) d.n else qi d (au d (yK d T)) d.n+((0-d.rest:Int))*X9 d (au d (yK d T)) d.n) i:=λi r=>by
  rcases(tW u4)with rfl|rfl|rfl
  rfl
  . show v5 (eG _).un d.w=jH d _ d.n;delta jH;rw[CF _ d.n d.w |>.symm,<-oI];refine B4 _ λj m=>?_
    have:=F.r3 j m;have:=H.f j m;have:v5 (λt=>(au d (yK d T) t).wk j) d.n=v5 (λi=>(eG (yK d T)).wk (P5 d j+i) j) (cK d j):=by
     have a:=oH (g:=λt=>yK d T (qc t j)) (n:=cK d j) (N:=d.n) (by
      show(d.wk j).first.toNat+((d.wk j).last+1-(d.wk j).first).toNat<=_
      lia)
     refine zS (B4 _ λt _=>?_) a;show yK d T _=_;by_cases c:P5 d j<=t/\t<P5 d j+cK d j;rw[r9 c];rw[s9 c,qa (wH c)]
    delta nu;grind
  . show v5 (λt=>(eM _)*yK d T _-(fc _)*yK d T _) d.n-d.rest*(eG _).lv _=qi d _ d.n+((0-d.rest:Int))*X9 d _ d.n
    have:qi d (au d (yK d T)) d.n=v5 (λt=>(eM (d.hr t))*yK d T (k2 "bought" t)-(fc (d.hr t))*yK d T (k2 "given" t)) d.n:=B4 _ λt _=>by
     show(eM _)*yK d T _+((0-fc _:Int))*yK d T _=_;grind
    have:X9 d (au d (yK d T)) d.n=(eG (yK d T)).lv (d.n-1):=by
     rw[F.r2 _ t9,show d.n-1+1=d.n by simp[*]];exact C2 _ (B4 _ λt _=>Jw _ _ l)
    grind
 rw[q];show _=sd (fV [qd _,qd _,qd _]);rw[b 0 f5,b 1 f5,b 2 f5];rfl
theorem a5R(F:Fea d a6)(a:m<d.n):(0<=a6.bo m/\a6.bo m<=(gg (d.hr m):Rat))/\0<=a6.gv m/\a6.gv m<=(gf (d.hr m):Rat):=by
 cases e:(d.hr m).line with
 |none=>
  obtain⟨b,c⟩:=F.nl m e;unfold gg gf;rw[b,c,e];exact⟨⟨mM,mM⟩,mM,mM⟩
 |some l=>
  obtain⟨b,c,h,f⟩:=l;have:=F.bo m _ _ _ _ a e;unfold gg gf
  rwa [e]
theorem sh1(hq:F0 m q)(Y:q.1<=q.2):val q<=1:=by
 have b:=ml (p:=(1,1)) f5 hq.pos;rw[show val (1,1)=1 from P7 1]at b;refine Rat.not_lt.mp λz=>?_;rw[cy z]at b;have:=mT b;lia
theorem Vi(f:Nat->Rat):∀(w:Nat) (r:Rat),((D3 w).map f).foldl (λr y=>r + -y) r=r-v5 f w:=by
 intro w;induction w with
 |zero=>intro r;show r=r-0;grind
 |succ w ih=>
  intro r;rw[bL,W4,QK,ih];show r-v5 f w + -f w=r-(v5 f w+f w);grind
theorem a5I{t:Rat}(k:0<y)(k1:y<=1)(f0:0<=u)(t0:0<=t):(0<=oO y u t/\oO y u t<=u)/\(0<=qX y u t/\qX y u t<=t)/\(oO y u t=0\/qX y u t=0)/\∀l:Rat,0<=l->l<=1->l*(t-qX y u t)<=u-oO y u t:=by
 have i0:=Rat.inv_pos.mpr k;have e:=Rat.mul_inv_cancel y (λz=>by rw[z]at k;exact absurd k (by decide))
 have i1:1<=y⁻¹:=by
  have:=Ba k1 (pH i0)
  rwa [e,Rat.one_mul]at this
 unfold oO qX;by_cases c:y*u-t<0;rw[r9 c,r9 c];have kf:=Ak (pH k) f0;refine⟨⟨mM,f0⟩,⟨by grind,by grind⟩,.inl rfl,λl l0 l1=>?_⟩;have:=Ba l1 kf;have:=Ba k1 f0;grind
 . rw[s9 c,s9 c];have:(y*u-t)*y⁻¹=u-t*y⁻¹:=by
    have:(y*u-t)*y⁻¹=u*(y*y⁻¹)-t*y⁻¹:=by grind
    rw[this,e,Rat.mul_one]
   have:=Ak t0 (pH i0);refine⟨⟨(Ak (Rat.not_lt.mp c) (pH i0)),by grind⟩,⟨mM,t0⟩,.inr rfl,λl l0 l1=>?_⟩;have:=Ba l1 t0;have:=RR i1 t0;grind
theorem Ob(H:G4 d)(K:Sx.Ok (A5 d).pb T)(a:m<d.n):HfO d (au d (yK d T) m) m/\((au d (yK d T) m).fi=0\/(au d (yK d T) m).ta=0):=by
 have F:=zA H K;obtain⟨b,g⟩:=a5R F a;have:=sh1 H.l H.l0.2;have:=(oT H.l.pos).mp (S9 H.l0.1);obtain⟨f0,f1⟩:=F.fl m a;obtain⟨t0,t1⟩:=F.tk m a;obtain⟨⟨p1,p2⟩,⟨p3,p4⟩,p5,p6⟩:=a5I ((kv H).1) (sh1 H.k H.k0.2) f0 t0;have wk:∀j,j<d.ws.length->yK d T _=if P5 d j<=m/\m<P5 d j+cK d j then yK d T _ else 0:=λj c=>by
  by_cases h:P5 d j<=m/\m<P5 d j+cK d j;rw[r9 h];rw[s9 h,qa (wH h)]
 refine⟨⟨b,g,⟨p1,GF p2 f1⟩,⟨p3,GF p4 t1⟩,F.lk m a,λj c=>?_,?_⟩,p5⟩
 . show 0<=yK d T _/\yK d T _<=_;by_cases h:P5 d j<=m/\m<P5 d j+cK d j
   . rw[r9 ((zQ H c).mpr h)];have:=F.wk j (m-P5 d j) c (by omega)
     rwa [show P5 d j+(m-P5 d j)=m by omega]at this
   rw[s9 λe=>h ((zQ H c).mp e),qa (wH h)];exact⟨mM,mM⟩
 have:=F.r1 m a;have:=F.sp m a;show 0<=((D3 d.ws.length).map λj=>yK d T _).foldl _ ((((d.hr m).S6-(d.hr m).need:Int))+((eG _).bo m+(eG _).lk m)+val d.left*qX _ ((eG (yK d T)).fl m) ((eG (yK d T)).tk m) + -(eG _).gv m + -oO _ ((eG (yK d T)).fl m) ((eG (yK d T)).tk m));rw[Vi,Au];have:v5 _ d.ws.length=MO d (eG (yK d T)) m:=B4 _ λj c=>wk j c;grind
theorem YL(H:G4 d)(K:Sx.Ok (A5 d).pb T)(a:m<d.n):0<=X9 d (au d (yK d T)) (m+1)/\X9 d (au d (yK d T)) (m+1)<=(d.size:Rat):=by
 have F:=zA H K;have e:X9 d (au d (yK d T)) (m+1)=(eG (yK d T)).lv m:=by rw[F.r2 m a];exact C2 _ (B4 _ λm _=>Jw _ _ (kv H).1)
 rw[e];exact F.lv m a
theorem YK(H:G4 d)(K:Sx.Ok (A5 d).pb T)(h:m<d.w):0<=dO d (au d (yK d T)) d.n m:=by
 have F:=zA H K;have:=F.r3 m h;have:=H.f m h;have:v5 (λt=>(au d (yK d T) t).wk m) d.n=v5 (λi=>(eG (yK d T)).wk (P5 d m+i) m) (cK d m):=by
  have a:=oH (g:=λt=>yK d T (qc t m)) (n:=cK d m) (N:=d.n) (by
   show(d.wk m).first.toNat+((d.wk m).last+1-(d.wk m).first).toNat<=_
   lia)
  refine zS (B4 _ λt _=>?_) a;show yK d T _=_;by_cases c:P5 d m<=t/\t<P5 d m+cK d m;rw[r9 c];rw[s9 c,qa (wH c)]
 show 0<=nu d m-v5 _ d.n;have:=(F.un m h).1;delta nu;grind
theorem a4r(f:Nat->Rat):X0 (t3 f) (t3 f)=sd (.bool Uf):=by
 show(if aR (t3 f)=Uf/\aR (t3 f)=Uf then U _ else J)=_;rw[r9 ⟨rfl,rfl⟩,Ga _ rfl]
theorem ZT(H:G4 d):∃h,iO [A8 d]=sd h/\iZ [A8 d,h]=sd (.bool Uf):=by
 obtain⟨T,K,ne,e⟩:=ZV H;have k:=kv H;refine⟨_,e (λt _=>(Ms H K t).1) (fB ⟨H.k.pos,H.k.bb.mono f5⟩ (e:=0) (qg H.k H.k0) (by decide)) k.1,?_⟩;have hD:=Ee H K;have S:∀t,t<d.n->Dn d _ _:=λt _=>(Ms H K t).2;have E:∀{y:Rat},Sz _ (2^39) y->RO y:=λc=>cE hD (eZ (U3 c f5)) f5;have O:=a1F H K;have R:∀{f:Nat->Rat},(∀i,i<3->Zp _ 1030 (f i))->R3 f:=λz i c=>fB (zF H K) (z i c) (by decide);have c1:=Yc H λt a=>⟨E (S t a).b,E (S t a).g,E (S t a).fi,E (S t a).ta,E (S t a).la,λj b=>E ((S t a).wk j b)⟩;have c2:=TQ H (λt a=>R (O.p t a)) (λt a=>R (O.q t a)) (λj a=>R (O.w j a));have c3:=a2V hD H S (λt a=>(Ob H K a).1) (λt a=>YL H K a) (λj b=>YK H K b);have c4:=Vy H K;have c5:=Mn H K ne;have pe:oy d (bW d T)=yP d _ _ _:=rfl;generalize hp:fV _=p at c1 c3 c4⊢;rw[pe]at c5⊢;generalize hd:yP d _ _ _=h at c2 c5⊢;obtain⟨y3,f3⟩:=vf (Fi:=N2 (f6 (f6 A2 A1) B3)) (gt:=D7 3) (G:=lh) (S:=λy=>[sd (A8 d),sd (.tuple [p,h]),sd _,y,J]) (by subst hd;rfl) λx m y=>⟨_,sd x,rfl,by obtain⟨t,b,rfl⟩:=mem_map.mp m;have b:=mem_range.mp b;exact R9 (bV (E4 rfl rfl ((Gj (R (O.p t b))).trans (by rw[TR H K ne b])))) rfl⟩
 obtain⟨y4,f4⟩:=vf (Fi:=N2 (f6 A2 B3)) (gt:=D7 4) (G:=kZ) (S:=λy=>[sd (A8 d),sd (.tuple [p,h]),sd (t3 n0),y3,y]) (by subst hp;rfl) λx m y=>⟨_,sd x,rfl,by
  obtain⟨t,b,rfl⟩:=mem_map.mp m;have b:=mem_range.mp b;have g:∀{F:DV}{ds:Ds}{v:Rat},F ds=sd (qd v)->A9 (u3 nK (f6 F B3) B3) ds=U _:=λ{F ds v} e=>bV ((B8 ((B8 e rfl).trans rfl) rfl).trans rfl)
  refine R9 (b:=U') ?_ rfl;unfold fO;rw[g rfl,g rfl,A4];rcases(Ob H K b).2 with z|z
  rw[z];rfl
  . rw[z];split<;>rfl⟩
 refine K8 rfl ?_
 let Uff:=[sd (A8 d),sd (.tuple [p,h]),sd (t3 n0),J,J]
 exact t6 rfl (t6 (R9 (bO rfl rfl) rfl) (t6 (R9 (bO (bN (bV (E4 (x:=.dat (A8 d)) (y:=.dat p) rfl rfl c1))) (bN (bV (E4 (x:=.dat (A8 d)) (y:=.dat h) rfl rfl c2)))) rfl) (t6 f3 (t6 f4 (t6 (R9 (bN (bV (E4 rfl rfl c3))) rfl) (Q1 ((B8 (E4 (x:=.dat (A8 d)) (y:=.dat p) rfl rfl c4) (E4 (x:=.dat (A8 d)) (y:=.dat h) rfl rfl c5)).trans (a4r _))))))))
end
abbrev qw(i:Int):Prop:=0<=i/\i<=1000000
abbrev PrB(i:Int):Prop:=-1000000<=i/\i<=1000000
structure jh(h:Hr):Prop where
 S6:qw h.S6
 need:qw h.need
 line:∀a b c d,h.line=U (a,b,c,d)->PrB a/\qw b/\PrB c/\qw d
structure VV(n:Int)(w:Wk):Prop where
 L5:qw w.L5
 first:0<=w.first
 fl:w.first<=w.last
 last:w.last<n
 most:qw w.most
structure Cu(h:A7):Prop where
 hs:∀x∈h.hs,jh x
 h1:1<=h.hs.length
 hl:h.hs.length<=24
 size:qw h.size
 start:qw h.start
 full:h.start<=h.size
 fill:qw h.fill
 take:qw h.take
 kept:F0 4 h.kept
 left:F0 4 h.left
 kp:0<h.kept.1/\h.kept.1<=h.kept.2
 lf:0<h.left.1/\h.left.1<=h.left.2
 rest:0<=h.rest/\h.rest<=1000
 ws:∀w∈h.ws,VV h.hs.length w
 wl:h.ws.length<=2
theorem dQ(u:r[0]?=U (sd (fE S)))(v:G r=sd (.int D))(w:H r=sd (.int E))(e:D8 [fE S,.int D,.int E]=sd (.int M)):f7 D8 (t4 (u7 0) (t4 G (t4 H B1))) r=sd (.int M):=jg (x:=.dat (fE S)) (by delta u7;rw[u]) v w e
theorem U9(p:G r=sd (.int D))(q:H r=sd (.int E)):u3 C8 G H r=sd (.int (D+E)):=(B8 p q).trans rfl
theorem wx(p:G r=sd (.int D))(q:H r=sd (.int E)):u3 di G H r=sd (.int (D-E)):=(B8 p q).trans rfl
theorem DW(p:G r=sd (.int D))(q:H r=sd (.int E))(e:aG (.int D) (.int E)=sd (.int M)):u3 aG G H r=sd (.int M):=(B8 p q).trans e
theorem Mq(p:G r=sd (.int D)):A9 (u3 X0 G (fC (.int 0))) r=U (decide (D=0)):=by delta A9;rw[B8 p rfl];rfl
theorem WV{x:PV}(h:aA l D=U x.d):K6 (.list l) (.int D)=sd x.d:=by rw[FJ,h];rfl
theorem yY(u:r[0]?=U (sd (fE S)))(v:G r=sd (.int D))(w:H r=sd (.int E))(e:O9 [fE S,.int D,.int E]=sd (.int M)):f7 O9 (t4 (u7 0) (t4 G (t4 H B1))) r=sd (.int M):=jg (x:=.dat (fE S)) (by delta u7;rw[u]) v w e
theorem a2P(p:G r=sd (.int D)):A9 (u3 nK G (fC (.int 0))) r=U (decide (0<D)):=by delta A9;rw[B8 p rfl];rfl
theorem Bl{Fc:DV}{x y:PV}(p:G r=U x)(q:H r=U y)(e:Fc r=U z):v9 (t4 G (t4 H (t4 Fc B1))) r=sd (.tuple [x.d,y.d,z.d]):=by delta v9;rw[vp p q e];rfl
theorem Xm{pv:PV}(h:G r=U pv)(u:r[m]?=U (U (.own l)))(v:l.length<1000)(w:r.set m (U (.own (l++[pv.d])))=L):aW m G r=U (.next L):=by rw[oB,h,gk pv u (ky v f5),w]
theorem a3l{Fb Fc a:Ds->Option PV}{y w:PV}(c:i3 r=U R)(e:Fb r=U y)(b:Fc r=U z)(hd:a r=U w):t4 i3 (t4 Fb (t4 Fc (t4 a B1))) r=U [R.d,y.d,z.d,w.d]:=by unfold t4;rw[c,A4,e,A4,b,A4,hd,A4];rfl
theorem a3k{Fb Fc f Fe:Ds->Option PV}{c d e:PV}(g:i3 r=U z)(j:Fb r=U R)(i:Fc r=U c)(hd:f r=U d)(h:Fe r=U e):t4 i3 (t4 Fb (t4 Fc (t4 f (t4 Fe B1)))) r=U [z.d,R.d,c.d,d.d,e.d]:=by unfold t4;rw[g,A4,j,A4,i,A4,hd,A4,h,A4];rfl
def inR(l h:Int):f9->Bool
 | .int b=>decide (l<=b/\b<=h)
 |_=>U'
theorem DR{xs:List f9}{l h:Int}(p:0<=D)(q:D<xs.length)(c:autoParam (xs.all (inR l h)=Uf) L0):∃b:Int,aA xs D=U (.int b)/\l<=b/\b<=h:=by
 obtain⟨n,rfl⟩:=Int.eq_ofNat_of_zero_le p;have m:=Int.ofNat_lt.mp q;have c:=List.all_eq_true.mp c _ (sh m);rw[ZY (L6 m)];generalize xs[n]=d at c;cases d with
 |int b=>exact⟨b,rfl,mT c⟩
 |_=>cases c
theorem jz{k most:Int}(f:S.length<=63)(o:0<=k)(n:k<=100000)(m0:0<=most)(m1:most<=12):∃r:Int,O9 [fE S,.int k,.int most]=sd (.int r)/\qw r:=by
 obtain⟨a,g,q,h⟩:=U7 (k:=1) (m:=6) f f5 f5 f5;obtain⟨b,p,j,i⟩ :=DR (xs:=[.int 1,.int 1,.int 1,.int 1,.int 1,.int 1000]) (l:=0) (h:=83333) q h;obtain⟨u,v,_,_⟩:=U7 (k:=k+2900) (m:=8) f t9 t9 f5;obtain⟨d,l,e,s⟩:=U7 (k:=k) (m:=most+1) f bI (W3 u4 f5) (Int.add_le_add_right u4 _);have c:∀b:Int,0<=b->b<=83333->aG (.int b) (.int d)=sd _/\qw _:=λb j i=>by exact⟨D6 (Bt.qR t9 (HD u4 f5)) (Bt.qR t9 t9),iJ j e,W3 (GW i (show d<=12 by lia) e f5) f5⟩
 let Uff:=[sd (fE S),iD k,iD most,iD b]
 have go:∀z:Int,0<=z->z<=83333->(if decide _=Uf then u6 3 (fC _) Uff else F4 Uff)=U (.next [sd _,iD k,iD most,iD z])->O9 [fE S,.int k,.int most]=sd _:=λz z0 z1 t=>K8 rfl (t6 (v7 ((B8 (x:=.own [.int 1,.int 1,.int 1,.int 1,.int 1,.int 1000]) rfl (dQ rfl rfl rfl g)).trans (WV (x:=.dat (.int b)) p)) rfl) (t6 (R9 (Mq (dQ rfl (U9 rfl rfl) rfl v)) t) (Q1 (DW rfl (dQ rfl rfl (U9 rfl rfl) l) (c z z0 z1).1))));by_cases z:u=0;exact⟨_,go 83333 f5 f5 ((r9 (cy z)).trans rfl),(c 83333 f5 f5).2⟩;exact⟨_,go b j i ((s9 (by rw[ay z];decide)).trans rfl),(c b j i).2⟩
theorem OX(d:1<=D)(c:D<=E):0<(G7 D E).1/\(G7 D E).1<=(G7 D E).2:=by
 have:0<F1 D E:=xh D t9;have a:0<gc D E:=by simp[*]
 have e:G7 D E=(D/gc D E,E/gc D E):=by delta G7;rw[s9 t9,bM _ C4,bM _ C4]
 rw[e];exact⟨Ih u4 C4 (kB ..),Int.ediv_le_ediv a c⟩
theorem sI{k:Int}(a:S.length<=63)(i:0<=k)(h:k<=10000):∃q:Q2,gC [fE S,.int k]=sd (fr q)/\F0 4 q/\0<q.1/\q.1<=q.2:=by
 obtain⟨b,e,r,j⟩:=U7 (k:=k+1) (m:=12) a t9 (HD u4 f5) f5;obtain⟨t,d,p,l⟩:=U7 (k:=k+2) (m:=1+b) a t9 t9 (AY u4);obtain⟨v,g,o,n⟩:=U7 (k:=k) (m:=5) a bI (W3 u4 f5) f5;have L:F0 4 (G7 (1+t) (1+b)):=je (AY u4) ⟨by omega⟩ ⟨by omega⟩
 obtain⟨q,hq,c,f⟩:∃q:Q2,aA [.tuple [.int 1,.int 1],.tuple [.int 1,.int 2],.tuple [.int 9,.int 10],.tuple [.int 2,.int 3],fr _] v=U (fr q)/\F0 4 q/\0<q.1/\q.1<=q.2:=by
  have:v=0\/v=1\/v=2\/v=3\/v=4:=by lia
  rcases this with rfl|rfl|rfl|rfl|rfl
  exact⟨(1,1),rfl,⟨by decide,by rfl,⟨by decide⟩,⟨by decide⟩⟩,by decide⟩;exact⟨(1,2),rfl,⟨by decide,by rfl,⟨by decide⟩,⟨by decide⟩⟩,by decide⟩;exact⟨(9,10),rfl,⟨by decide,by rfl,⟨by decide⟩,⟨by decide⟩⟩,by decide⟩;exact⟨(2,3),rfl,⟨by decide,by rfl,⟨by decide⟩,⟨by decide⟩⟩,by decide⟩;exact⟨_,rfl,L,(OX (AY u4) t9)⟩
 delta gC;walk_at "r";rw[e];walk_at "r";rw[d];walk_at "r";rw[norm_eq t9 (Bt.qR t9 t9)];rw[gk _ rfl F5];walk_at "r";rw[g];walk_at "r";rw[hq];exact⟨q,rfl,c,f⟩
theorem Mh{t:Int}(b:S.length<=63)(T:0<=t)(X:t<4)(n:Option PV)(L:List f9)(W:L.length<1000)(A H I x7:Option PV)(r:Ds):
  ∃h:Hr,jh h/\∃B q P z,me (sd (fE S)::n::U (.own L)::iD t::A::H::I::x7::r)=U (.next (sd (fE S)::n::U (.own (L++[D2 h]))::iD t::B::q::P::z::r)):=by
 have D:=λ(j m) (w:0<=j) (C:j<100) (u:0<m)=>U7 (k:=100+20*t+j) b t9 t9 u;have N:=λj (w:0<=j) (C:j<100)=>jz (k:=100+20*t+j) (most:=12) b t9 t9 f5 f5;obtain⟨K,F,Z,q0⟩:=U7 (k:=100+20*t) (m:=4) b t9 t9 f5;obtain⟨x,O,Y,q1⟩:=D 1 27 f5 f5 f5;obtain⟨G,E,V,d⟩:=D 3 27 f5 f5 f5;obtain⟨k,e7,_,_⟩:=D 7 8 f5 f5 f5;obtain⟨w,e8,w0,w1⟩:=D 8 (2*10^6+1) f5 f5 f5;obtain⟨y,R,v⟩:=N 2 f5 f5;obtain⟨s,Q,M⟩:=N 4 f5 f5;obtain⟨p,i,e⟩:=N 5 f5 f5;obtain⟨l,o,f⟩:=N 6 f5 f5;have g:∀pv a,a[2]?=U (U (.own L))->Ct (U pv) 2 a=U (.next (a.set 2 (U (.own (L++[pv.d]))))):=λpv a h=>gk pv h nI;have pw:xT (.int 10) (.int 6)=sd (.int (10^6)):=EJ ⟨by decide,by decide,by decide⟩;have mu:aG (.int 20) (.int t)=sd (.int (20*t)):=D6 Bt.lit (Bt.qR t9 (W3 u4 f5))
 let Uff:=sd (fE S)::n::U (.own L)::iD t::A::H::I::x7::r
 let Jff:=t4 (fC (.int 12)) B1
 have go:∀(q:Option (Int×Int×Int×Int)) (C Y z:Option PV) (G:DO),C=sd (DX q)->G (sd (fE S)::n::U (.own L)::iD t::iD (100+20*t)::sd .none::I::x7::r)=U (.next (sd (fE S)::n::U (.own L)::iD t::iD (100+20*t)::C::Y::z::r)) ->
   t8 (u6 4 (u3 C8 (fC (.int 100)) (u3 aG (fC (.int 20)) (u7 3)))) (t8 (u6 5 (fC .none)) (t8 G (aW 2 (v9 (t4 (f7 O9 (t4 (u7 0) (t4 (u3 C8 (u7 4) (fC (.int 5))) Jff))) (t4 (f7 O9 (t4 (u7 0) (t4 (u3 C8 (u7 4) (fC (.int 6))) Jff))) (t4 (u7 5) B1))))))) Uff=U (.next (sd _::n::U (.own (L++[D2 ⟨p,l,q⟩]))::iD t::iD _::C::Y::z::r)):=λq C Y z G hq hG=>by subst hq;exact t6 (v7 (U9 rfl (DW rfl rfl mu)) rfl) (t6 (v7 rfl rfl) (t6 hG (Xm (Bl (yY rfl (U9 rfl rfl) rfl i) (yY rfl (U9 rfl rfl) rfl o) rfl) rfl W rfl)))
 by_cases c:0<K
 . have line : ∀a : Int, (if decide _ = Uf then u6 6 _ _ else F4 _) = U (.next (sd _ :: n :: U _ :: iD t :: iD _ :: sd .none :: iD a :: iD _ :: r)) -> (-1000000 <= a /\ a <= 1000000) ->
       ∃h:Hr,jh h/\∃B q P z,me Uff=U (.next (sd _::n::U (.own (L++[D2 h]))::iD t::B::q::P::z::r)):=λa ea ba=>by
     refine⟨⟨p,l,U (a,y,G-6,s)⟩,⟨e,f,λ_ _ _ _ h=>by cases h;exact⟨ba,v,by lia,M⟩⟩,_,_,_,_,go _ _ (iD a) (iD _) _ rfl (R9 (a2P (dQ rfl rfl rfl F)) ((r9 (cy c)).trans (t6 (v7 (wx (dQ rfl (U9 rfl rfl) rfl O) rfl) rfl) (t6 (v7 (wx (dQ rfl (U9 rfl rfl) rfl E) rfl) rfl) (t6 (R9 (Mq (dQ rfl (U9 rfl rfl) rfl e7)) ea) (v7 (pv:=.dat (DX (U (a,y,G-6,s)))) ?_ rfl))))))⟩;delta v9 pq;rw[a3l rfl (yY rfl (U9 rfl rfl) rfl R) rfl (yY rfl (U9 rfl rfl) rfl Q)];rfl
   by_cases z:k=0;refine line _ ((r9 (cy z)).trans (v7 (wx (dQ rfl (U9 rfl rfl) (U9 (DW rfl ((B8 (x:=.dat (.int 10)) (y:=.dat (.int 6)) rfl rfl).trans pw) (D6 Bt.lit (Bt.lit))) rfl) e8) ((B8 (x:=.dat (.int 10)) (y:=.dat (.int 6)) rfl rfl).trans pw)) rfl)) (by lia);exact line _ ((s9 (by rw[ay z];decide)).trans rfl) (by lia)
 refine⟨⟨p,l,J⟩,⟨e,f,λ_ _ _ _ h=>by cases h⟩,_,_,_,_,go J _ I x7 _ rfl (R9 (a2P (dQ rfl rfl rfl F)) ((s9 (by rw[ay c];decide)).trans rfl))⟩
theorem Mg{t n:Int}(b:S.length<=63)(G:1<=n)(H:n<=24)(F:0<=t)(K:t<2)(j x3 v h i x7 xn x8 l e c:Option PV)(L:List f9)(I:L.length<1000):
  ∃w:Wk,VV n w/\∃x g d,qM [sd (fE S),iD n,j,x3,v,h,i,x7,xn,x8,l,U (.own L),iD t,e,c]=U (.next [sd (fE S),iD n,j,x3,x,h,i,x7,xn,x8,l,U (.own (L++[P4 w])),iD t,g,d]):=by
 obtain⟨a,y,E,q0⟩:=U7 (k:=200+10*t) b t9 t9 u4;obtain⟨f,C,M,N⟩:=U7 (k:=200+10*t+1) (m:=n-a) b t9 t9 C4;obtain⟨r,D,p⟩:=jz (k:=200+10*t+2) (most:=12) b t9 t9 f5 f5;obtain⟨q,B,A⟩:=jz (k:=200+10*t+3) (most:=8) b t9 t9 f5 f5;have u:∃z,K6 (.str "ab") (.int t)=sd (.str ⟨.mk [z]⟩):=by
  have:t=0\/t=1:=by lia
  rcases this with rfl|rfl<;>exact⟨_,rfl⟩
 obtain⟨z,s⟩:=u;have o:C8 (.str "work") (.str ⟨.mk [z]⟩)=sd _:=VS (by show 4+1<=1000000;decide);have mu:aG (.int 10) (.int t)=sd _:=D6 Bt.lit (Bt.qR t9 (W3 u4 f5));refine⟨⟨"work"++⟨.mk [z]⟩,r,a,a+f,q⟩,⟨p,E,by show a<=a+f;exact AY u4,by show a+f<n;lia,A⟩,_,_,_,t6 (v7 (U9 rfl (DW rfl rfl mu)) rfl) (t6 (v7 (dQ rfl rfl rfl y) rfl) (t6 (v7 (U9 rfl (dQ rfl (U9 rfl rfl) (wx rfl rfl) C)) rfl) (Xm (pv:=.dat (P4 ⟨"work"++⟨.mk [z]⟩,r,a,a+f,q⟩)) ?_ rfl I rfl)))⟩;delta v9 xA;rw[a3k ((B8 rfl ((B8 rfl rfl).trans s)).trans o) (yY rfl (U9 rfl rfl) rfl D) rfl rfl (yY rfl (U9 rfl rfl) rfl B)];rfl
theorem a5Q(O:Cu d):G4 d:=by
 have hr:=λt a=>O.hs _ (by show d.hs.getD t O5∈_;rw[lX,L6 a];exact sh a);have wk:=λt a=>O.ws _ (by show d.ws.getD t P6∈_;rw[lX,L6 a];exact sh a);exact⟨O.h1,O.hl,O.wl,O.kept,O.kp,O.left,O.lf,⟨O.start.1,O.full,O.size.2⟩,O.fill,O.take,O.rest,λt a=>⟨(hr t a).S6.1,(hr t a).S6.2,(hr t a).need⟩,λt a b c h e f=>(hr t e).line a b c h f,λj a=>⟨(wk j a).L5.1,(wk j a).L5.2,(wk j a).most⟩,λj a=>⟨(wk j a).first,(wk j a).fl,(wk j a).last⟩⟩
theorem SK{ds1:Ds}{j:Nat}{y:Hr}{z:Int}(a:H r=sd (D2 y))(b:G r=sd (.int z))(e:z=(j:Int))(c:r[m]?=U (U (.own (b9.map D2))))(d:j<b9.length)(f:r.set m (U (.own ((b9.set j y).map D2)))=ds1):Y4 m G H r=U (.next ds1):=by
 subst e;unfold Y4;rw[a,A4,b,A4,c];show(gh (b9.map D2).length _).bind _=_;rw[fL (by rw[F9];exact d),A4,<-f,List.map_set];rfl
theorem Et(a:∀x∈b9,jh x)(b:jh c9):∀x∈b9.set m c9,jh x:=λx E=>by
 rcases List.mem_or_eq_of_mem_set E with E|rfl
 exact a x E;exact b
theorem FL(a:qw D)(b:qw E):jh ⟨D,E,J⟩:=⟨a,b,λ_ _ _ _ e=>by cases e⟩
theorem Zz(d:S.length<=63):∃h:A7,gS [fE S]=sd (A8 h)/\Cu h:=by
 have D:=λ(k m) h0 (h1:k<=100) (y:0<m)=>U7 d h0 (W3 h1 f5) y;obtain⟨l,el,l0,l1⟩:=D 15 6 f5 f5 f5;obtain⟨n,hn,n0,n1⟩ :=DR (xs:=[.int 9,.int 10,.int 11,.int 13,.int 17,.int 24]) (l:=9) (h:=24) l0 l1;obtain⟨k,rfl⟩:∃k:Nat,n=k:=⟨n.toNat,by lia⟩;obtain⟨a,ea,a0,a1⟩:=D 16 41 f5 f5 f5;obtain⟨b,eb,b0,b1⟩:=D 17 (k-2) f5 f5 (by lia);obtain⟨c,ec,c0,c1⟩:=D 18 13 f5 f5 f5;obtain⟨e,ee,e0,e1⟩:=D 19 12 f5 f5 f5;obtain⟨s,es,s0,s1⟩:=D 20 40 f5 f5 f5;obtain⟨g,eg,g0,g1⟩:=D 21 (4+s+1) f5 f5 (by lia);obtain⟨f,ef,f0,f1⟩:=D 22 40 f5 f5 f5;obtain⟨t,et,t0,t1⟩:=D 23 20 f5 f5 f5;obtain⟨kp,ek,kf,kq⟩:=sI (k:=30) d f5 f5;obtain⟨lf,ew,lF,lq⟩:=sI (k:=40) d f5 f5
 let E0:List Hr:=(D3 k).map λ_=>⟨1,0,J⟩
 let E1:=E0.set 0 ⟨a,0,J⟩
 let E2:=E1.set (1+b).toNat ⟨0,c,J⟩
 let E3:=E2.set (k-1) ⟨0,1+e,J⟩
 have l0':E0.length=k:=by show((D3 k).map _).length=k;simp
 have l1':E1.length=k:=by show(E0.set _ _).length=k;rw[vL,l0']
 have l2':E2.length=k:=by show(E1.set _ _).length=k;rw[vL,l1']
 have:E3.length=k:=by show(E2.set _ _).length=k;rw[vL,l2']
 have ok:∀x∈E3,jh x:=Et (Et (Et (λx m=>by obtain⟨_,_,rfl⟩:=mem_map.mp m;exact FL f5 f5) (FL ⟨a0,by lia⟩ f5)) (FL f5 ⟨c0,by lia⟩)) (FL f5 ⟨by lia,by lia⟩)
 let Uff:=λ(E:List Hr) (y3 y4)=>([sd (fE S),iD k,U (.own (E.map D2)),y3,y4])
 refine⟨⟨E3,4+s,g,1+f,1+t,kp,lf,0,[]⟩,K8 rfl ?_,⟨ok,by show 1<=E3.length;lia,by show E3.length<=24;lia,⟨by show 0<=4+s;lia,by show 4+s<=_;lia⟩,⟨g0,by show g<=_;lia⟩,by show g<=4+s;lia,⟨by show 0<=1+f;lia,by show 1+f<=_;lia⟩,⟨by show 0<=1+t;lia,by show 1+t<=_;lia⟩,kf,lF,kq,lq,(show 0<=0/\0<=1000 by decide),(λx m=>by cases m),(show 0<=2 by decide)⟩⟩
 let V:=[sd (fE S),iD k,J,J,J]
 refine t6 (ds1:=V) (v7 ((B8 (x:=.own [.int 9,.int 10,.int 11,.int 13,.int 17,.int 24]) rfl (dQ rfl rfl rfl el)).trans (WV (x:=.dat (.int k)) hn)) rfl) (t6 (ds1:=Uff E0 J J) ?_ ?_)
 . have e:D0 (F3 G9 (B2 A2)) C6 C5 jl V=U (.own (E0.map D2)):=by
     refine(Z9 (by show G9 [.int _]=_;rw[T8 (by lia),cA]) (by simp[bA];lia) (VC λx _=>⟨[x],.dat (D2 ⟨1,0,J⟩),rfl,rfl,rfl⟩)).trans ?_;show U (PV.own ((List.map _ _).map _))=U _;rw[fw,fw];rfl
   unfold U5;rw[e];rfl
 exact t6 (ds1:=Uff E1 J J) (SK (j:=0) (Bl (y:=.dat (.int 0)) (z:=.dat .none) (dQ rfl rfl rfl ea) rfl rfl) rfl rfl rfl (by lia) rfl) (t6 (ds1:=Uff E2 J J) (SK (Bl (x:=.dat (.int 0)) (z:=.dat .none) rfl (dQ rfl rfl rfl ec) rfl) (U9 rfl (dQ rfl rfl (wx rfl rfl) eb)) (by lia) rfl (by lia) rfl) (t6 (ds1:=Uff E3 J J) (SK (Bl (x:=.dat (.int 0)) (z:=.dat .none) rfl (U9 rfl (dQ rfl rfl rfl ee)) rfl) (wx rfl rfl) (by lia) rfl (by lia) rfl) (t6 (v7 (U9 rfl (dQ rfl rfl rfl es)) rfl) (t6 (v7 (uD (cons_of rfl (cons_of (dQ rfl rfl (U9 rfl rfl) eg) (cons_of (U9 rfl (dQ rfl rfl rfl ef)) (cons_of (U9 rfl (dQ rfl rfl rfl et)) rfl))))) rfl) (t6 (v7 ((B8 (x:=.dat (.tuple [.int _,.int g,.int _,.int _])) rfl (Bl (c2 ek rfl rfl) (c2 ew rfl rfl) rfl)).trans (tH (Hn _ _))) rfl) (Q1 rfl))))))
theorem ins_map:fj (b9.map D2) m (D2 c9)=(fj b9 m c9).map D2:=by unfold fj;rw[W4,E8,List.map_take,List.map_drop]
theorem ZI(a:m<=b9.length):(fj b9 m c9).length=b9.length+1:=by
 unfold fj;rw[T7,Y7,sj,vN];lia
theorem a2K(a:∀x∈b9,jh x)(b:jh c9):∀x∈fj b9 m c9,jh x:=λx E=>by
 rcases List.mem_append.mp E with E|E
 exact a x (Rb E)
 . rcases List.mem_cons.mp E with rfl|E
   exact b;exact a x (List.mem_of_mem_drop E)
abbrev qS(ns:List Int)(k:Int)(l:List f9)(a c d e g xn h i j m n o:Option PV):Ds:=[sd (fE ns),iD k,U (.own l),a,c,d,e,g,xn,h,i,j,m,n,o]
theorem Pt(d:S.length<=63)(ok:∀x∈b9,jh x)(e1:1<=b9.length)(e2:b9.length<=4){k:Int}{c e f g:Option PV}:
  ∃(E':List Hr) (xn:Option PV),(∀x∈E',jh x)/\1<=E'.length/\E'.length<=8/\M0 (fO (A9 (u3 oV (cG (f7 C7 (B2 C3))) (cG bE))) (A9 (u3 X0 (f7 D8 (F8 u5 oS gZ)) B3))) (G0 (F3 G9 (B2 (u3 C8 A1 (f7 D8 (F8 u5 BG jP))))) (D7 8) iP) F4 (qS S k (b9.map D2) K c e f g J J J J J J J)=U (.next (qS S k (E'.map D2) K c e f g xn J J J J J J)):=by
 obtain⟨w,ew,w0,w1⟩:=U7 (k:=12) (m:=5) d f5 f5 f5;obtain⟨v,ev,v0,v1⟩:=U7 (k:=13) (m:=4) d f5 f5 f5
 let Uff:=qS S k (b9.map D2) K c e f g J J J J J J J
 let Y:=u3 oV (cG (f7 C7 (B2 C3))) (cG bE)
 let Z:=u3 X0 (f7 D8 (F8 u5 oS gZ)) B3
 have T:fO (A9 Y) (A9 Z) Uff=U (decide ((b9.length:Int)<3)&&decide (w=0)):=by
  have t1:A9 Y Uff=U (decide ((b9.length:Int)<3)):=bV ((B8 (x:=.dat (.int _)) (by
   show C7 [.list _]=_
   delta C7 d1;simp) rfl).trans rfl)
  have t2:A9 Z Uff=U _:=Mq (dQ rfl rfl rfl ew);unfold fO;rw[t1,t2];cases decide ((b9.length:Int)<3)<;>rfl
 by_cases z:(decide ((b9.length:Int)<3)&&decide (w=0))=Uf
 . have:(b9.length:Int)<3:=by rw[pP,pT]at z;exact z.1
   obtain⟨m,hm⟩:∃m:Nat,1+v=m:=⟨(1+v).toNat,by lia⟩
   obtain⟨s,q,E',o',l',xn,rfl⟩:=aI (gt:=D7 8) (G:=iP) (n:=m) (λi s=>∃E':List Hr,(∀x∈E',jh x)/\E'.length=b9.length+i/\∃xn,s=qS S k (E'.map D2) K c e f g xn J J J J J J) ⟨b9,ok,rfl,J,rfl⟩ (by
    rintro i s b ⟨E',o,l,xn,rfl⟩;rw[O8];obtain⟨r,er,r0,r1⟩:=U7 (k:=50+i) (m:=E'.length+1) d (by exact vT _) (by lia) (by omega)
    let W:=qS S k (E'.map D2) K c e f g (sd (.int i)) J J J J J J
    have le:f7 C7 (B2 C3) (hC W)=sd (.int E'.length):=by
     show C7 [.list _]=_;delta C7 d1;simp
    let X:=f7 D8 (F8 u5 (u3 C8 (fC (.int 50)) dN) (u3 C8 (f7 C7 (B2 C3)) A1))
    have V:Dh (cG X) W=sd (.int r):=by have u:cG X W=sd _:=dQ rfl (U9 rfl rfl) (U9 le rfl) er;unfold Dh;rw[u];rfl
    refine⟨qS S k _ K c e f g (sd _) J J J J J J,qS S k _ K c e f g (sd (.int i)) J J J J J J,rfl,.inl ?_,fj E' r.toNat O5,a2K o (FL f5 f5),by rw[ZI (by lia),l];rfl,_,rfl⟩;unfold iP Cf;rw[V,A4];show(if 0<=r/\r.toNat<=(E'.map D2).length/\(E'.map D2).length<1000000 then U (Out.next (qS S k (fj _ r.toNat (D2 O5)) K c e f g (sd _) J J J J J J))else J)=_
    rw[r9 ⟨r0,by rw[F9];lia,by rw[F9];lia⟩,ins_map])
   refine⟨E',xn,o',by lia,by lia,R9 T ?_⟩;rw[r9 z];unfold G0
   let Jff:=f7 D8 (F8 u5 BG jP)
   rw[show F3 G9 _ Uff=U _ from by
    have u:u3 C8 A1 Jff Uff=sd _:=(U9 rfl (dQ rfl rfl rfl ev)).trans (by rw[hm]);unfold F3 B2 t4;rw[u];show G9 [.int _]=_
    rw[T8 (by lia),cA],A4]
   exact q
 exact⟨b9,J,ok,e1,by exact B7 u4 f5,R9 T (by rw[s9 z];rfl)⟩
theorem Va(d:S.length<=63):∃h:A7,qA [fE S]=sd (A8 h)/\Cu h:=by
 obtain⟨lg,elg,_,_⟩:=U7 (k:=14) (m:=8) d f5 f5 f5;have T0:A9 (u3 X0 (f7 D8 (F8 u5 (fC _) yW)) B3) (qS S 0 [] J J J J J J J J J J J J |>.set 1 J |>.set 2 J)=U _:=Mq (dQ rfl rfl rfl elg);by_cases zl:lg=0;obtain⟨h,e,o⟩:=Zz d;exact⟨h,K8 rfl (wA (R9 T0 ((r9 (cy zl)).trans (Q1 (c1 e rfl))))),o⟩
 obtain⟨l,en,n0',n1'⟩:=U7 (k:=10) (m:=8) d f5 f5 f5;obtain⟨n,hn,n0,n1⟩ :=DR (xs:=[.int 1,.int 2,.int 2,.int 3,.int 3,.int 2,.int 3,.int 4]) (l:=1) (h:=4) n0' n1';obtain⟨sz,es,bs⟩:=jz (k:=20) (most:=12) d f5 f5 f5 f5;obtain⟨G,et,t0,t1⟩:=U7 (k:=21) (m:=sz+1) d f5 f5 t9;obtain⟨f,ef,Z⟩:=jz (k:=22) (most:=8) d f5 f5 f5 f5;obtain⟨g,eg,bg⟩:=jz (k:=23) (most:=8) d f5 f5 f5 f5;obtain⟨N,O,b,V⟩:=sI (k:=30) d f5 f5;obtain⟨lf,W,T,Q⟩:=sI (k:=40) d f5 f5;obtain⟨r,er,X,r1⟩:=U7 (k:=24) (m:=13) d f5 f5 f5;obtain⟨s,ew,w0',w1'⟩:=U7 (k:=11) (m:=6) d f5 f5 f5;obtain⟨w,R,w0,w1⟩ :=DR (xs:=[.int 0,.int 0,.int 1,.int 1,.int 2,.int 2]) (l:=0) (h:=2) w0' w1';have g1:∀m:Nat,m<=1000->G9 [.int m]=U _:=λm a=>by rw[T8 (by lia),cA]
 obtain⟨k,rfl⟩:∃k:Nat,n=k:=⟨n.toNat,by lia⟩;obtain⟨v,rfl⟩:∃v:Nat,w=v:=⟨w.toNat,by exact(HK u4).symm⟩
 obtain⟨P,h1,⟨c,p,q,F,j,u,A,y,rfl⟩⟩:=aI (gt:=D7 3) (n:=k)
  (λi B=>∃E:List Hr,E.length=i/\(∀x∈E,jh x)/\∃F j u A y,B=qS S k (E.map D2) F j u A y J J J J J J J)
  ⟨[],rfl,by simp,J,J,J,J,J,rfl⟩ (by
   rintro i B hi ⟨E,p,q,F,j,u,A,y,rfl⟩;obtain⟨h,hh,M,z5,z6,Y,e⟩:=Mh (t:=0+i) d (by simp) (by lia) (iD k) (E.map D2) (by simp;lia) j u A y [J,J,J,J,J,J,J];refine⟨_,_,rfl,.inl e,E++[h],by simp[p],?_,iD _,M,z5,z6,Y,by rw[W4];rfl⟩
   intro x a;rcases List.mem_append.mp a with a|a
   exact q x a
   . simp at a;subst a;exact hh)
 obtain⟨E,xn,eo,el1,el2,he⟩:=Pt d q (by lia) (by lia)
 generalize ez:fV [.int sz,.int G,.int f,.int g,fr N,fr lf,.int r]=st;obtain⟨P,h2,⟨H,o,C,M,z11,I,K,rfl⟩⟩:=aI (gt:=D7 12) (n:=v) (ds:=qS S E.length _ F j u A y xn (iD sz) (sd st) _ J J J)
  (λi B=>∃D:List Wk,D.length=i/\(∀x∈D,VV E.length x)/\∃j L z v,B=qS S E.length _ F j u A y xn _ _ (U (.own (D.map P4))) L z v)
  ⟨[],rfl,by simp,j,J,J,J,rfl⟩ (by
   rintro i B hi ⟨D,o,C,j,L,z,v,rfl⟩;obtain⟨w,R,M,I,K,e⟩:=Mg (n:=E.length) (t:=0+i) d (by lia) (by lia) (by simp) (by lia) _ F j u A y xn _ _ z v (D.map P4) (by simp;lia);refine⟨_,_,rfl,.inl e,D++[w],by simp[o],?_,M,iD _,I,K,by rw[W4];rfl⟩
   intro x a;rcases List.mem_append.mp a with a|a
   exact C x a
   . simp at a;subst a;exact R)
 refine⟨⟨E,sz,G,f,g,N,lf,r,H⟩,K8 rfl (t6 (R9 T0 ((s9 (by rw[ay zl];decide)).trans rfl)) (t6 (v7 ((B8 (x:=.own [.int 1,.int 2,.int 2,.int 3,.int 3,.int 2,.int 3,.int 4]) rfl (dQ rfl rfl rfl en)).trans (WV (x:=.dat (.int k)) hn)) rfl) (t6 (ds1:=qS S k [] J J J J J J J J J J J J) rfl (t6 (by delta G0;rw[show F3 G9 (B2 A2) (qS S k [] J J J J J J J J J J J J)=U _ from g1 k (by lia)];exact h1) (t6 he ?_))))),⟨eo,el1,by show E.length<=24;exact B7 u4 f5,bs,⟨t0,by show G<=1000000;lia⟩,by show G<=sz;lia,Z,bg,b,T,V,Q,⟨X,by show r<=1000;lia⟩,C,by show H.length<=2;lia⟩⟩
 refine t6 (v7 (by
  have u:cG (f7 C7 (B2 C3)) (qS S k (E.map D2) F j u A y xn J J J J J J)=sd (.int E.length):=by
   show C7 [.list _]=_;delta C7 d1;simp
  unfold Dh;rw[u];rfl) rfl) ?_
 refine t6 (v7 (yY rfl rfl rfl es) rfl) (t6 (v7 (uD (cons_of rfl (cons_of (dQ rfl rfl (U9 rfl rfl) et) (cons_of (yY rfl rfl rfl ef) (cons_of (yY rfl rfl rfl eg) rfl))))) rfl) (t6 (v7 (pv:=.dat st) ((B8 (x:=.dat (.tuple [.int sz,.int G,.int f,.int g])) rfl (Bl (c2 O rfl rfl) (c2 W rfl rfl) (dQ rfl rfl rfl er))).trans ((tH (Hn _ _)).trans (by rw[<-ez];rfl))) rfl) (t6 (ds1:=qS S E.length _ F j u A y xn (iD sz) (sd st) _ J J J) rfl ?_)))
 refine t6 (by
  delta G0
  let Uff:=qS S E.length (E.map D2) F j u A y xn (iD sz) (sd st) (U (.own [])) J J J
  let Jff:=N6 (Qn B3 B3 A1 A1 K5 K5)
  let Ua:=f7 D8 (F8 u5 LK rd)
  rw[show F3 G9 _ Uff=U _ from by have e:f6 Jff Ua Uff=sd _:=(B8 (x:=.own [.int 0,.int 0,.int 1,.int 1,.int 2,.int 2]) rfl (dQ rfl rfl rfl ew)).trans (WV (x:=.dat (.int v)) R);unfold F3 B2 t4;rw[e];exact g1 v (by lia)]
  exact h2) ?_
 rw[<-ez];rfl
theorem UW(ns:List Int)(hl:ns.length<=63):xi [fE ns]=sd (.bool Uf):=by obtain⟨h,e,O⟩:=Va hl;obtain⟨d,f,g⟩:=ZT (a5Q O);exact K8 rfl (t6 (v7 (c1 e rfl) rfl) (Q1 (c2 g rfl (c1 f rfl))))
end Law
local macro_rules|`(tactic|walk_at "c")=>`(tactic|exact⟨rfl,rfl,rfl,by decide +kernel,rfl,by decide +kernel,by decide +kernel⟩)
namespace Law
open PySem L2
variable{P:N9}{w:G6}{base:Heap}{X:Cx}{Z:A6}{x m:Str}{Y:Stmt}{C:Addr}{S:Y6}{R L I:Nat}{Q:List Str}{O:Str->Option t7}{e:Expr}{p M:Pos}{H:List Expr}{G:TA}{E:Bool}{D:FV}{B:Sem Bool}{A:List t7->Prop}{z:Ds->Option (List AV)}{y:List PV->Option (PV×Ds)}{v:eQ}
def top(i:Nat):Stmt:=PySem.Challenge.pw_sunstore_k50_whole_best_and_borne_out.main.body.getD i (.Pass ⟨0,0,0,0⟩)
inductive Rw(K:A6)(m n:Str)(s:Stmt)(f:Addr):Y6->Prop
 |mk {oc kV dc pm cd ct:t7}{od an:Option Addr}{sl:Array (Option t7)} (l:K.lookup f=U ⟨oc,od,.func (iI m n (jF s) (cI s) (O3 s) .none kV dc pm an cd ct),sl⟩) (c:Ap K cd n=Uf) (k:pK K (.ref f)=Uf):Rw K m n s f (iI m n (jF s) (cI s) (O3 s) .none kV dc pm an cd ct)
theorem WC(r:Rw Z m x Y C S):vY Z m x Y C S:=by obtain⟨l,c,k⟩:=r;exact a2S l c k
theorem b00(h:A []):∀us,us.length=0->A us:=λus e=>by
 cases us with
 |nil=>exact h
 |cons _ _=>cases e
theorem b01(h:∀x,∀us,us.length=R->A (x::us)):∀us,us.length=R+1->A us:=λus e=>by
 cases us with
 |nil=>cases e
 |cons x t=>exact h x t (Ad e)
local macro_rules|`(tactic|walk_at "b")=>`(tactic|(intro _ _ _ _ _ _;repeat first|exact b00 rfl|refine b01 λ_=>?_))
structure Dd(K:A6)(Jff:Prop)(n q:Str)(s:Stmt)(N:List Str)(k:Nat)(f:Addr)(fd:Y6):Prop where
 F:vY K n q s f fd
 m:Jff
inductive De where
 |f (n:Str) (i:Nat) (N:List Str) (k:Nat)
 |m (n q:Str) (i j:Nat) (N:List Str) (k:Nat)
 |i (q:Str) (i j:Nat) (N:List Str) (k:Nat)
inductive Nd(K:A6)(C:Addr):De->Addr->Y6->Prop
 |f {n:Str}{i k:Nat}{N:List Str}{f:Addr}{d:Y6} (a:gu K aQ n=U (U (.ref f))) (r:Rw K n n (top i) f d):Nd K C (.f n i N k) f d
 |m {n q:Str}{i j k:Nat}{N:List Str}{f:Addr}{d:Y6} (a:cY K (.ref C) n=U (U (.ref f))) (b:vI K (.ref f)=Uf) (r:Rw K n q (inClass (top i) j) f d):Nd K C (.m n q i j N k) f d
 |i {q:Str}{i j k:Nat}{N:List Str}{f:Addr}{d:Y6} (a:cY K (.ref C) "__init__" = U (U (.ref f))) (b:vI K (.ref f)=Uf) (r:Rw K "__init__" q (inClass (top i) j) f d):Nd K C (.i q i j N k) f d
inductive Ns(K:A6)(C:Addr):List De->List Addr->List Y6->Prop
 |n:Ns K C [] [] []
 |c {e:De}{l:List De}{f:Addr}{fs:List Addr}{d:Y6}{ds:List Y6}:Nd K C e f d->Ns K C l fs ds->Ns K C (e::l) (f::fs) (d::ds)
theorem Ns.at{K:A6}{C:Addr}{d0:Y6}{e:De}:∀{l:List De}{fs:List Addr}{ds:List Y6}{i:Nat},Ns K C l fs ds->l[i]?=U e->Nd K C e (fs.getD i 0) (ds.getD i d0)
 |_,_,_,0,.c h _,m=>by cases m;exact h
 |_,_,_,_+1,.c _ t,m=>t.at m
abbrev bdT(n q:Str)(s:Stmt)(N:List Str)(k:Nat):Prop:=∀(kV doc pm:t7) (an:Option Addr) (cdv ct:t7) (us:List t7),us.length=k->bindArgs (iI n q (jF s) (cI s) (O3 s) .none kV doc pm an cdv ct) ⟨us,[]⟩=pure ((N.take k).zip us)
theorem Nd.to{K:A6}{C:Addr}{n:Str}{i k:Nat}{N:List Str}{f:Addr}{d:Y6}(h:Nd K C (.f n i N k) f d)(b:bdT n n (top i) N k)(s:A0)(us:List t7)(l:us.length=k):pC s d ⟨us,[]⟩ ((N.take k).zip us):=by
 cases h with
 |f a r=>
  cases r with
  |mk _ _ _=>exact .of_eq (b _ _ _ _ _ _ us l)
section
variable{K:A6}{mg:Str->Option t7}{n q:Str}{s:Stmt}{N:List Str}{k l:Nat}{f:Addr}{fd:Y6}{h:Heap}{Jff:Prop}{P:N9}{w:G6}{base:Heap}
structure Ok(P:N9)(w:G6)(mg:Str->Option t7)(base:Heap)(D:Dd K Jff n q s N k f fd)(l:Nat)(sp:Sp):Prop where
 h:ie P w K mg base um l f fd (N.take k) sp
 b:Binds K fd (N.take k) []
abbrev okT(P:N9)(w:G6)(K:A6)(mg:Str->Option t7)(base:Heap)(N:List Str)(q:Str)(s:Stmt)(f:Addr)(l:Nat)(G:DO):Prop:=∀(cdv:t7) (A:aY) (outer:List Env) (s':A0) (H:Hp) (E:XK),N.Nodup->S5 l (A.deeper (PyProof.Rows.envOfC q (O3 s) s'.heap.objs.size f cdv))->∃t,pA (qH um P w K mg base N q (O3 s) f cdv A outer s' H E).CN (cI s) t G
theorem okA{G:DO}(D:Dd K Jff n q s N k f fd)(b:okT P w K mg base N q s f l G)(e:autoParam ((N.take k).length<=N.length) L0)(z:bdT n q s N k:=by walk_at "b")(S:lL N (N.take k) (O3 s):=by walk_at "c")(r:autoParam ((N.take k).length=k) w4):Ok P w mg base D (l+1) (H0 K (J5 (N.take k).length N.length G)):=⟨D.F.okF S e λ_ _ _ _ _ _ hr=>b _ _ _ _ _ _ S.nd hr,D.F.binds λ_ _ _ _ _ _ us hl=>z _ _ _ _ _ _ us (hl.trans r)⟩
theorem okB{G:DO}(D:Dd K Jff n q s N k f fd)(b:okT P w K mg base N q s f l G)(e:autoParam ((N.take k).length<=N.length) L0)(z:bdT n q s N k:=by walk_at "b")(S:lL N (N.take k) (O3 s):=by walk_at "c")(r:autoParam ((N.take k).length=k) w4):Ok P w mg base D (l+1) (mm K (rF (N.take k).length N.length G)):=⟨D.F.okO S e λ_ _ _ _ _ _ hr=>b _ _ _ _ _ _ S.nd hr,D.F.binds λ_ _ _ _ _ _ us hl=>z _ _ _ _ _ _ us (hl.trans r)⟩
end
inductive Al(p:Str->Prop):List Str->Prop
 |n:Al p []
 |c {s:Str}{r:List Str}:p s->Al p r->Al p (s::r)
theorem Al.at{p:Str->Prop}{s:Str}:∀{l:List Str},Al p l->s∈l->p s
 |_::_,.c h t,m=>by
  cases m with
  |head=>exact h
  |tail _ m=>exact t.at m
theorem pcD{Fl:DL}{k:Dd Z (O x=U (.ref C)) x m Y Q I C S}(t:Ok X.prog X.w O X.base k R (H0 Z D))(hr:S5 L X.A)(ha:gm X E (e::H) G Fl)(eK:autoParam (X.K=Z) w4)(em:autoParam (X.mg=O) w4)(hk:R<=L:=by omega)(hg:Gl X x:=by exact rfl)(hdb:autoParam (mE x) L0)(he:autoParam (hI X e H) w4)(hpl:autoParam (lj X M H) w4):PX X E (.Call (.Name x p) (e::H) [] M) (yG (H0 Z D) [] E0 G) (f7 D Fl):=by subst eK em;exact⟨JA t.h (hr.mono hk) hg k.m k.F.kp t.b .nil wD ha.p hdb he hpl,XI ha⟩
theorem pcO{D:Dd Z (O x=U (.ref C)) x m Y Q I C S}(t:Ok X.prog X.w O X.base D R (mm Z y))(hr:S5 L X.A)(ha:vr X (e::H) G z)(eK:autoParam (X.K=Z) w4)(em:autoParam (X.mg=O) w4)(hk:R<=L:=by omega)(hg:Gl X x:=by exact rfl)(hdb:autoParam (mE x) L0)(he:autoParam (hI X e H) w4)(hpl:autoParam (lj X M H) w4):Qq X (.Call (.Name x p) (e::H) [] M) (yG (mm Z y) [] E0 G) (jW y z):=by subst eK em;exact⟨JA t.h (hr.mono hk) hg D.m D.F.kp t.b .nil wD ha.p hdb he hpl,Sm ha⟩
theorem pmD{o:Expr}{to:TE}{Fo:DV}{Fl:DL}{f:Addr}{nm:Str}{pl:Sem Bool}{k:Dd Z (Meth Z C x f) x m Y Q I f S}(t:Ok X.prog X.w O X.base k R (H0 Z D))(T:jr Z nm C)(hr:S5 L X.A)(h:PX X E o to Fo)(ha:gm X E (e::H) G Fl)(eK:autoParam (X.K=Z) w4)(em:autoParam (X.mg=O) w4)(hk:R<=L:=by omega)(he:autoParam (hI X e H) w4)(hpl:autoParam (lj X p H) w4)(hq:autoParam (Qt X o x M (e::H) p pl) w4):PX X E (.Call (.Attribute o x M) (e::H) [] p) (sE C x (H0 Z D) [] E0 to G) (Z8 nm x D Fo Fl):=by subst eK em;exact⟨Jz h.p T.cl k.m t.h (hr.mono hk) t.b .nil wD ha.p he hpl hq,Jd T h ha⟩
theorem pm0{to:TE}{Fo:DV}{f:Addr}{nm:Str}{pl:Sem Bool}{o:Dd Z (Meth Z C x f) x m Y Q I f S}(G:Ok X.prog X.w O X.base o R (H0 Z D))(T:jr Z nm C)(hr:S5 L X.A)(h:PX X E e to Fo)(eK:autoParam (X.K=Z) w4)(em:autoParam (X.mg=O) w4)(hk:R<=L:=by omega)(hq:autoParam (Qt X e x M [] p pl) w4):PX X E (.Call (.Attribute e x M) [] [] p) (sE C x (H0 Z D) [] E0 to qF) (Z8 nm x D Fo B1):=by subst eK em;exact⟨Uk h.p T.cl o.m G.h (hr.mono hk) G.b .nil wD hq,Jd T h JB⟩
theorem pmO{o:Expr}{k0:Nat}{f:Addr}{nm:Str}{pl:Sem Bool}{D:Dd Z (Meth Z C x f) x m Y Q k0 f S}(t:Ok X.prog X.w O X.base D L (mm Z y))(T:jr Z nm C)(hr:S5 I X.A)(h:PE X o (S3 R))(ha:vr X (e::H) G z)(eK:autoParam (X.K=Z) w4)(em:autoParam (X.mg=O) w4)(hk:L<=I:=by omega)(he:autoParam (hI X e H) w4)(hpl:autoParam (lj X p H) w4)(hq:autoParam (Qt X o x M (e::H) p pl) w4):Qq X (.Call (.Attribute o x M) (e::H) [] p) (sE C x (mm Z y) [] E0 (S3 R) G) (W9 nm x R y z):=by subst eK em;exact⟨Jz h T.cl D.m t.h (hr.mono hk) t.b .nil wD ha.p he hpl hq,Sl T ha⟩
theorem bkN(h:mC X.N X.N X.env.scope v=Uf):mC X.N X.N X.env.scope v=Uf:=h
theorem bkL(nb:List Str)(h:mC X.N nb X.env.scope v=Uf):mC X.N nb X.env.scope v=Uf:=h
mutual
inductive Cs(K:A6):t7->V->f9->Prop
 |i {n:Int}{t:Tok}:Cs K (.int n t) (.int n) (.int n)
 |t {a:Addr}{d:Option Addr}{n:Nat}{s:Array (Option t7)}{us:List t7}{vs:List V}{ds:List f9} (l:K.lookup a=U ⟨.type "tuple",d,.seq us.toArray n,s⟩) (z:us.toArray.size<=1000) (h:Cl K us vs ds):Cs K (.ref a) (.ref a) (.tuple ds)
inductive Cl(K:A6):List t7->List V->List f9->Prop
 |n:Cl K [] [] []
 |c {u:t7}{us:List t7}{v:V}{vs:List V}{d:f9}{ds:List f9} (a:Cs K u v d) (b:Cl K us vs ds):Cl K (u::us) (v::vs) (d::ds)
end
mutual
theorem Cs.to{K:A6}{u:t7}{v:V}{d:f9}(h:Cs K u v d):RelV v u/\∀H,Dt K H v d:=by
 cases h with
 |i=>exact⟨⟨_,rfl⟩,λ_=>.int _⟩
 |t l z h=>exact⟨rfl,VB l z h.to.1 h.to.2⟩
theorem Cl.to{K:A6}{us:List t7}{vs:List V}{ds:List f9}(h:Cl K us vs ds):Vals vs us/\∀H,E9 K H vs ds:=by
 cases h with
 |n=>exact⟨.nil,λ_=>.nil⟩
 |c a b=>exact⟨.cons a.to.1 b.to.1,λH=>.cons (a.to.2 H) (b.to.2 H)⟩
end
inductive Ck(K:A6):List (Str×f9)->List Addr->Prop
 |n:Ck K [] []
 |c {s:Str}{d:f9}{l:List (Str×f9)}{a:Addr}{as:List Addr} (e:gu K aQ s=U (U (.ref a))) (h:Cs K (.ref a) (.ref a) d) (r:Ck K l as):Ck K ((s,d)::l) (a::as)
theorem Ck.at{K:A6}{s:Str}{d:f9}{l:List (Str×f9)}{as:List Addr}{i:Nat}(h:Ck K l as)(m:l[i]?=U (s,d)):gu K aQ s=U (U (.ref (as.getD i 0)))/\Cs K (.ref (as.getD i 0)) (.ref (as.getD i 0)) d:=by
 induction h generalizing i with
 |n=>exact nE m
 |c a b _ j=>cases i with
  |zero=>cases m;exact⟨a,b⟩
  |succ i=>exact(j (i:=i) m :)
def cts:List (Str×f9):=[("FREE",rJ),("LACKED",Gq),("NOUGHT_best",N7),("NOUGHT_solving",O4),("PARTS",lI),("UNDONE",yq)]
structure Ads where
 f:Nat->Addr
 d:Nat->Y6
 u:Nat->Addr
 C:Addr
noncomputable def Xg:List De:=[.f "common_divisor" 4 ["one","other","rest"] 2,
 .f "fraction" 5 ["top","bottom","divisor"] 2,
 .f "plus" 6 ["one","other","shared","top","divisor"] 2,
 .f "minus" 7 ["one","other"] 2,
 .f "times" 8 ["one","other","divisor","other_divisor","top"] 2,
 .f "over" 9 ["one","other"] 2,
 .f "under" 10 ["one","other"] 2,
 .f "common_multiple" 14 ["numbers","told","number"] 1,
 .f "whole" 15 ["one","by"] 2,
 .f "scale_of" 16 ["rows","choice"] 2,
 .f "column_of" 17 ["rows","choice","scale"] 3,
 .f "unit_row" 18 ["count","place","row"] 2,
 .f "product" 19 ["row","other"] 2,
 .f "column_product" 20 ["row","column"] 2,
 .f "turned" 21 ["row","pivot_row","factor","pivot","size"] 5,
 .i "Table.__init__" 22 0 ["self","costs","rows","rights","tops","first"] 6,
 .m "set_weights" "Table.set_weights" 22 1 ["self","costs","part","weights","multiple"] 2,
 .m "set_limits" "Table.set_limits" 22 2 ["self","rights","tops","heights","bottoms"] 3,
 .m "first_prices" "Table.first_prices" 22 3 ["self","part"] 2,
 .m "rest" "Table.rest" 22 4 ["self","part","choice"] 3,
 .m "amounts" "Table.amounts" 22 5 ["self"] 1,
 .m "paces" "Table.paces" 22 6 ["self","choice"] 2,
 .m "flip" "Table.flip" 22 7 ["self","choice","by","place","number"] 2,
 .m "turn" "Table.turn" 22 8 ["self","choice","place","paces","sign","pivot","pivot_row","part","factor","inverse"] 4,
 .f "gain_of" 23 ["table","choice","sign","part","rest"] 2,
 .f "moving" 24 ["table","careful","told","best","choice","gain"] 2,
 .f "stops" 25 ["table","choice","paces","found","sign","place","amount","number","limit","pace"] 3,
 .f "sooner" 26 ["one","other","length","other_length"] 2,
 .f "first_stop" 27 ["found","told","stop"] 1,
 .f "move" 28 ["table","choice","paces","stop"] 4,
 .f "mix_of" 29 ["table","tops","mix","choice","amount"] 2,
 .f "price_of" 30 ["table","place","parts"] 2,
 .f "way_of" 31 ["table","choice","paces","way","number","pace"] 3,
 .f "solved" 32 ["costs","rows","rights","tops","first","table","choice","paces","stop"] 5,
 .f "added" 34 ["one","other"] 2,
 .f "multiplied" 35 ["one","by"] 2,
 .f "coins" 41 ["price"] 1,
 .f "into" 42 ["hour"] 1,
 .f "out_of" 43 ["hour"] 1,
 .f "hour_choices" 44 ["number","hour","choices","line"] 2,
 .f "store_choices" 45 ["house","number","count","hour","store","filled","taken","end"] 2,
 .f "work_choices" 46 ["house","number","work","row","choices","hour","numbers"] 2,
 .f "choices_of" 47 ["house","found","number","hour"] 1,
 .f "rows_of" 48 ["choices","count","rows","place","choice","row","one"] 2,
 .f "rights_of" 49 ["house","needs","starts"] 1,
 .f "first_names" 50 ["house","needs","levels"] 1,
 .f "parted" 51 ["store","filled","taken","more"] 3,
 .f "plan_of" 52 ["house","amounts","plan","hour","traded","stored","worked"] 2,
 .f "prices_of" 53 ["house","told","count","here","stored","behind","price"] 2,
 .f "best_plan" 54 ["house","choices","names","costs","tops","rights","first","answer"] 1,
 .f "_law_draw" 56 ["_law_script","_law_k","_law_many","_law_cell","_law_mixed"] 3,
 .f "_law_norm" 57 ["_law_top","_law_bottom","_law_one","_law_other","_law_rest"] 2,
 .f "_law_sum" 58 ["_law_one","_law_other"] 2,
 .f "_law_times" 59 ["_law_one","_law_other"] 2,
 .f "_law_more" 60 ["_law_one","_law_other","_law_by"] 3,
 .f "_law_below" 61 ["_law_one","_law_other"] 2,
 .f "_law_cheaper" 62 ["_law_one","_law_other","_law_k"] 2,
 .f "_law_negative" 63 ["_law_one"] 1,
 .f "_law_whole" 64 ["_law_found"] 1,
 .f "_law_is_fraction" 65 ["_law_found"] 1,
 .f "_law_is_triple" 66 ["_law_found"] 1,
 .f "_law_number" 67 ["_law_script","_law_k","_law_most","_law_far"] 3,
 .f "_law_share" 68 ["_law_script","_law_k","_law_some","_law_bottom"] 2,
 .f "_law_long_house" 69 ["_law_script","_law_many","_law_hours","_law_size","_law_store"] 1,
 .f "_law_house" 70 ["_law_script","_law_many","_law_hours","_law_t","_law_k","_law_line_here","_law_buy","_law_give","_law_n","_law_size","_law_store","_law_works","_law_j","_law_first","_law_last"] 1,
 .f "_law_line" 71 ["_law_hour"] 1,
 .f "_law_costs" 72 ["_law_house_here","_law_plan","_law_lacked","_law_undone","_law_paid","_law_level","_law_work","_law_t","_law_done","_law_line_here","_law_one"] 2,
 .f "_law_coins" 73 ["_law_number_here"] 1,
 .f "_law_less" 74 ["_law_one","_law_other","_law_by"] 3,
 .f "_law_hour_rests" 75 ["_law_house_here","_law_prices","_law_t","_law_hour","_law_store","_law_p","_law_q","_law_behind","_law_line_here","_law_rows","_law_j","_law_work"] 3,
 .f "_law_house_floor" 76 ["_law_house_here","_law_prices","_law_nothing","_law_total","_law_rows","_law_t","_law_j","_law_work","_law_rest","_law_most"] 2,
 .f "_law_shape" 77 ["_law_house_here","_law_plan","_law_done","_law_one"] 2,
 .f "_law_within" 78 ["_law_one","_law_most"] 2,
 .f "_law_hour_fine" 79 ["_law_house_here","_law_t","_law_done","_law_hour","_law_store","_law_line_here","_law_mosts","_law_k","_law_rest","_law_one","_law_j","_law_work","_law_most"] 3,
 .f "_law_fine" 80 ["_law_house_here","_law_plan","_law_level","_law_left","_law_t","_law_done","_law_j"] 2,
 .f "_law_are_prices" 81 ["_law_house_here","_law_prices","_law_k","_law_one"] 2,
 .f "_law_borne_out" 82 ["_law_house_here","_law_found","_law_nothing","_law_one","_law_done"] 2,
 .f "law" 83 ["_law_script","_law_house_here"] 1]
structure Txt(K:A6)(mg:Str->Option t7)(a:Ads):Prop where
 f:∀(i:Nat) {n:Str}{t k:Nat}{N:List Str},Xg[i]?=U (.f n t N k)->Dd K (mg n=U (.ref (a.f i))) n n (top t) N k (a.f i) (a.d i)
 m:∀(i:Nat) {n q:Str}{t j k:Nat}{N:List Str},Xg[i]?=U (.m n q t j N k)->Dd K (Meth K a.C n (a.f i)) n q (inClass (top t) j) N k (a.f i) (a.d i)
 i:∀(i:Nat) {q:Str}{t j k:Nat}{N:List Str},Xg[i]?=U (.i q t j N k)->Dd K (Mk K a.C (a.f i)) "__init__" q (inClass (top t) j) N k (a.f i) (a.d i)
 cn:jr K "Table" a.C
 mc:mg "Table" = U (.ref a.C)
 na:∀s∈(["scales","columns","multiples","weights","unit","rights","limits","chosen","full","size","inverse","prices"]:List Str),cU K a.C s
 n:∀s∈(["abs","all","bool","dict","enumerate","int","isinstance","len","list","range","reversed","sum","tuple","zip"]:List Str),mg s=J
 v:∀(i:Nat) {s:Str}{d:f9},cts[i]?=U (s,d)->mg s=U (.ref (a.u i))/\RelV (.ref (a.u i)) (.ref (a.u i))/\∀H,Dt K H (.ref (a.u i)) d
set_option hygiene false
local macro_rules|`(tactic|walk_at "n")=>`(tactic|first|exact nd|(dsimp only[ph,Cx.CN,qH];decide +kernel))
local macro_rules|`(tactic|walk_at "v")=>`(tactic|first|exact Or.inl rfl|exact Or.inr rfl)
local macro_rules|`(tactic|walk_at "o")=>`(tactic|(first|apply xk|apply II|apply Zj|apply UB|apply Uz|apply Zk|apply Uy|apply uQ|apply Ux|apply IE|apply EV|apply ID|apply Ls|apply xl|apply Ou|apply qZ|apply uo|apply sO|apply jO|apply DA|apply xY|apply BE|apply DC|apply Dz|apply LD|apply Oz|apply UA|apply Ov|apply Dw|apply Zl|apply OA|apply IF|apply Ot|apply Ow|apply UE|apply Du|apply UD|apply Zm|apply Oy|apply yV|apply xV|apply yR|apply Dx|apply Lr|apply ES|apply BD|apply Ox|apply Lu|apply ET|apply EW|apply OI|apply OC|apply UC|apply Lw|apply OE|apply LC|apply EU|apply Dv|apply Lv|apply xW|apply BA|apply IH|apply Lx|apply yS|apply Lz|apply OF|apply LA|apply LB|apply OG|apply yT|apply xX|apply Ly|apply IG|apply BB|apply OH|apply yU|apply BC|apply OB)<;>exact T)
local macro_rules|`(tactic|walk_at "t")=>`(tactic|first|exact Sv|exact Su|exact Sr|exact XO (by repeat first|exact Ss|apply Ng))
local macro_rules|`(tactic|walk_at "w")=>`(tactic|first|exact Pz f5|exact Vc (zp (zp Py f5) f5))
local macro_rules|`(tactic|walk_at "m")=>`(tactic|first|exact(rfl : _ = [_])|exact(rfl : _ = [_,_]))
local macro_rules|`(tactic|walk_at "u")=>`(tactic|first|exact bkN rfl|exact bkL ["choices","count","rows","place","choice","row'","one"] rfl|exact bkL ["house","told","count","here","stored","behind","price'"] rfl)
local macro_rules|`(tactic|walk_at "l")=>`(tactic|first|exact Yp rfl (by walk_at "u") (by walk_at "m") (by walk_at "t") (by walk_at "q") (by walk_at "w") (λ_ _ _ _ _ _=>(by walk_at "q")) (λ_ _ _ _ _ _=>(by walk_at "q")) (λ_ _ _ _ _ _=>(by walk_at "q")))
seal t4 B1 pz C8 vo fO bJ hE A9 cQ X0 tc fC f7 jW D0 rH J7 jE jV Z8 zC cG jD aJ fS sZ Dh N6 sY sX W9 Ci P9 jU u3 Xd ua v9 Y5 iy u7 U6 Z7 aW sU R8 sT G0 wY M0 Cf wX cO ve nX Z5 cN C9 my av t8 U5 wW u6 Y4 Cd jS vd nK F3 N2 zk lB oX iw K6 tY C7 wK oV BN fh aG fR dE dD Q6 iR xT Bs G9 jM KW di Bo hU eu
local macro_rules|`(tactic|walk_at "x")=>`(tactic|first|apply a1q|(show PX _ _ _ _ (u7 _);exact a1n _ (pv _))|(show PX _ _ _ _ (fC _);first|exact a1u|exact a3V|exact a1p|exact a1s|exact lr rfl (T.v 0 rfl)|exact lr rfl (T.v 1 rfl)|exact lr rfl (T.v 2 rfl)|exact lr rfl (T.v 3 rfl)|exact lr rfl (T.v 4 rfl)|exact lr rfl (T.v 5 rfl))|(show PX _ _ _ _ (u3 K6 _ _);exact a3T (r:=Jr K) zg a0n (by walk_at "q") (by walk_at "q") (λ_ _=>rfl))|apply qh Zd a3C|apply qh (r:=Lf K) Zi a3H|apply qh Uw a0q|apply qh Ze a3D|apply qh a1V a3y|apply qh (r:=Lc K) Zc a0k|apply qh a1X a3A|apply qh a1W a3z|apply uL (r:=Ld K) (Oo hr.units) a0r (ck _)|apply uL WM a0o (ck _)|apply uL DU Sd (ck _)|apply uL WN a0p (ck _)|apply uL WL a0m (ck _)|apply a3Q a0z a3B|apply Yl|(show PX _ _ _ _ (jV _ _);exact To hr.u1 (by walk_at "q") (by walk_at "q"))|(show PX _ _ _ _ (jE _ _ _);exact NL hr.u1 (by walk_at "q") (by walk_at "q") (by walk_at "q"))|(show PX _ _ _ _ (zC _);exact Tn (K':=K) rfl hr.u2 hr.hd rfl (T.n _ f5) M8 rfl (T.n _ f5) M8 (by walk_at "q"))|(show PX _ _ _ _ (sX lB _ _);exact NK (K':=K) hr.units rfl (by walk_at "q") (by walk_at "q"))|apply a1o|apply a1t|apply a3U|apply a1x|apply a3R|apply a1r|apply a1v|apply a3S|apply a1w|(show PX _ _ _ _ (U6 _);exact Yk _ (pv _))|(show PX _ _ _ _ (sZ _ _);exact Yo (K':=K) rfl _ (pv _) (by walk_at "q"))|(show PX _ _ _ _ (f7 _ _);first|(show PX _ _ _ _ (f7 C7 _);exact sL (r:=Te K) Qi a3F rfl (T.n _ f5) M8 (by walk_at "q"))|(show PX _ _ _ _ (f7 pz _);exact sL VM a3I rfl (T.n _ f5) M8 (by walk_at "q"))|(show PX _ _ _ _ (f7 vo _);exact sL (r:=Le K) (Qj hr.hd) a0s rfl (T.n _ f5) M8 (by walk_at "q"))|(show PX _ _ _ _ (f7 Bo _);exact sL (r:=Lb K) (Qh hr.hd) a0i rfl (T.n _ f5) M8 (by walk_at "q"))|(show PX _ _ _ _ (f7 hU _);exact CK (r:=a3N K) DH Xx rfl (T.n _ f5) M8 (by walk_at "q"))|(show PX _ _ _ _ (f7 wK _);exact CK (r:=a1h K) Gm a0l rfl (T.n _ f5) M8 (by walk_at "q"))|exact pcD (by walk_at "o") hr (by walk_at "q"))|(show PX _ _ _ _ (D0 _ _ _ _);exact Ky.p (by walk_at "l"))|(show PX _ _ _ _ (fS _ _);exact Ti rfl f5 rfl (T.n _ f5) M8 (by walk_at "q") (YY rfl (T.n _ f5) M8 rfl))|apply Tg (r:=rSl K) a0U a5w|(show PX _ _ _ _ (sX zk _ _);exact Tj (by walk_at "q") (by walk_at "q"))|(show PX _ _ _ _ (J7 _ _ _);exact Tp rfl T.cn (T.na _ f5) (by walk_at "q"))|(show PX _ _ _ _ (P9 _ _ _);exact Th rfl T.cn (T.na _ f5) (pv _))|(show PX _ _ _ _ (jU _ _ _ _);exact Ym rfl T.cn (T.na _ f5) (pv _) (by walk_at "q"))|(show PX _ _ _ _ (Z8 _ _ _ _ B1);exact pm0 (by walk_at "o") T.cn hr (by walk_at "q") (pl:=_))|(show PX _ _ _ _ (Z8 _ _ _ _ _);exact pmD (by walk_at "o") T.cn hr (by walk_at "q") (by walk_at "q") (pl:=_))|(show PX _ _ _ _ (sY _ _ _);exact Yn T.cn (T.i 15 rfl).m (jO T).h (hr.mono (by omega)) rfl T.mc (jO (P:=P) (w:=w) (base:=base) T).b wD (by walk_at "q")))
local macro_rules|`(tactic|walk_at "y")=>`(tactic|first|(show T3 _ _ _ (U5 _ (rH _ _ _));exact CL (by walk_at "n") rfl (by walk_at "v") (Tq rfl (by walk_at "u") (by walk_at "m") (by walk_at "t") (by walk_at "q") (by walk_at "w") (λ_ _ _ _ _ _=>(by walk_at "q")) (λ_ _ _ _ _ _=>(by walk_at "q"))))|(show T3 _ _ _ (u6 _ (D0 _ _ _ _));exact NR (by walk_at "n") rfl (by walk_at "v") (by walk_at "l"))|(show T3 _ _ _ (U5 _ (D0 _ _ _ _));exact CL (by walk_at "n") rfl (by walk_at "v") (by walk_at "l"))|(show T3 _ _ _ (wW _ _ _ _);exact Tw (pv _) (by walk_at "q") (by walk_at "q") (by walk_at "q"))|(show T3 _ _ _ (wX _ _);exact Yy _ (pv _))|(show T3 _ _ _ (u6 _ _);exact Tv (by walk_at "n") rfl (by walk_at "v") (by walk_at "q"))|(show T3 _ _ _ (C9 (cG _));exact Jx (fr:=false) (by walk_at "q"))|(show T3 _ _ _ (C9 _);exact Jx (fr:=true) (by walk_at "q"))|(show T3 _ _ _ (av _);exact Tx _ (pv _))|apply a1B|(show T3 _ _ _ (G0 _ _ _);exact YA Qu rfl (by walk_at "t") (by walk_at "q") (by walk_at "q") (by walk_at "q"))|(show T3 _ _ _ (U5 _ _);exact Yx (by walk_at "n") rfl (by walk_at "v") (by walk_at "q"))|(show T3 _ _ _ (ve);exact NT)|apply TF _|(show T3 _ _ _ (aW _ _);exact YD _ (pv _) (by walk_at "q"))|(show T3 _ _ _ (sT _ _);exact YC _ (pv _) (by walk_at "q"))|(show T3 _ _ _ (Y4 _ _ _);exact Tu _ (pv _) (by walk_at "q") (by walk_at "q"))|(show T3 _ _ _ (jS _ _ _);exact NQ _ Qu (by walk_at "q") (by walk_at "q"))|(show T3 _ _ _ (Cf _ _ _);exact Yz _ (pv _) (by walk_at "q") (by walk_at "q"))|(show T3 _ _ _ (R8 _);exact NU (by walk_at "q"))|(show T3 _ _ _ (my);exact NS)|(show T3 _ _ _ (Z5 _ _ _ _ _);exact TB T.cn (T.na _ f5) (pv _) (by first|exact λ_ _ h=>.inr h|exact λ_ _ h=>.inl h) (by walk_at "q"))|(show T3 _ _ _ (cN _ _ _ _ _);exact Tz T.cn (T.na _ f5) (pv _) (by walk_at "q") (by walk_at "q"))|(show T3 _ _ _ (nX _ _ _ _);exact TC T.cn (T.na _ f5) (pv _) (by walk_at "q")))
local macro_rules|`(tactic|walk_at "z")=>`(tactic|first|(show nN _ _ _ (fO _ _);exact xD.pt (by walk_at "q"))|(show nN _ _ _ (hE _ _);exact xD.pt (by walk_at "q"))|apply Yt|apply fJ (fr:=false) DU Sd (ck _)|apply fJ (fr:=true) (r:=Ld K) (Oo hr.units) a0r (ck _)|apply fJ (fr:=true) (r:=Tc K) (a1Y hr.units) a5x (ck _)|apply fJ (fr:=true) WM a0o (ck _)|apply fJ (fr:=true) DU Sd (ck _)|apply fJ (fr:=true) WN a0p (ck _)|apply fJ (fr:=true) WL a0m (ck _)|apply fJ (fr:=true) a2c a5y (ck _)|apply fJ (fr:=true) Zb Xy (ck _)|apply fJ (fr:=true) (r:=Td K) (a2a hr.units) a3E (ck _)|apply Ys (fr:=true))
local macro_rules|`(tactic|walk_at "q")=>`(tactic|(first|(show PX _ _ _ _ _;walk_at "x")|(show gm _ _ _ _ (t4 _ _);exact Up (by walk_at "q") (by walk_at "q"))|exact JB|(show T3 _ _ _ _;walk_at "y")|apply TH|apply NV|exact TJ|(show nN _ _ _ _;walk_at "z")|apply Ts|apply Yq|apply Yr|apply a1y|(show qs _ _ _ _ _ (F3 G9 _);exact Lm rfl (T.n _ f5) (by walk_at "q"))|(show qs _ _ _ _ _ (F3 jM _);exact Ll rfl (T.n _ f5) (by walk_at "q"))|(show qs _ _ _ _ _ (F3 eu _);exact YN rfl (T.n _ f5) (by walk_at "q"))|(show qs _ _ _ _ _ (F3 Bs _);exact YQ (K':=K) rfl rfl (T.n _ f5) (by walk_at "q"))|(show qs _ _ _ _ _ (F3 cQ _);exact Ud rfl (T.n _ f5) (by walk_at "q"))|apply YO|(show PG _ _ (cO _);exact Jy (by walk_at "n") rfl (by walk_at "v"))|(show PG _ _ (Cd _ _ _);exact a1J rfl (by walk_at "q"))|(show Qs _ _ (sU _ _);exact Ui (by walk_at "q") (by walk_at "q"))|exact YS|exact Oe|apply Od|exact TY|apply TV (fr:=true)|(show vr _ _ _ (iR _ _);exact Uq _ (pv _) (by walk_at "q"))|(show vr _ _ _ (Q6 _ _);exact Ur (by walk_at "q") (by walk_at "q"))|exact YZ|(show Qq _ _ _ (W9 _ _ _ _ _);exact pmO (by walk_at "o") T.cn hr (pv _) (by walk_at "q") (pl:=_))|(show Qq _ _ _ (jW _ _);exact pcO (by walk_at "o") hr (by walk_at "q")))<;>walk_at "q")
local macro_rules|`(tactic|walk_at "j")=>`(tactic|exact okA _ λ_ _ _ _ _ _ nd hr=>⟨_,by walk_at "q"⟩)
local macro_rules|`(tactic|walk_at "i")=>`(tactic|exact okB _ λ_ _ _ _ _ _ nd hr=>⟨_,by walk_at "q"⟩)
section
variable{K:A6}{mg:Str->Option t7}{ad:Ads}(T:Txt K mg ad)
theorem xk:Ok P w mg base (T.f 0 rfl) 1 (H0 K R1):=by delta R1 dg dh;walk_at "j"
theorem II:Ok P w mg base (T.f 1 rfl) 2 (H0 K ah):=by walk_at "j"
theorem Zj:Ok P w mg base (T.f 2 rfl) 2 (H0 K kM):=by walk_at "j"
theorem UB:Ok P w mg base (T.f 3 rfl) 3 (H0 K cJ):=by walk_at "j"
theorem Uz:Ok P w mg base (T.f 4 rfl) 2 (H0 K aL):=by walk_at "j"
theorem Zk:Ok P w mg base (T.f 5 rfl) 3 (H0 K Be):=by walk_at "j"
theorem Uy:Ok P w mg base (T.f 6 rfl) 1 (H0 K lO):=by walk_at "j"
theorem uQ:Ok P w mg base (T.f 7 rfl) 3 (H0 K P0):=by delta P0 aE;walk_at "j"
theorem Ux:Ok P w mg base (T.f 8 rfl) 1 (H0 K lM):=by walk_at "j"
theorem IE:Ok P w mg base (T.f 9 rfl) 4 (H0 K kJ):=by delta kJ pZ;walk_at "j"
theorem EV:Ok P w mg base (T.f 10 rfl) 2 (H0 K iN):=by delta iN ao aq;walk_at "j"
theorem ID:Ok P w mg base (T.f 11 rfl) 1 (H0 K oh):=by walk_at "j"
theorem Ls:Ok P w mg base (T.f 12 rfl) 1 (H0 K mZ):=by delta mZ qJ;walk_at "j"
theorem xl:Ok P w mg base (T.f 13 rfl) 1 (H0 K aM):=by delta aM Y2;walk_at "j"
theorem Ou:Ok P w mg base (T.f 14 rfl) 1 (H0 K ji):=by delta ji tO;walk_at "j"
theorem qZ:Ok P w mg base (T.m 18 rfl) 1 (H0 K V3):=by delta V3 dM;walk_at "j"
theorem uo:Ok P w mg base (T.m 17 rfl) 4 (mm K de):=by delta de bS bR V0 V4 bQ bP;walk_at "i"
theorem sO:Ok P w mg base (T.m 16 rfl) 4 (mm K cC):=by delta cC bx Y3 eV eU;walk_at "i"
theorem jO:Ok P w mg base (T.i 15 rfl) 5 (mm K bY):=by delta bY jq jo jn jm;walk_at "i"
theorem DA:Ok P w mg base (T.m 19 rfl) 2 (H0 K cw):=by walk_at "j"
theorem xY:Ok P w mg base (T.m 20 rfl) 2 (H0 K ai):=by delta ai ig;walk_at "j"
theorem BE:Ok P w mg base (T.m 21 rfl) 2 (H0 K bC):=by delta bC kT;walk_at "j"
theorem DC:Ok P w mg base (T.m 22 rfl) 1 (mm K U2):=by delta U2 eY;walk_at "i"
theorem Dz:Ok P w mg base (T.m 23 rfl) 3 (mm K gF):=by delta gF eX gW eT;walk_at "i"
theorem LD:Ok P w mg base (T.f 24 rfl) 3 (H0 K ni):=by delta ni mh;walk_at "j"
theorem Oz:Ok P w mg base (T.f 25 rfl) 4 (H0 K jj):=by delta jj bU;walk_at "j"
theorem UA:Ok P w mg base (T.f 26 rfl) 3 (H0 K jG):=by delta jG nk;walk_at "j"
theorem Ov:Ok P w mg base (T.f 27 rfl) 1 (H0 K tM):=by walk_at "j"
theorem Dw:Ok P w mg base (T.f 28 rfl) 2 (H0 K cv):=by delta cv bZ;walk_at "j"
theorem Zl:Ok P w mg base (T.f 29 rfl) 4 (mm K sx):=by walk_at "i"
theorem OA:Ok P w mg base (T.f 30 rfl) 3 (H0 K dI):=by delta dI tQ om;walk_at "j"
theorem IF:Ok P w mg base (T.f 31 rfl) 3 (H0 K kK):=by delta kK gG;walk_at "j"
theorem Ot:Ok P w mg base (T.f 32 rfl) 3 (H0 K lN):=by delta lN oj;walk_at "j"
theorem Ow:Ok P w mg base (T.f 33 rfl) 7 (H0 K pY):=by delta pY df bT tP;walk_at "j"
theorem UE:Ok P w mg base (T.f 34 rfl) 3 (H0 K xj):=by walk_at "j"
theorem Du:Ok P w mg base (T.f 35 rfl) 3 (H0 K kN):=by walk_at "j"
theorem UD:Ok P w mg base (T.f 36 rfl) 1 (H0 K sy):=by walk_at "j"
theorem Zm:Ok P w mg base (T.f 37 rfl) 1 (H0 K gE):=by walk_at "j"
theorem Oy:Ok P w mg base (T.f 38 rfl) 4 (H0 K gB):=by walk_at "j"
theorem yV:Ok P w mg base (T.f 39 rfl) 5 (H0 K gV):=by walk_at "j"
theorem xV:Ok P w mg base (T.f 40 rfl) 5 (H0 K fY):=by delta fY nR nQ;walk_at "j"
theorem yR:Ok P w mg base (T.f 41 rfl) 5 (H0 K gR):=by delta gR fz;walk_at "j"
theorem Dx:Ok P w mg base (T.f 42 rfl) 6 (H0 K kP):=by delta kP gY gX;walk_at "j"
theorem Lr:Ok P w mg base (T.f 43 rfl) 1 (H0 K qx):=by delta qx dJ lZ ma;walk_at "j"
theorem ES:Ok P w mg base (T.f 44 rfl) 1 (H0 K lY):=by delta lY ug nB;walk_at "j"
theorem BD:Ok P w mg base (T.f 45 rfl) 2 (H0 K fI):=by delta fI kR qC kQ;walk_at "j"
theorem Ox:Ok P w mg base (T.f 46 rfl) 4 (H0 K yt):=by walk_at "j"
theorem Lu:Ok P w mg base (T.f 47 rfl) 5 (H0 K qy):=by delta qy md xF;walk_at "j"
theorem ET:Ok P w mg base (T.f 48 rfl) 4 (H0 K iL):=by delta iL nC nG;walk_at "j"
theorem EW:Ok P w mg base (T.f 49 rfl) 8 (H0 K iO):=by delta iO uk uj ui uh;walk_at "j"
theorem OI:Ok P w mg base (T.f 50 rfl) 1 (H0 K D8):=by walk_at "j"
theorem OC:Ok P w mg base (T.f 51 rfl) 1 (H0 K fy):=by delta fy oi oo;walk_at "j"
theorem UC:Ok P w mg base (T.f 52 rfl) 2 (H0 K Q4):=by walk_at "j"
theorem Lw:Ok P w mg base (T.f 53 rfl) 2 (H0 K U1):=by walk_at "j"
theorem OE:Ok P w mg base (T.f 54 rfl) 3 (H0 K jk):=by delta jk Bg;walk_at "j"
theorem LC:Ok P w mg base (T.f 55 rfl) 1 (H0 K wa):=by walk_at "j"
theorem EU:Ok P w mg base (T.f 56 rfl) 2 (H0 K iM):=by delta iM ar;walk_at "j"
theorem Dv:Ok P w mg base (T.f 57 rfl) 1 (H0 K ag):=by walk_at "j"
theorem Lv:Ok P w mg base (T.f 58 rfl) 1 (H0 K vZ):=by walk_at "j"
theorem xW:Ok P w mg base (T.f 59 rfl) 2 (H0 K fZ):=by walk_at "j"
theorem BA:Ok P w mg base (T.f 60 rfl) 3 (H0 K iX):=by delta iX qB;walk_at "j"
theorem IH:Ok P w mg base (T.f 61 rfl) 2 (H0 K O9):=by walk_at "j"
theorem Lx:Ok P w mg base (T.f 62 rfl) 2 (H0 K gC):=by walk_at "j"
theorem yS:Ok P w mg base (T.f 63 rfl) 3 (H0 K gS):=by delta gS jl;walk_at "j"
theorem Lz:Ok P w mg base (T.f 64 rfl) 4 (H0 K qA):=by delta qA me iP qM;walk_at "j"
theorem OF:Ok P w mg base (T.f 65 rfl) 1 (H0 K lQ):=by walk_at "j"
theorem LA:Ok P w mg base (T.f 66 rfl) 3 (H0 K nc):=by delta nc qO qN mf;walk_at "j"
theorem LB:Ok P w mg base (T.f 67 rfl) 1 (H0 K gD):=by walk_at "j"
theorem OG:Ok P w mg base (T.f 68 rfl) 4 (H0 K V9):=by walk_at "j"
theorem yT:Ok P w mg base (T.f 69 rfl) 5 (H0 K gT):=by delta gT js;walk_at "j"
theorem xX:Ok P w mg base (T.f 70 rfl) 6 (H0 K da):=by delta da ej ei eh;walk_at "j"
theorem Ly:Ok P w mg base (T.f 71 rfl) 3 (H0 K qz):=by delta qz qK qL;walk_at "j"
theorem IG:Ok P w mg base (T.f 72 rfl) 1 (H0 K kO):=by walk_at "j"
theorem BB:Ok P w mg base (T.f 73 rfl) 3 (H0 K iY):=by delta iY kY kX kW;walk_at "j"
theorem OH:Ok P w mg base (T.f 74 rfl) 4 (H0 K tN):=by delta tN tR tS oq Bh;walk_at "j"
theorem yU:Ok P w mg base (T.f 75 rfl) 4 (H0 K gU):=by delta gU fA jt;walk_at "j"
theorem BC:Ok P w mg base (T.f 76 rfl) 7 (H0 K iZ):=by delta iZ lh kZ;walk_at "j"
theorem OB:Ok P w mg base (T.f 77 rfl) 9 (H0 K xi):=by walk_at "j"
end
theorem all_mk{l:Hh}{w:G6}{K:A6}{h:Heap}{mg:Str->Option t7}{fa:Addr}(X:K.In h)(G:h.Ns aQ mg)(hfa:mg "law" = U (.ref fa)){C:Addr}{fs cs:List Addr}{ds:List Y6}(aC:gu K aQ "Table" = U (U (.ref C)))(A:Ns K C Xg fs ds)(hc:(vO K C mK=Uf/\vR K C=Uf)/\HB K C=Uf/\cY K (.ref C) "__setattr__" = U (U (.builtin "object.__setattr__")))(mc:Hj K C=Uf)(kc:pK K (.ref C)=Uf)(na:Al (cU K C) ["scales","columns","multiples","weights","unit","rights","limits","chosen","full","size","inverse","prices"])(z:Al (λs=>gu K aQ s=U J) ["abs","all","bool","dict","enumerate","int","isinstance","len","list","range","reversed","sum","tuple","zip"])(cc:Ck K cts cs):
  ∃fd:Y6,(∀(s:A0) (v:t7),pC s fd ⟨[v],[]⟩ [("_law_script",v)])/\∀base:Heap,K.In base->base.Ns aQ mg->ie l.prog w K mg base um 9 fa fd ["_law_script"] (H0 K xi):=by
 let ad:Ads:=⟨λi=>fs.getD i 0,λi=>ds.getD i (iI mK mK (jF (top 0)) (cI (top 0)) (O3 (top 0)) .none .none .none .none J .none .none),λi=>cs.getD i 0,C⟩
 have T:Txt K mg ad:=⟨λi _ _ _ _ m=>by
  cases A.at m with
  |f a r=>exact⟨WC r,GP X G a⟩,λi _ _ _ _ _ _ m=>by
  cases A.at m with
  |m a b r=>exact⟨WC r,a,b,(WC r).kp⟩,λi _ _ _ _ _ m=>by
  cases A.at m with
  |i a b r=>exact⟨WC r,mc,a,b,kc⟩,⟨aC,⟨hc.1.1,hc.1.2,hc.2.1,hc.2.2⟩⟩,GP X G aC,λ_ m=>na.at m,λ_ m=>PySem.W.mg_none_of X G (z.at m),λi _ _ m=>⟨GP X G (cc.at m).1,(cc.at m).2.to⟩⟩
 have e:fa=ad.f 77:=Value.ref.inj (W5 (hfa.symm.trans (T.f 77 rfl).m));exact⟨ad.d 77,λs v=>(A.at (i:=77) rfl).to (by walk_at "b") s [v] rfl,λbase _ _=>e▸(OB T).h⟩
theorem walk{l:Hh}{XP:(Str->Option t7)->Heap->Prop}{YP:G6->Heap->Prop}{d:DefRec}{K:Params->A6} (hL:∀ns:List Int,ns.length<=63->xi [.list (ns.map .int)]=U (.dat (.bool Uf))) (hn:l.most=U 63) (hdf:d.params.defaults=[]) (hY:∀(w:G6) (h:Heap),YP w h->(K w.params).In h) (F:∀(w:G6) (mg:Str->Option t7) (fa:Addr) (h:Heap),(K w.params).In h->h.Ns aQ mg->mg d.name=U (.ref fa) ->
   ∃fd:Y6,(∀(s:A0) (u:t7),pC s fd ⟨[u],[]⟩ [("_law_script",u)])/\∀base:Heap,(K w.params).In base->base.Ns aQ mg->ie l.prog w (K w.params) mg base um 9 fa fd ["_law_script"] (H0 (K w.params) xi)) :
  PySem.W.WalkO P Q XP YP l.row.toRowW d [] (λf vs=>Gy f vs):=
 L2.XH (n:=63) (k:=9) (x:="_law_script") (CX:=λ_=>um) (sp:=λw=>H0 (K w.params) xi) hn f5 hdf ⟨rfl,by decide,by decide⟩ hY F (λ_ _ a ns hl _ hS=>⟨[],[.list (ns.map .int)],_,λa h=>absurd h F5,.cons (.lst (XW hS) (Vr ns)) .nil,hL ns hl,λv H' _ r=>ZQ r⟩) λ_ _ _ _ _ z=>z
end Law
local macro_rules|`(tactic|walk_at "k")=>`(tactic|(refine' Law.Rw.mk ?l ?c ?k;(case l=>k_is);(case c=>k_is);(case k=>k_is)))
local macro_rules|`(tactic|walk_at "p")=>`(tactic|first|exact .n|exact .c (.f (by k_is) (by walk_at "k")) (by walk_at "p")|exact .c (.m (by k_is) (by k_is) (by walk_at "k")) (by walk_at "p")|exact .c (.i (by k_is) (by k_is) (by walk_at "k")) (by walk_at "p"))
local macro_rules|`(tactic|walk_at "e")=>`(tactic|first|exact .n|exact .i|exact .c (by k_is) (by walk_at "e") (by walk_at "e")|exact .c (by walk_at "e") (by walk_at "e")|exact .t (by k_is) F5 (by walk_at "e"))
local macro_rules|`(tactic|walk_at "a")=>`(tactic|repeat first|exact .n|refine .c (by show _ = _;k_is) ?_)
structure PySem.W.Fast:Prop where
 (tw10014128656360387665 tw10026794202258918172 tw10155598553473350488 tw10197297010415251274 tw10446040116717903771 tw10507809401950910145 tw10585308098453801054 tw10622589048160981961 tw10643027525746717610 tw10951488713383540650 tw10975925743741477026 tw11069100863845123255 tw1112992521160210908 tw11132505923150748001 tw11244732674934576034 tw11246219222428390491 tw11267427150277572942 tw11273065122996266618 tw11509475758044366162 tw11536904795502992525 tw11580024996555965352 tw1161263957303497565 tw11672825173950007036 tw11748117972312996666 tw12145522896363922568 tw12193614704979882366 tw1222684431249059412 tw1232312985775472953 tw1232995690485703603 tw12415470353422973859 tw12524203105525539240 tw1272698512644927741 tw12784065992961415079 tw12925423446804630357 tw12965619422448150468 tw12978253403448989608 tw12995088702992078222 tw13085736995135438746 tw13189672470427881647 tw13323486687773696520 tw13466876589731525161 tw13476656392702396223 tw13854072783191763455 tw13859221137112347273 tw13931451604841658122 tw13973553778950527505 tw13987262878972186949 tw14097074413005621131 tw1418338962083444260 tw14283257164204468950 tw14349058075477517639 tw14376239303002469109 tw1441129256779298225 tw14684200642290266691 tw1474176745054172548 tw14748912750343260650 tw14963880039665942791 tw14985601206205385865 tw14996316630736991377 tw15000617114534617851 tw15215171153625220588 tw15240211418602395250 tw15273836433935728782 tw15324850979253419098 tw15394537111835755337 tw15523251318961996968 tw1560663137075115964 tw15736172230746333719 tw15936005063929128505 tw16125572455349859792 tw1615626296327346885 tw16325820663753702699 tw16440417232466519358 tw16443141992115461925 tw16466709504010604849 tw16525397659679977919 tw16551743081821622169 tw16593053224054499631 tw16603040130133078492 tw16756773975256963498 tw16780017920951873772 tw16795881730909703126 tw16895519525105222831 tw16919360703871296038 tw16936760716031424442 tw1707124298660582243 tw17101935053194261282 tw17200733736735819538 tw17411539917317684776 tw17645802629069196796 tw17906311496510952608 tw18017027559983238360 tw18083090500662655800 tw18175236060328504179 tw18178034457183477258 tw18188660162212603535 tw18238779758107336400 tw1863703520373716635 tw1933490514877064145 tw2010648207130681173 tw2186647476661749882 tw2251215816643887999 tw2424960414291534661 tw2644117381988175843 tw2689238972596816923 tw270440036602047854 tw2742967937279318020 tw2879685126886058553 tw298535260891796330 tw3038773809136467229 tw3118299720217970078 tw3157988431758096336 tw3171843500250587733 tw3238841334823496828 tw3324079838725823007 tw3502215755328409249 tw366383398537822627 tw3730730375046300612 tw3822583001624322988 tw3881620369545252155 tw4095820613540517413 tw4152283306434461909 tw4280430059204866473 tw4292711341962397059 tw4356538805357580878 tw4422432893231260225 tw4523820773782813846 tw4622514685077946118 tw4704910513816018804 tw4717924160085332282 tw4740257325977957511 tw477213966119894254 tw4779937898353307332 tw4821858259989202355 tw4848814143153116607 tw487937295252109059 tw4899049440147909282 tw5015029289452365583 tw5057512598356239077 tw5071749978631901853 tw5336536128515196568 tw5336835145517224209 tw5337746806684683674 tw5380112510623811888 tw5477453138043451492 tw5535774411807465236 tw5794459440012895014 tw5847371376774659401 tw6233735351196200682 tw6398633809805286682 tw6401109251234830560 tw6467803316657117485 tw647212050801940274 tw6564961828286129049 tw6633801816623377720 tw6851432063497465256 tw6860855323181907487 tw6878133918677916182 tw6948066444539688407 tw7092468409086066190 tw7169937202528789326 tw7201228318003951033 tw7349932950071988512 tw7373270497840012913 tw7411566357334876832 tw7520104884368822332 tw7593452951614885149 tw7610447357148101527 tw7677179840606241839 tw7841001521752493954 tw7842919743474335451 tw7961533689219201113 tw8072446492151499506 tw8078772826741789546 tw8100017371127169751 tw8164956004843978669 tw8275100847640697904 tw8377123153145039135 tw8386739744070262279 tw8607838663460699487 tw8829647107511071741 tw8939532887447283627 tw8947635147703319985 tw898623029013505961 tw9027181068515593674 tw9080068165857298091 tw911511474957968302 tw9292906919881428756 tw9380370462434758695 tw9454934525793699167 tw9474407882057129969 tw9499702516849712207 tw9609957857549478383 tw9650803248800800475 tw9772019867133841815 tw9795734306113733274 tw980498627864583590 tw9846970721667659257 tw13210282252692006377 tw11629058192490668018 tw11946579860097674063 tw2257287476070660738 tw12930565283605096962 tw5173722776224591694 tw17295650904946136601 tw8100571942213769115 tw4994520585371391833 tw9047315983771700466 tw12223297593773708643 tw8560654466649057270 tw4075475854708618059 tw3504067581414031809 tw3266460569466993536 tw13240027725609190133 tw10577334665989722813 tw10284710469058542882 tw10503078122208415470 tw14602610948789255869 tw4524988658497579079 tw12935419441724299561 tw11363788330380073103 tw16655679818739041856 tw8087609327107579826 tw1797971507796221282 tw16133862119070028361 tw18115301144268580719 tw9313617067298700858 tw7232775785592747198 tw6439917003809494364 tw5807641323992369398 tw2118259783684150075 tw16780462660207528548 tw13202308934063487159 tw12469537728288583501 tw2253416172709472295 tw1425253482265129919 tw7102070816956536480 tw16716804870127056148 tw14629809372235291140 tw13840854492731240926 tw1897002443749242880 tw10554113958259217923 tw7398676167619222563 tw4718989497888039881 tw2022875244115680548 tw17412502941077165734 tw15795065759334157966 tw14301766659788174090 tw14278221694906093124 tw15727497745417282320 tw6127350306918357955 tw4719153764831547529 tw2315535548909970352 tw17918700314522435893 tw14226319000957131794 tw13776254722378557167 tw11733677012984358602 tw1151768876645614876 tw16194209878107440694 tw9472304553627105248 tw9220138222788462062 tw9083745853567535318 tw904650713439047527 tw8899408480895737102 tw8856324128035821593 tw864733579996301633 tw8521533975373296400 tw8408508463979178015 tw838638651410330285 tw8324024391314816470 tw8274584189647658329 tw7648054099296962408 tw7557992693813127258 tw6899795450702045341 tw6799246055433653846 tw6285988148453596838 tw6042789605589891836 tw5666280281522432527 tw5364063446289154925 tw4967262803781486947 tw4741758993491187242 tw451129177531214392 tw4036986929398886161 tw398543583943019862 tw3703485465181534495 tw3540559189880779594 tw3073260311089264349 tw2727750684163413439 tw2720622411459466365 tw2541507568007374494 tw2320315736173532565 tw18397940543656391437 tw18149915078382921286 tw18122838680687600731 tw17979912502763687380 tw17797416988704495198 tw17721193344040967301 tw17663425249181292648 tw17311820325853251505 tw17299683559313661359 tw17189879710659393254 tw1664266286085395836 tw16591590854949025615 tw15691797020303710729 tw1554974067030859562 tw15074668837420701368 tw14822105488955833594 tw14755063268046852586 tw13808186401290052578 tw13304890737199810499 tw12874517915480187185 tw12666879742052968924 tw12172144382812144111 tw1183050789457860967 tw11408910063724357501 tw1084147881588607151 tw10841362947667884340 tw10761505934481713939 tw10492025390190230601 tw10194722237499382565 tw1019257698362002166 tw9392463437398009626 tw11537167667695441228 tw89353279861417846 tw3870413288683067748 tw15267482980280267368 tw9485381225883398328 tw7176582159139339602 tw6470779736927336715 tw4990955355328551076 tw3210899704744859980 tw17218711751014735325 tw16326036859348592670 tw14399094104244103781 tw13137193504263445171 tw12509254261625531590 tw8697878746150608346 tw12176265116170492120 tw11511687718428756269 tw1274978719205683808 tw274329037439413697 tw15910040593264590259 tw13600952780129561421 tw15068217953968086263 tw13206979137586707904 tw9196391109903704627 tw9175733308526922187 tw8568976654988148554 tw8181139166231142855 tw5332036864618640948 tw17334363985770147995 tw16710163245157824210 tw16334036266317117379 tw632421677738089762 tw13221379773390854950 tw6389233994726923566:True)
open PySem PySem.W PyProof.Rows
set_option maxRecDepth 100000 in
set_option maxHeartbeats 0 in
theorem PySem.Challenge.cw_sunstore_k50_whole_best_and_borne_out_holds : PySem.Challenge.rw_sunstore_k50_whole_best_and_borne_out.Holds := by
 w_on;o_law;k_head;(case hw=>w_witness2)
 k_fill
 refine Law.walk (l:=PySem.Challenge.rw_sunstore_k50_whole_best_and_borne_out) Law.UW rfl rfl (λw h Y=>PySem.W.kIn_of Y) ?F
 case F=>
  intro w mg fa h KX G hmg;exact Law.all_mk KX G hmg (by k_is) (by walk_at "p") ⟨⟨by k_is,by k_is⟩,by k_is,by k_is⟩ (by k_is) (by k_is) (by walk_at "a") (by walk_at "a") (by walk_at "e")
