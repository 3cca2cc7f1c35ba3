import PyProof.Rows.All
import Wide.All
import OpenK.AllK
import Wide.FinOn
import Lean
import PyProof.EqAt
import PyProof.EqKinds
import PyProof.TupleCall
import PyProof.FactsAll.zip_0
import PyProof.FactsAll.zip_1
import KE.KDictOf
import PySem.Challenge.RW_sunstore_k51_best_costs_hang_on_the_hous
set_option compiler.extract_closed false
set_option linter.all false
theorem d3{p:Prop}(h:p:=by rfl):p:=h
theorem U0{p:Prop}(h:p:=by intro _;rfl):p:=h
theorem oB{p:Prop}(h:p:=by intro _ _;rfl):p:=h
theorem dG{p:Prop}(h:p:=by first|exact .inl rfl|exact .inr rfl|assumption):p:=h
theorem a6{p:Prop}(h:p:=by decide):p:=h
theorem b6{p:Prop}(h:p:=by lia):p:=h
theorem i6{p:Prop}(h:p:=by decide +kernel):p:=h
theorem i9{p:Prop}(h:p:=by simp):p:=h
theorem c6{p:Prop}(h:p:=by assumption):p:=h
theorem ag{p:Prop}(h:p:=by omega):p:=h
theorem j1{p:Prop}(h:p:=by simp[*]):p:=h
theorem kn{p:Prop}(h:p:=by contradiction):p:=h
theorem o8{p:Prop}(h:p:=by repeat constructor):p:=h
theorem nE{α:Type u}{x:α}{p:Prop}(h:none=some x):p:=nomatch h
theorem nS{α:Type u}{x:α}{p:Prop}(h:some x=none):p:=nomatch h
theorem nT{p:Prop}(h:false=true):p:=nomatch h
theorem nF{p:Prop}(h:true=false):p:=nomatch h
theorem b5{d c:Type}{o:Option d}{f:d->Option c}{b:c}(h:o.bind f=some b):∃a,o=some a/\f a=some b:=Option.bind_eq_some_iff.1 h
theorem v8{p:Prop}[Decidable p]{d:Type}{o:Option d}{b:d}(h:(if p then o else none)=some b):p/\o=some b:=by
 split at h;exact⟨‹_›,h⟩;exact nE h
set_option Elab.async false
set_option maxRecDepth 100000
set_option tactic.hygienic false
noncomputable section
open PySem renaming PyData->a7,wpAny_bind->c5,Value->a9,Shared->b9,starEach->e8,wpAny_pure->i5,sizeLine->p8,Program->n9,World->k7,wpAny_field->F7,backTo->p5,Around->t6,mainGlobals->L0,FuncData->B4,attributeBase->U3,foldedSetIterable->bO,wpAny_callSpecial?_slot->gI,wpAny_call_entry->dN,compareOp->V7,wpAny_newObj_type->iL,bootBuiltins->cC,wpAny_seqItems->fg,builtinLookup_eq_fast->mV,keywordEach->bL,swapsWith->Q4,mem_of_lookup->jE,wpAny_mono->Z1,binaryOp->Q3,wpAny_Call_Name_kw->jD,wpAny_holding->da,rawInt->G9,IsPair->L8,wpAny_setField_rec->lV,Scope->F8,backToKw->Z0,typeLookup_type->jx,Keyword->T3,wpAny_attempt->gR,cLine->G8,wpAny_of_eq->eQ,wpAny_passesOwn->lM,wpAny_ite_split->lL,wpAny_rule->eO,isSubtype_type->lK,wpAny_isInstance->oZ,standAt->ba,assignEach->gP,cellsFrom->eN,wpAny_specialOf->oU,sizeLine_eq->jt,wpAny_truthy_bool->sF,getMethod->gN,call_meets->js,ZipApart->eM,behindInMarks->oR,plainId_quiet->oQ,sliceBounds->lG,wpAny_typeOf->oP,getItem->eJ,typeLookup->lE,wpAny_setField->sy,wpAny_nextOf_list_item->Ez,NameKind->jq,tupleKind->lD,notedBy->gL,sysModules->oH,wpAny_execs_nil->xD,IsPart->eI,wpAny_updateSeq_pair->Er,codeAny_builtin->xC,BindsTo->jo,isSubtype_stop->xy,pyNext->gK,pushCells->oG,swapsWithSole->xu,swappedStores->xt,wpAny_onRaise->xr,callerA->lB,codeAny_mono->xq,concat_meets->xp,noFill_tuple_add->Ee,wpAny_pyIter_zip->Eb,PassesOwn->se,letOwnedTupleGo->DW,wpAny_updateSeq->DP,wpAny_letGo->xl,valueAt->oF,wpAny_nextOf_list_end->Pa,callType_codes->DI,compEnvC->rZ,compPost->rY,natAbs_fdiv_le->OU,wpAny_pyIter_revIter->OR,entryFor->rX,wpAny_standAt->DG,seq_tuple_add->DE,signature?_of->DC,Within->Dx,seqIndex_neg->Dv,call->Di
open PySem.W renaming Frag->d2,findIn->V8,nsIn->bM,keepIn->eT,emptyDict->jB,instObj->jA,fnOf->eR,mg_of->gS,hasDictIn->sE,plainGet->sC,kitOne->sx,isFn->su,plainGet_of->Ep,lookIn->xB,codeIn->xA,callWith_K->Em,plainOver->Eg,specialIn->Ef,takerIn->DU,makesIn->DT,OpenLaw->DQ,cellsFrom_some->Pg,methodCall_KW->Pc,mroIn->DF,handedIn->Ov,takesIn->Oi
open Option renaming some->U,none->J,bind_some->g8,map_some->oT,map_eq_some_iff->Ey,bind->Dn,getD_none->Ou
open List renaming mem_cons_of_mem->m5,mem_cons_self->m8,getElem?_eq_getElem->y4,length_map->o9,mem_append_right->A3,replicate->o1,map_cons->m6,getElem?_map->C5,mem_append_left->L3,range->p9,size_toArray->M3,getD_eq_getElem?_getD->cE,length_append->U6,length_cons->W2,cons_append->W0,getElem?_append_left->fm,mem_cons->Q1,map_append->V9,append_nil->Z9,nil_append->Z8,getElem?_set_ne->fk,getElem?_append_right->kx,not_mem_nil->dM,set_cons_zero->gH,getElem?_eq_none->ku,zip_cons_cons->iM,length_reverse->kq,map_map->cA,range_succ->gG,getElem?_cons_succ->me,drop_eq_getElem_cons->pz,mem_of_getElem?->lZ,length_nil->gU,mem_append->gT,getElem?_range->lW,length_replicate->pq,lookup->cZ,lookup_cons->lN,getElem?_set_self->sJ,length->gQ,length_take->pd,getElem_mem->oY,ext_getElem->oX,getElem_map->oW,flatMap_append->sI,length_range->sD,filterMap_cons->xT,map_congr_left->xQ,map_nil->oO,zipWith->oN,getElem?_replicate->ED,reverse_cons->xM,getElem?_set->xJ,flatMap_cons->xI,drop_of_length_le->Ex,flatMap_nil->xE,length_singleton->Ew,getElem?_reverse->Es,mem_filterMap->El,set_cons_succ->Ei,getElem_range->Eh,length_drop->Ed,drop_length->Ea,take_length->DZ,getElem_set->DY,nodup_range->DX,getElem?_cons_zero->Pj,of_mem_zip->DR,foldl_cons->DM,take_of_length_le->Pd,getElem?_append->OT,range_eq_range'->OS,mem_of_mem_take->OQ,length_zipWith->OM,mem_replicate->OI,reverse->Du,map_replicate->OH,findIdx?_cons->OF,append_assoc->Oy,getElem_inj->Ow,range'_succ->Oq,length_set->Oh,forIn_cons->Og,nodup_cons->Oe,find?_cons->Od
open Nat renaming le_trans->i0,lt_of_lt_of_le->C1,ne_of_lt->E9,le_add_right->U5,lt_irrefl->S5,le_add_left->cD,le_refl->Z6,ne_of_gt->bX,mul_le_mul_right->lY,lt_of_le_of_lt->lU,lt_of_le_of_ne->lS,zero_le->cY,le_of_lt->eS,le_of_not_lt->lO,le_succ_of_le->ph,le_of_lt_succ->pe,lt_succ_of_lt->sG,le_of_eq->lJ,lt_trans->lI,lt_succ_self->sA,add_comm->oM,zero_add->oK,succ_le_succ->xG,coprime_comm->xF,mul_comm->sr,lt_or_ge->sq,add_le_add->xx,mul_le_mul->xw,add_right_comm->Ek,min_le_right->Ec,not_lt_zero->DN,Coprime->xk,sub_le->xg,sub_succ_lt_self->OW,pow_le_pow_right->OV,add_le_add_right->OP,pow_lt_pow_right->ON,mul_assoc->Dz,lt_of_lt_of_eq->OJ,pow_succ->Dr,add_sub_cancel->OC,lt_trichotomy->Ox,pow_pos->Dl,succ_lt_succ->Ot,mul_mod_left->Oo,mod_eq_of_lt->Om,div_eq_of_lt->Ol,lt_add_right->Oj
open PySem.Heap renaming get?_push_of_some->s9,lt_size->q5,get?_push_size->J4,size_push->fh,get?_update_other->md,get?_update_self->ma,SameBut->jv,ExtBut->xm
open Nat.le renaming refl->o6
open Int renaming fdiv_eq_ediv_of_nonneg->W3,mul_comm->x9,gcd->m3,mul_pos->A5,mul_le_mul_of_nonneg_left->cF,mul_assoc->F0,mul_zero->J3,le_of_lt->N8,zero_add->N7,mul_le_mul_of_nonneg_right->ky,mul_ediv_cancel_left->gJ,le_trans->Q0,mul_nonpos_of_nonneg_of_nonpos->qr,natAbs_mul->aS,one_mul->U2,toNat_natCast->fj,zero_mul->aw,gcd_pos_of_ne_zero_right->qq,le_of_dvd->dJ,mul_nonneg->de,gcd_dvd_right->gX,gcd_dvd_left->gW,lt_or_le->bW,mul_add->bj,natAbs_of_nonneg->lX,fmod_nonneg_of_pos->pw,eq_of_mul_eq_mul_right->sP,gcd_ediv_gcd_ediv_gcd->sM,mul_left_comm->lQ,dvd_trans->jw,le_add_of_nonneg_right->yc,eq_of_mul_eq_mul_left->xZ,le_of_mul_le_mul_left->xY,mul_neg_of_neg_of_pos->xX,dvd_refl->ju,ediv_pos_of_pos_of_dvd->EG,mul_one->lH,ediv_mul_cancel->xR,fmod_lt_of_pos->xP,lt_of_le_of_lt->xO,mul_nonpos_of_nonpos_of_nonneg->PM,le_refl->oI,add_zero->so,sub_zero->sk,mul_le_mul->xv,natCast_nonneg->En,lt_or_eq_of_le->Ej,gcd_comm->xn,mul_fdiv_cancel_left->Pn,dvd_mul_of_dvd_left->Ph,neg_mul->xj,mul_ediv_cancel->OL,gcd_zero_right->OG,add_mul->Dm
open Option.some renaming inj->L1,injEq->Oz
open Bool renaming true->Uf,false->U',false_ne_true->ax,false_eq_true->jC,and_eq_true->pa,eq_iff_iff->oV,false_and->DJ,or_eq_false_iff->OO,not_eq_true'->OB,or_eq_true->Of
open PyProof.Rows renaming callWith_type1->iN,slot_tuple_getitem->yf,IsTup->P1,IntsAre->aZ,envOfC->cX,AllBare->gM,boot_reversed->Py,subscriptTail_builtinR->Pf
open PySem.PyData renaming canLayAll0->bN,eqv->N6,int->P0,canLay0->df,depthAll->oS,list->lF,eqvAll->sv,depth->sj,tuple->sh,strOk->Dp
open PySem.SeqAt renaming shaped->S3,canLay_of_shaped->xU,list_indexAt->Pp
open PySem.NameKind renaming cell->Z7,free->bY
open Rat renaming mul_pos->Z2,intCast_mul->dh,mul_le_mul_of_nonneg_right->EH,le_of_lt->oJ,mul_le_mul_of_nonneg_left->PL,mul_lt_mul_of_pos_right->PH,intCast_neg->DK,mul_nonneg->DH,zero_mul->Dq,sub_eq_add_neg->OE,div_def->Dk
open PySem.Value renaming ref->V3,none->sf,type->xi,int->xf,str->xc,bool->Dj
open PySem.F renaming plainAttrs_list->px,slot_zip_next->jy,slot_tuple_iterator_next->ye,slot_list_index->xV,args_tuple_add_2->EE,entry_tuple_add->EC,args_zip_next_1->xK,slot_tuple_add->EB,entry_zip_next->xH,slot_dict_get->Eu,args_tuple_iterator_next_1->PK,entry_tuple_iterator_next->PJ,args_list_index_2->Pw,plain_extend_loop->Pu,slot_list_append->Pt,type_list_append->Pr,entry_list_index->Pq,args_dict_get_3->Pm,type_list_index->Pk,entry_dict_get->Pe,slot_enumerate_next->OZ,made_reversed->OY
open False renaming elim->bh
open Classical renaming byContradiction->sO,propDecidable->xW
open PySem.Builtin.List renaming listTooLong->sL,listFitsIndex->Pz,listSameRef->Po
open ForInStep renaming yield->jz
open PySem.Obj renaming data_mapFields->pj,mapSeq->gO,isFreed_of_fields->Et,mapFields->DA,cls_mapFields->OA
open PySem.Builtin.Slice renaming slicePlaces->yb,sliceAdjust->Px
open PySem.Builtin.SmallTypes renaming nextOf->ya
open Ne renaming symm->ay
open PySem.Calls renaming spliced_cons->sH,spliced_nil->xN,callWith_builtin->EA,Name_function_global->PD,evalArgs_plain->OX
open Array renaming length_toList->xS,getElem?_eq_getElem->EF,append_assoc->OK
open PySem.Str renaming empty->jr
open Sum renaming inr->eL,inl->lC
open PySem.Heap.SameBut renaming update->Eo
open PySem.Builtin.Tuple renaming tupleItemsOf->PB
open Nat.succ renaming inj->xo
open True renaming intro->xh
open PySem.Around renaming under->Dw
open List.cons renaming injEq->Ob
open PySem.PassesOwn renaming never->Oa
open PyProof.Rows.IsTup renaming new->Dh
theorem x6{a b:Int}(h:autoParam (b<a) c6._auto_1):a≠b:=Int.ne_of_gt h
theorem Y8{a b:Int}(h:autoParam (a<b) c6._auto_1):a<=b:=N8 h
theorem aW{a b:Nat}(h:autoParam (a<b) c6._auto_1):a<b+1:=sG h
theorem aL{a b:Nat}(h:autoParam (a<b) c6._auto_1):a<=b:=eS h
theorem dS{a b c:Nat}(h:autoParam (a<=b) c6._auto_1):a<=c+b:=Nat.le_add_left_of_le h
abbrev b0:=@if_neg
abbrev b3:=@if_pos
abbrev m2:=@congrArg
abbrev U4:=@decide_eq_false
abbrev dg:=@decide_eq_true
abbrev L9:=@if_true
abbrev lR:=@of_decide_eq_true
abbrev bc:=@or_false
open List (mem_range mem_map mem_singleton mem_flatMap)
namespace L2
open PySem PySem.Spec PyProof.Rows
abbrev hz(s:b9):Nat:=s.heap.objs.size
abbrev Key:=Sum Int Str
def tG:Key->a9->Bool
 | .inl k,v=>Value.isInt k v
 | .inr x,v=>Value.isStrOf x v
def a3d(w:k7):Key->Int
 | .inl k=>hashInt k
 | .inr x=>hashStr w x
def S0:∀{k:Key} {v:a9},tG k v=Uf->(∃i t,k=lC i/\v=xf i t)\/(∃x t,k=eL x/\v=xc x t)
 | .inl i,v,h=>by obtain⟨t,e⟩:=Value.isInt_shape h;exact .inl ⟨i,t,rfl,e⟩
 | .inr x,v,h=>by obtain⟨t,e⟩:=Value.isStrOf_shape h;exact .inr ⟨x,t,rfl,e⟩
def MY(i:Int)(t:Tok):tG (.inl i) (.int i t)=Uf:=by simp[tG,Value.isInt]
def MX(x:Str)(t:Tok):tG (.inr x) (.str x t)=Uf:=by simp[tG,Value.isStrOf]
def a0q(a b:Int):decide ((lC a:Key)=lC b)=(a==b):=by
 by_cases e:a=b;subst e;simp;have h:¬(lC a:Key)=lC b:=λq=>e (Sum.inl.inj q);rw[U4 h];exact(beq_eq_false_iff_ne.mpr e).symm
def a0n(a b:Str):decide ((eL a:Key)=eL b)=decide (a=b):=by
 by_cases e:a=b;subst e;simp;have h:¬(eL a:Key)=eL b:=λq=>e (Sum.inr.inj q);rw[U4 h,U4 e]
def a0p(a:Int)(b:Str):decide ((lC a:Key)=eL b)=U':=U4 (λq=>nomatch q)
def a0o(a:Str)(b:Int):decide ((eL a:Key)=lC b)=U':=U4 (λq=>nomatch q)
def T7(prog:n9)(w:k7):PySem.KeyKind prog w Key where
 is:=tG
 hash:=a3d w
 inj:=λv a b ha hb=>by
  rcases S0 ha with ⟨i,t,rfl,rfl⟩|⟨x,t,rfl,rfl⟩
  . rcases S0 hb with ⟨j,u,rfl,e⟩|⟨y,u,rfl,e⟩
    . injection e with e1 _;rw[e1]
    exact nomatch e
  . rcases S0 hb with ⟨j,u,rfl,e⟩|⟨y,u,rfl,e⟩
    exact nomatch e
    . injection e with e1 _;rw[e1]
 byValue:=λk v h=>by rcases S0 h with ⟨i,t,rfl,rfl⟩|⟨x,t,rfl,rfl⟩<;>rfl
 pyHash:=λhv h=>by
  rcases S0 hv with ⟨i,t,rfl,rfl⟩|⟨x,t,rfl,rfl⟩
  exact wpAny_pyHash_int h;exact wpAny_pyHash_str h
 eqBool:=λhu hv h=>by
  rcases S0 hu with ⟨i,t,rfl,rfl⟩|⟨x,t,rfl,rfl⟩
  . rcases S0 hv with ⟨j,u,rfl,rfl⟩|⟨y,u,rfl,rfl⟩
    rw[a0q]at h;exact wpAny_eqBool_int h;rw[a0p]at h;exact SeqAt.EqAt.int_str i t y u _ _ _ _ h
  . rcases S0 hv with ⟨j,u,rfl,rfl⟩|⟨y,u,rfl,rfl⟩
    rw[a0o]at h;exact SeqAt.EqAt.str_int x t j u _ _ _ _ h;rw[a0n]at h;exact wpAny_eqBool_str h
 «strs»:=λk x t v h=>by
  rcases S0 h with ⟨i,u,rfl,e⟩|⟨y,u,rfl,e⟩
  exact nomatch e
  . injection e with e1 _
    subst e1;cases v<;>rfl
def Fm(prog:n9)(w:k7)(i:Int)(t:Tok):(T7 prog w).is (.inl i) (.int i t)=Uf:=MY i t
def Fj(prog:n9)(w:k7)(x:Str)(t:Tok):(T7 prog w).is (.inr x) (.str x t)=Uf:=MX x t
inductive V where
 |non|bl (b:Bool)|int (i:Int)|str (x:Str)|byt (b:Array UInt8)|flt (b:UInt64)|ref (a:Addr)|ty (n:String)
 deriving DecidableEq
def RelV:V->a9->Prop
 | .non,u=>u=sf
 | .bl b,u=>u=Dj b
 | .int i,u=>∃t,u=xf i t
 | .str x,u=>∃t,u=xc x t
 | .byt b,u=>∃t,u=Value.bytes b t
 | .flt b,u=>∃t,u=Value.float b t
 | .ref a,u=>u=V3 a
 | .ty n,u=>u=xi n
abbrev Vals:List V->List a9->Prop:=Paired RelV
theorem Vals.length{xs:List V}{us:List a9}(r:Vals xs us):xs.length=us.length:=Paired.length r
theorem Vals.get:∀{xs:List V} {us:List a9} {i:Nat} {x:V},Vals xs us->xs[i]? = U x->∃u,us[i]? = U u/\RelV x u
 |_,_,_,_,.nil,e=>by simp at e
 |_,_,0,_,.cons r _,e=>by simp at e;subst e;exact⟨_,rfl,r⟩
 |_,_,i+1,x,.cons _ t,e=>by
  obtain⟨u,b,a⟩:=Vals.get t (by simpa using e);exact⟨u,by simpa using b,a⟩
theorem Vals.set{x:V}{u:a9}(r:RelV x u):∀{xs:List V} {us:List a9} (i:Nat),Vals xs us->Vals (xs.set i x) (us.set i u)
 |_,_,_,.nil=>.nil
 |_,_,0,.cons _ t=>.cons r t
 |_,_,i+1,.cons q t=>.cons q (Vals.set r i t)
def Vals.append{xs ys:List V}{us ws:List a9}(h:Vals xs us)(s:Vals ys ws):Vals (xs++ys) (us++ws):=by
 induction h with
 |nil=>exact s
 |cons r t i=>exact .cons r i
theorem Vals.take:∀{xs:List V} {us:List a9} (n:Nat),Vals xs us->Vals (xs.take n) (us.take n)
 |_,_,0,_=>.nil
 |_,_,_+1,.nil=>.nil
 |_,_,n+1,.cons r t=>.cons r (Vals.take n t)
theorem Vals.drop:∀{xs:List V} {us:List a9} (n:Nat),Vals xs us->Vals (xs.drop n) (us.drop n)
 |_,_,0,r=>r
 |_,_,_+1,.nil=>.nil
 |_,_,n+1,.cons _ t=>Vals.drop n t
def ek:Option V->Option a9->Prop
 |some v,U u=>RelV v u
 |none,J=>True
 |_,_=>False
def KV{κ:Type}:List (κ×V)->List (κ×a9)->Prop:=Paired λ(p:κ×V) (q:κ×a9)=>p.1=q.1/\RelV p.2 q.2
noncomputable def kV:Key->V
 | .inl i=>.int i
 | .inr x=>.str x
inductive HO where
 |lst (xs:List V)
 |tup (xs:List V)
 |dK (kvs:List (Key×V))|dT (kvs:List (List Key×V))
 |set (S:Int->Bool) (n:Nat)
 |ins (C dx:Addr) (fs:List (Str×V))
 |own (x:Addr)
 |xd (fs:List (Str×V))
 |met (f x:Addr)
 |rng (lo hi:Int)
 |bU (o:Obj) (u:HO)
 |tbl (ps:Array a9)
 |ext (φ:Heap->Prop)
abbrev Hp:=Addr->Option HO
def upd(H:Hp)(a:Addr)(o:HO):Hp:=λb=>if b=a then U o else H b
def E1{H:Hp}{a:Addr}{o:HO}:upd H a o a=U o:=by delta upd;rw[b3 rfl]
def w9{H:Hp}{a b:Addr}{o:HO}(h:b≠a):upd H a o b=H b:=by delta upd;rw[b0 h]
def R9{H:Hp}{a b:Addr}{o:HO}(h:H a=U o)(h':H b=J):a≠b:=by intro e;subst e;rw[h]at h';exact nS h'
section
variable(P:n9)(w:k7)
def P9(H:Hp)(h:Heap)(a:Addr):HO->Prop
 | .lst xs=>xs.length<=p8/\∃(its:List a9) (n:Nat),Vals xs its/\h.get? a=U {cls:=.type "list",data:=.seq its.toArray n}
 | .tup xs=>xs.length<=p8/\∃its:List a9,Vals xs its/\P1 h a its.toArray
 | .dK kvs=>kvs.length<=p8/\(a==oH)=U'/\∃vs,KV kvs vs/\h.DictOf (T7 P w) a vs
 | .dT kvs=>kvs.length<=p8/\(a==oH)=U'/\∃xs:List (List Key×Addr×a9),
   Paired (λ(p:List Key×V) (q:List Key×Addr×a9)=>p.1=q.1/\H q.2.1=U (.tup (p.1.map kV))/\RelV p.2 q.2.2) kvs xs /\
   ∃o es ep,h.get? a=U o/\o.ExactDict/\o.data=.dict es ep/\es.toList=xs.map (entryOfKey (lD (T7 P w)))/\(xs.map (·.1)).Nodup
 | .set S n=>h.SetOf (intKind P w) a S n
 | .ins C dx fs=>H dx=U (.own a)/\fs.length<=1000/\dx≠a/\h.get? a=U (jA C dx) /\
   ∃mA,h.Ns1 dx mA/\(∀f,ek (fs.lookup f) (mA f))/\Dx mA (fs.map (·.1))
 | .own _=>∃o,h.get? a=U o
 | .xd fs=>∃mA,h.Ns1 a mA/\∀f,ek (fs.lookup f) (mA f)
 | .rng lo hi=>∃t u v,h.get? a=U {cls:=.type "range",data:=.fields #[.int lo t,.int hi u,.int 1 v]}
 | .bU o u=>h.get? a=U o/\P9 H h a u
 | .tbl ps=>h.get? a=U {cls:=.none,data:=.fields ps}
 | .met f x=>h.get? a=U (PySem.W.methodObj (.ref f) (.ref x))
 | .ext φ=>φ h/\(∃o,h.get? a=U o)/\∀h1 h2:Heap,φ h1->(∀o,h1.get? a=U o->h2.get? a=U o)->φ h2
def v5(H:Hp)(h:Heap):Prop:=∀a o,H a=U o->P9 P w H h a o
end
section
variable{P:n9}{w:k7}{H H':Hp}{h h':Heap}{a:Addr}{o:HO}
theorem P9.lt(x:P9 P w H h a o):a<h.objs.size:=by
 cases o with
 |lst c=>obtain⟨_,_,_,_,e⟩:=x;exact q5 e
 |tup c=>obtain⟨_,_,_,p⟩:=x;exact p.lt
 |dK b=>obtain⟨_,_,_,_,o,_,_,e,_⟩:=x;exact q5 e
 |dT b=>obtain⟨_,_,_,_,o,_,_,e,_⟩:=x;exact q5 e
 |set S n=>obtain⟨o,_,_,_,e,_⟩:=x;exact q5 e
 |ins C k fs=>obtain⟨_,_,_,e,_⟩:=x;exact q5 e
 |own y=>obtain⟨_,e⟩:=x;exact q5 e
 |xd fs=>obtain⟨_,⟨_,_,_,e,_⟩,_⟩:=x;exact q5 e
 |rng j d=>obtain⟨_,_,_,e⟩:=x;exact q5 e
 |bU i u=>obtain⟨e,_⟩:=x;exact q5 e
 |tbl g=>exact q5 (show h.get? a=U _ from x)
 |met f y=>exact q5 (show h.get? a=U _ from x)
 |ext φ=>obtain⟨_,⟨_,e⟩,_⟩:=x;exact q5 e
def Paired.a3b{d e:Type}{F G:d->e->Prop}{c:List d}{l:List e}(h:Paired F c l)(f:∀a b,F a b->G a b):Paired G c l:=by
 induction h with
 |nil=>exact .nil
 |cons r t i=>exact .cons (f _ _ r) i
def P9.uK(x:P9 P w H h a o)(k:∀b u,(b=a\/H b=U (.own a))->h.get? b=U u->h'.get? b=U u)(F:∀b,H b=U (.own a)->H' b=U (.own a))(E:∀b xs,H b=U (.tup xs)->H' b=U (.tup xs)):P9 P w H' h' a o:=by
 induction o with
 |lst xs=>obtain⟨z,l,n,r,e⟩:=x;exact⟨z,l,n,r,k _ _ (.inl rfl) e⟩
 |tup xs=>obtain⟨z,l,r,g,e,c⟩:=x;exact⟨z,l,r,g,k _ _ (.inl rfl) e,c⟩
 |dK A=>obtain⟨z,y,G,r,g,i,j,e,c⟩:=x;exact⟨z,y,G,r,g,i,j,k _ _ (.inl rfl) e,c⟩
 |dT A =>
  obtain⟨z,y,xs,r,g,i,j,e,c⟩:=x;exact⟨z,y,xs,Paired.a3b r λp q z=>⟨z.1,E _ _ z.2.1,z.2.2⟩,g,i,j,k _ _ (.inl rfl) e,c⟩
 |set S n=>obtain⟨g,i,j,t,e,c⟩:=x;exact⟨g,i,j,t,k _ _ (.inl rfl) e,c⟩
 |ins C N fs =>
  obtain⟨d,z,ne,e,m,⟨s,i,j,I,c⟩,r⟩:=x;exact⟨F _ d,z,ne,k _ _ (.inl rfl) e,m,⟨s,i,j,k _ _ (.inr d) I,c⟩,r⟩
 |own y=>obtain⟨g,e⟩:=x;exact⟨g,k _ _ (.inl rfl) e⟩
 |xd fs=>obtain⟨m,⟨s,i,j,e,c⟩,r⟩:=x;exact⟨m,⟨s,i,j,k _ _ (.inl rfl) e,c⟩,r⟩
 |rng M K=>obtain⟨t,u,v,e⟩:=x;exact⟨t,u,v,k _ _ (.inl rfl) e⟩
 |bU g u D=>obtain⟨e,q⟩:=x;exact⟨k _ _ (.inl rfl) e,D q⟩
 |tbl L =>
  have e:=x;exact k a _ (.inl rfl) e
 |met f y =>
  have e:=x;exact k a _ (.inl rfl) e
 |ext φ=>obtain⟨p,⟨o,e⟩,B⟩:=x;exact⟨B _ _ p λo q=>k _ _ (.inl rfl) q,⟨o,k _ _ (.inl rfl) e⟩,B⟩
theorem v5.lt(x:v5 P w H h)(e:H a=U o):a<h.objs.size:=(x a o e).lt
def v5.fresh(x:v5 P w H h)(e:h.objs.size<=a):H a=J:=by
 cases q:H a with
 |none=>rfl
 |some u=>exact absurd (C1 (x.lt q) e) (S5 _)
def v5.kept(x:v5 P w H h)(k:∀b u,h.get? b=U u->h'.get? b=U u):v5 P w H h':=λa o e =>
 (x a o e).uK (λb u _ q=>k b u q) (λ_ q=>q) λ_ _ q=>q
def v5.laid(x:v5 P w H h)(k:∀b u,h.get? b=U u->h'.get? b=U u)(g:h.objs.size<=a)(new:P9 P w (upd H a o) h' a o):v5 P w (upd H a o) h':=λb u e=>by
 have d:=x.fresh g;by_cases f:b=a;subst f;rw[E1]at e;cases e;exact new
 . rw[w9 f]at e;exact(x b u e).uK (λc v _ q=>k c v q) (λc q=>by rw[w9 (R9 q d)];exact q) λc i q=>by rw[w9 (R9 q d)];exact q
end
def Rd(H:Hp)(a:Addr)(u:HO):Prop:=H a=U u\/∃o,H a=U (.bU o u)
def Rd.ok{P:n9}{w:k7}{H:Hp}{h:Heap}{a:Addr}{u:HO}(r:Rd H a u)(x:v5 P w H h):P9 P w H h a u:=by
 rcases r with r|⟨o,r⟩
 exact x a u r;obtain⟨_,q⟩:=x a _ r;exact q
def Vn:Option HO->Prop
 |some (.lst _)=>True
 |some (.dK _)=>True
 |some (.dT _)=>True
 |some (.set _ _)=>True
 |some (.ins _ _ _)=>True
 |some (.ext _)=>True
 |_=>False
section
variable{P:n9}{w:k7}{H:Hp}{h h':Heap}{x e:Addr}{o':HO}
def v5.write(ok:v5 P w H h)(mu:Vn (H x))(m:e=x\/H e=U (.own x))(k:∀b u,b≠e->h.get? b=U u->h'.get? b=U u)(l:∃u,h'.get? e=U u)(new:P9 P w (upd H x o') h' x o'):v5 P w (upd H x o') h':=λb u q=>by
 have d:∀c y,H c=U (.own y)->c≠x:=λc y r z=>by subst z;rw[r]at mu;exact mu
 have f:∀c g,H c=U (.tup g)->c≠x:=λc g r z=>by subst z;rw[r]at mu;exact mu
 by_cases j:b=x;subst j;rw[E1]at q;cases q;exact new
 . rw[w9 j]at q;by_cases a:b=e
   . have n:H b=U (.own x):=by
       rcases m with z|z
       exact absurd (a.trans z) j;rw[a];exact z
     rw[q]at n;cases n;obtain⟨v,o⟩:=l;exact⟨v,by rw[a];exact o⟩
   . refine(ok b u q).uK (λc v i r=>k c v ?_ r) (λc r=>by rw[w9 (d c b r)];exact r) λc g r=>by rw[w9 (f c g r)];exact r
     rcases i with rfl|i
     exact a
     . rintro rfl;rcases m with z|z
       exact d c b i z;rw[i]at z;cases z;exact j rfl
end
structure Un(fs ex:List Addr)(H H':Hp)(h h':Heap):Prop where
 keep:∀b o,h.get? b=U o->H b=J->b∉fs->b∉ex->h'.get? b=U o
 slot:∀b o,h.get? b=U o->H b=J->b∈fs->b∉ex->∃sl,h'.get? b=U {o with slots:=sl}
 free:∀b o,h.get? b=U o->H b=J->b∉ex->H' b=J
 there:∀b o,h.get? b=U o->b∉ex->∃o',h'.get? b=U o'
 kO:∀b xs,H b=U (.tup xs)->H' b=U (.tup xs)
 jN:∀b o u,H b=U (.bU o u)->H' b=U (.bU o u)
 kQ:∀b ps,H b=U (.tbl ps)->∃more,H' b=U (.tbl (ps++more))
section
variable{fs fs' ex ex':List Addr}{H H1 H2:Hp}{h h1 h2 h':Heap}{a x e:Addr}{o:HO}
def Un.any(u:Un fs ex H H1 h h1){b:Addr}{ob:Obj}(q:h.get? b=U ob)(n:H b=J)(c:b∉ex):∃d,h1.get? b=U {ob with slots:=d}:=by
 by_cases a:b∈fs;exact u.slot b ob q n a c;exact⟨ob.slots,u.keep b ob q n a c⟩
def Un.trans(a:Un fs ex H H1 h h1)(b:Un fs ex H1 H2 h1 h2):Un fs ex H H2 h h2 where
 keep:=λc e q n i d=>b.keep c e (a.keep c e q n i d) (a.free c e q n d) i d
 slot:=λc e q n i d=>by obtain⟨p,f⟩:=a.slot c e q n i d;obtain⟨j,k⟩:=b.slot c _ f (a.free c e q n d) i d;exact⟨j,k⟩
 free:=λc e q n d=>by obtain⟨l,f⟩:=a.there c e q d;exact b.free c l f (a.free c e q n d) d
 there:=λc e q d=>by obtain⟨l,f⟩:=a.there c e q d;exact b.there c l f d
 kO:=λc g q=>b.kO c g (a.kO c g q)
 jN:=λc e g q=>b.jN c e g (a.jN c e g q)
 kQ:=λc m q=>by obtain⟨m1,f⟩:=a.kQ c m q;obtain⟨o,k⟩:=b.kQ c _ f;exact⟨m1++o,by rw[k,OK]⟩
def Un.kept(k:∀b u,h.get? b=U u->h'.get? b=U u):Un fs ex H H h h' :=
 ⟨λb a q _ _ _=>k b a q,λb a q _ _ _=>⟨a.slots,k b a q⟩,λ_ _ _ n _=>n,λb a q _=>⟨a,k b a q⟩,λ_ _ q=>q,λ_ _ _ q=>q,λ_ c q=>⟨#[],by rw[q];simp⟩⟩
def Un.refl:Un fs ex H H h h:=Un.kept λ_ _ q=>q
def Un.laid(k:∀b u,h.get? b=U u->h'.get? b=U u)(e:h.objs.size<=a)(c:H a=J):Un fs ex H (upd H a o) h h' where
 keep:=λb u q _ _ _=>k b u q
 slot:=λb u q _ _ _=>⟨u.slots,k b u q⟩
 free:=λb u q n _=>by rw[w9 (E9 (C1 (q5 q) e))];exact n
 there:=λb u q _=>⟨u,k b u q⟩
 kO:=λb d q=>by rw[w9 (R9 q c)];exact q
 jN:=λb u d q=>by rw[w9 (R9 q c)];exact q
 kQ:=λb f q=>⟨#[],by rw[w9 (R9 q c),q];simp⟩
def Un.write(mu:Vn (H x))(i:e=x\/H e=U (.own x))(k:∀b u,b≠e->h.get? b=U u->h'.get? b=U u)(d:∃u,h'.get? e=U u):Un fs ex H (upd H x o) h h':=by
 have f:∀b,H b=J->b≠x:=λb n z=>by subst z;rw[n]at mu;exact mu
 have g:∀b,H b=J->b≠e:=λb n z=>by
  subst z;rcases i with r|r
  exact f b n r;rw[n]at r;exact nE r
 have c:∀b u,H b=U u->¬Vn (U u)->b≠x:=λb u q j z=>by subst z;rw[q]at mu;exact j mu
 refine⟨λb u q n _ _=>k b u (g b n) q,λb u q n _ _=>⟨u.slots,k b u (g b n) q⟩,λb u q n _=>by rw[w9 (f b n)];exact n,λb u q _=>?_,
  λb l q=>by rw[w9 (c b _ q λz=>z)];exact q,λb u l q=>by rw[w9 (c b _ q λz=>z)];exact q,λb m q=>⟨#[],by rw[w9 (c b _ q λz=>z),q];simp⟩⟩
 by_cases a:b=e;subst a;exact d;exact⟨u,k b u a q⟩
end
def Ut(h:Heap)(H:Hp):List Addr:=(p9 h.objs.size).filter λa=>(H a).isSome
def rK(h:Heap)(H:Hp):Heap:=PySem.W.hideAll h (Ut h H)
def Nu(h:Heap)(H:Hp):(rK h H).objs.size=h.objs.size:=PySem.W.hideAll_size _ _
def Tg{h:Heap}{H:Hp}{b:Addr}{o:Obj}(e:h.get? b=U o)(n:H b=J):(rK h H).get? b=U o :=
 PySem.W.hideAll_get _ e λa=>by have q:=(List.mem_filter.mp a).2;rw[n]at q;simp at q
def WY{h:Heap}{H:Hp}{b:Addr}{o:Obj}(e:(rK h H).get? b=U o):h.get? b=U o/\H b=J:=by
 have a:=PySem.W.of_hideAll (Ut h H) e;refine⟨a,?_⟩;cases q:H b with
 |none=>rfl
 |some x =>
  have c:b∈Ut h H:=List.mem_filter.mpr ⟨mem_range.mpr (q5 a),by simp[q]⟩;have z:(rK h H).get? b=J:=PySem.W.hideAll_none (Ut h H) c;rw[z]at e;exact nE e
def XJ(g h:Heap)(L:Addr):List (Addr×Obj):=(p9 h.objs.size).filterMap λa=>if a=L\/(g.get? a).isSome=Uf then J else(h.get? a).map λo=>(a,o)
def rest(g h:Heap)(L d:Addr):List (Addr×Obj):=(XJ g h L).filter λp=>decide (p.1≠d)
section
variable{g':Array GenState}{t' j:Nat}{d':Drawn}{ch:List Addr}{A:t6}{E:a9->b9->Prop}{v:V}{u:a9}{Q:Unit->b9->Prop}
structure Mod(K:d2)(mg:Str->Option a9)(base:Heap):Prop where
 HF:K.In base
 glob:base.Ns L0 mg
 blt:∃mb,base.Ns builtinsNs mb/\∀x:Str,x ≠ "__name__"->mb x=cC x
 nolimit:base.NoLimit
structure Cx where
 prog:n9
 w:k7
 K:d2
 mg:Str->Option a9
 base:Heap
 A:t6
 N:List Str
 M6:b9
 i7:Hp
 env:Env
 outer:List Env
 stack:List Env
 ex:List Addr
 fn:Str->Bool
 calm:Bool
 pn:List (Addr×Obj)
 xe:a9->b9->Prop
def mQ(l:List Env):List Addr:=l.filterMap (·.frame)
abbrev Cx.fs(X:Cx):List Addr:=mQ X.outer
def Vk(sc:F8)(x:Str):Prop:=sc.names.lookup x=U .local\/sc.names.lookup x=U .cell\/sc.names.lookup x=U .free
def Loc(sc:F8)(x:Str):Prop:=sc.names.lookup x=U .local\/sc.names.lookup x=U .cell
def Look(env:Env)(h:Heap)(m:Str->Option a9)(x:Str)(u:a9):Prop :=
 (env.kindOf x=U .local/\m x=U u)\/((env.kindOf x=U .cell\/env.kindOf x=U .free)/\∃c,env.cells.lookup x=U c/\h.IsCell c (U u))
structure Cx.Ok(X:Cx):Prop where
 mod:Mod X.K X.mg X.base
 kind:X.env.scope.kind=.function
 glob:X.env.globals=L0
 blt:X.env.builtins=builtinsNs
 above:X.M6.heap.objs.size<=X.env.locals
 inj:∀x y c,X.env.cells.lookup x=U c->X.env.cells.lookup y=U c->x=y
 has:∀x,(X.env.kindOf x=U .cell\/X.env.kindOf x=U .free)->∃c,X.env.cells.lookup x=U c
 Ib:∀x c,X.fn x=Uf->X.env.cells.lookup x=U c->X.M6.heap.objs.size<=c
 hd:X.calm=Uf->X.A.handled=J
 frames:X.A.frames=U X.stack
 KP:X.stack=X.outer\/(X.stack=X.env::X.outer/\X.env.frame=U X.env.locals)
 Vb:∀b∈X.ex,b≠X.env.locals/\∀x c,X.env.cells.lookup x=U c->c≠b
 bs:∀b o,X.base.get? b=U o->X.M6.heap.get? b=U o/\X.i7 b=J
 qF:X.base.objs.size<=X.M6.heap.objs.size
 uW:∀b o,X.base.get? b=U o->b∉X.ex
 yX:∀b∈X.ex,b∉X.fs
 iu:X.M6.heap.FunFrames X.base X.outer
 zM:∀b∈X.fs,X.i7 b=J
structure Inv(X:Cx)(pins:List (Addr×Obj))(σ:List (Option V))(H:Hp)(s:b9):Prop where
 ok:X.Ok
 os:s.os=X.M6.os
 bare:gM s.gens
 base:Un X.fs X.ex X.i7 H X.M6.heap s.heap
 loc:∃m,s.heap.Ns X.env.locals m/\∀(i:Nat) (x:Str) (v:V),X.N[i]? = U x->σ[i]? = U (U v)->Vk X.env.scope x->∃u,RelV v u/\Look X.env s.heap m x u
 cell:∀x c,X.env.cells.lookup x=U c->∃v,s.heap.IsCell c v
 free:H X.env.locals=J
 gB:∀x c,X.env.cells.lookup x=U c->H c=J
 pin:∀p∈X.pn++pins,s.heap.get? p.1=U p.2/\H p.1=J/\p.1≠X.env.locals/\p.1∉X.fs/\∀v,p.2.data≠.cell v
 x5:v5 X.prog X.w H s.heap
 len:σ.length=X.N.length
section
variable{X:Cx}{pins:List (Addr×Obj)}{σ:List (Option V)}{H H':Hp}{s:b9}{h':Heap}
def Cx.Ok.a2Y(ok:X.Ok){b:Addr}{o:Obj}(e:X.base.get? b=U o):b∉X.fs:=λa=>by have:=(ok.iu.mem a).1;rw[e]at this;exact nS this
theorem Inv.bs(I:Inv X pins σ H s):∀b o,X.base.get? b=U o->s.heap.get? b=U o/\H b=J:=λb o e =>
 ⟨I.base.keep b o (I.ok.bs b o e).1 (I.ok.bs b o e).2 (I.ok.a2Y e) (I.ok.uW b o e),I.base.free b o (I.ok.bs b o e).1 (I.ok.bs b o e).2 (I.ok.uW b o e)⟩
def Inv.bk(I:Inv X pins σ H s):∀b o,X.base.get? b=U o->s.heap.get? b=U o:=λb o e=>(I.bs b o e).1
theorem Inv.mod(I:Inv X pins σ H s):Mod X.K X.mg X.base:=I.ok.mod
def Inv.mM(I:Inv X pins σ H s):X.K.In s.heap:=I.ok.mod.HF.keeps I.bk
def Inv.fr(I:Inv X pins σ H s):∃m,Fr X.base X.env.locals s.heap m :=
 let ⟨m,a,_⟩:=I.loc
 ⟨m,a,I.bk,i0 I.ok.qF I.ok.above⟩
theorem Inv.lt(I:Inv X pins σ H s):X.env.locals<(hz s):=let ⟨_,a,_⟩:=I.loc;a.lt
def Inv.sz(I:Inv X pins σ H s):X.M6.heap.objs.size<=(hz s):=i0 I.ok.above (eS I.lt)
def Inv.Sy(I:Inv X pins σ H s){a:Addr}(h:(hz s)<=a):a∉X.fs:=λb=>by obtain⟨_,o,c,_⟩:=I.ok.iu.mem b;exact absurd (C1 (q5 c) (i0 I.sz h)) (S5 _)
def Inv.CS(I:Inv X pins σ H s):∀x c,X.env.cells.lookup x=U c->c≠X.env.locals:=λx c e z=>by obtain⟨v,o,f,d⟩:=I.cell x c e;obtain⟨m,⟨i,g,h,a,b,_⟩,_⟩:=I.loc;rw[z,a]at f;cases f;rw[b]at d;cases d
theorem Inv.iu(I:Inv X pins σ H s):s.heap.FunFrames X.base X.outer:=by
 have all:∀l,(∀b∈mQ l,b∈X.fs)->X.M6.heap.FunFrames X.base l->s.heap.FunFrames X.base l:=by
  intro l;induction l with
  |nil=>intro _ _;trivial
  |cons j r i =>
   intro f n;obtain⟨p,⟨L,o,d,h,k,g⟩,m⟩:=n;have a:=f L (by delta mQ;rw[xT,d];exact m8);obtain⟨q,e⟩:=I.base.slot L o k (I.ok.zM L a) a λz=>I.ok.yX L z a;exact⟨p,⟨L,_,d,h,e,g⟩,i (λb c=>f b (by delta mQ;rw[xT,d];exact m5 _ c)) m⟩
 exact all X.outer (λ_ c=>c) I.ok.iu
theorem Inv.stack(I:Inv X pins σ H s):s.heap.FunFrames X.base X.stack:=by
 rcases I.ok.KP with e|⟨e,a⟩
 rw[e];exact I.iu;rw[e];obtain⟨m,b,_⟩:=I.loc;refine .cons (by rw[I.ok.kind];decide) a b ?_ I.iu;exact Heap.get?_none_of_le (i0 I.ok.qF I.ok.above)
def Inv.qZ(I:Inv X pins σ H s):∀b∈mQ X.stack,b∈X.env.locals::X.fs:=λb a=>by
 rcases I.ok.KP with e|⟨e,c⟩
 rw[e]at a;exact m5 _ a;rw[e]at a;unfold mQ at a;rw[xT,c]at a;exact a
def Inv.GD(I:Inv X pins σ H s):∀b∈mQ X.stack,H b=J:=λb a=>by
 rcases List.mem_cons.mp (I.qZ b a)with e|a
 rw[e];exact I.free;obtain⟨_,o,c,_⟩:=I.ok.iu.mem a;exact I.base.free b o c (I.ok.zM b a) λz=>I.ok.yX b z a
def Inv.step(I:Inv X pins σ H s)(g:∀b∈ch,(b∈X.ex\/X.M6.heap.objs.size<=b)/\b≠X.env.locals/\(∀x c,X.env.cells.lookup x=U c->c≠b)/\∀p∈X.pn++pins,p.1≠b)(keep:∀b o,b≠X.env.locals->b∉X.fs->b∉ch->s.heap.get? b=U o->H b=J->h'.get? b=U o)(slot:∀b o,b≠X.env.locals->b∈X.fs->b∉ch->s.heap.get? b=U o->H b=J->∃L,h'.get? b=U {o with slots:=L})(free:∀b o,b∉ch->s.heap.get? b=U o->H b=J->H' b=J)(there:∀b o,b∉ch->s.heap.get? b=U o->∃D,h'.get? b=U D)(kO:∀b xs,H b=U (.tup xs)->H' b=U (.tup xs))(jN:∀b o u,H b=U (.bU o u)->H' b=U (.bU o u))(kQ:∀b E,H b=U (.tbl E)->∃more,H' b=U (.tbl (E++more)))(ns:∀m,s.heap.Ns X.env.locals m->h'.Ns X.env.locals m)(K:v5 X.prog X.w H' h')(Q:gM g'):
  Inv X pins σ H' {s with heap:=h',gens:=g',drawn:=d',toks:=t'}:=by
 have B:∀b o,X.M6.heap.get? b=U o->b≠X.env.locals:=λb o e=>E9 (C1 (q5 e) I.ok.above)
 have j:∀b o,X.M6.heap.get? b=U o->b∉X.ex->b∉ch:=λb o e a y=>by
  rcases(g b y).1 with z|z
  exact a z;exact absurd (C1 (q5 e) z) (S5 _)
 have h:∀x c,X.env.cells.lookup x=U c->∀v,s.heap.IsCell c v->h'.IsCell c v:=λx c e v ⟨o,A,F⟩=>by
  have f:=λz=>(g c z).2.2.1 x c e rfl;by_cases O:c∈X.fs;obtain⟨L,q⟩:=slot c o (I.CS x c e) O f A (I.gB x c e);exact⟨_,q,F⟩;exact⟨o,keep c o (I.CS x c e) O f A (I.gB x c e),F⟩
 refine⟨I.ok,I.os,Q,⟨λb o e n y a=>?_,λb o e n y a=>?_,λb o e n a=>?_,λb o e a=>?_,λb xs e=>kO b xs (I.base.kO b xs e),λb o xs e=>jN b o xs (I.base.jN b o xs e),λb E e=>?_⟩,?_,λx c e=>?_,?_,λx c e=>?_,λp N=>?_,K,I.len⟩;exact keep b o (B b o e) y (j b o e a) (I.base.keep b o e n y a) (I.base.free b o e n a);obtain⟨L,t⟩:=I.base.slot b o e n y a;obtain⟨G,C⟩:=slot b _ (B b o e) y (j b o e a) t (I.base.free b o e n a);exact⟨G,C⟩;obtain⟨D,t⟩:=I.base.there b o e a;exact free b D (j b o e a) t (I.base.free b o e n a);obtain⟨D,t⟩:=I.base.there b o e a;exact there b D (j b o e a) t;obtain⟨m1,t⟩:=I.base.kQ b E e;obtain⟨T,C⟩:=kQ b _ t;exact⟨m1++T,by rw[C,OK]⟩
 . obtain⟨m,S,P⟩:=I.loc;refine⟨m,ns m S,λi x v t C R=>?_⟩
   obtain⟨u,r,l⟩:=P i x v t C R;refine⟨u,r,?_⟩;rcases l with l|⟨k,c,e,z⟩
   exact .inl l;exact .inr ⟨k,c,e,h x c e _ z⟩
 obtain⟨v,z⟩:=I.cell x c e;exact⟨v,h x c e v z⟩;obtain⟨m,⟨o,_,_,A,_⟩,_⟩:=I.loc;exact free _ o (λz=>(g _ z).2.1 rfl) A I.free;obtain⟨v,o,A,F⟩:=I.cell x c e;exact free c o (λz=>(g c z).2.2.1 x c e rfl) A (I.gB x c e);obtain⟨e,n,ne,M,d⟩:=I.pin p N;have f:=λz=>(g p.1 z).2.2.2 p N rfl;exact⟨keep p.1 p.2 ne M f e n,free p.1 p.2 f e n,ne,M,d⟩
def Inv.un(I:Inv X pins σ H s)(u:Un X.fs [] H H' s.heap h')(c:v5 X.prog X.w H' h'):Inv X pins σ H' {s with heap:=h',toks:=t'}:=by
 obtain⟨m,⟨o,l,t,h,r⟩,_⟩:=id I.loc;obtain⟨p,k⟩:=u.any h I.free i9;exact I.step (ch:=[]) (λ_ z=>nomatch z) (λb o _ g _ e n=>u.keep b o e n g i9) (λb o _ g _ e n=>u.slot b o e n g i9) (λb o _ e n=>u.free b o e n i9) (λb o _ e=>u.there b o e i9) u.kO u.jN u.kQ (λq i=>by obtain⟨v,d,f,a,j⟩:=i;rw[h]at a;cases a;exact⟨_,d,f,k,j⟩) c I.bare
def Inv.call(I:Inv X pins σ H s)(u:Un (mQ X.stack) ch H H' s.heap h')(h:v5 X.prog X.w H' h')(v:gM g')(f:∀b∈ch,(b∈X.ex\/X.M6.heap.objs.size<=b)/\b≠X.env.locals/\(∀x c,X.env.cells.lookup x=U c->c≠b)/\∀p∈X.pn++pins,p.1≠b):
  Inv X pins σ H' {s with heap:=h',gens:=g',drawn:=d',toks:=t'}:=by
 obtain⟨m,⟨o,y,B,k,r⟩,_⟩:=id I.loc;obtain⟨A,g⟩:=u.any k I.free λz=>(f _ z).2.1 rfl;exact I.step f (λb o g l a e n=>u.keep b o e n (λz=>(List.mem_cons.mp (I.qZ b z)).elim g l) a) (λb o _ _ a e n=>u.any e n a) (λb o a e n=>u.free b o e n a) (λb o a e=>u.there b o e a) u.kO u.jN u.kQ (λC q=>by obtain⟨D,j,i,d,t⟩:=q;rw[k]at d;cases d;exact⟨_,j,i,g,t⟩) h v
def Inv.turned{it:Addr}(I:Inv X pins σ H s)(k:∀b o,b≠it->s.heap.get? b=U o->h'.get? b=U o)(g:H it=J)(f:it≠X.env.locals)(y:it∈X.ex\/X.M6.heap.objs.size<=it)(j:∀x c,X.env.cells.lookup x=U c->c≠it)(l:∀p∈X.pn++pins,p.1≠it):Inv X pins σ H {s with heap:=h',toks:=t'}:=by
 have d:∀b u,H b=U u->b≠it:=λb u e z=>by rw[z,g]at e;exact nE e
 refine I.step (ch:=[it]) (λb A=>?_) (λb o _ _ a e _=>k b o (λz=>a (by simp[z])) e) (λb o _ _ a e _=>⟨o.slots,k b o (λz=>a (by simp[z])) e⟩) (λ_ _ _ _ n=>n)
  (λb o a e=>⟨o,k b o (λz=>a (by simp[z])) e⟩) (λ_ _ e=>e) (λ_ _ _ e=>e) (λb B e=>⟨#[],by rw[e];simp⟩) (λm w=>?_) (λb u e=>?_) I.bare
 . have e:b=it:=by simpa using A
   subst e;exact⟨y,f,j,l⟩
 obtain⟨o,h,t,i,r⟩:=w;exact⟨o,h,t,k _ o (ay f) i,r⟩
 . refine(I.x5 b u e).uK (λc v a q=>k c v ?_ q) (λ_ q=>q) λ_ _ q=>q
   rcases a with z|z
   rw[z];exact d b u e;exact d c _ z
def Inv.tok(I:Inv X pins σ H s)(t:Nat):Inv X pins σ H {s with toks:=t}:=I.un Un.refl I.x5
theorem Inv.kept{t':Nat}(I:Inv X pins σ H s)(k:∀b u,s.heap.get? b=U u->h'.get? b=U u):Inv X pins σ H {s with heap:=h',toks:=t'}:=I.un (Un.kept k) (I.x5.kept k)
theorem Inv.laid{a:Addr}{o:HO}{t':Nat}(I:Inv X pins σ H s)(k:∀b u,s.heap.get? b=U u->h'.get? b=U u)(c:(hz s)<=a)(new:P9 X.prog X.w (upd H a o) h' a o):
  Inv X pins σ (upd H a o) {s with heap:=h',toks:=t'}:=I.un (Un.laid k c (I.x5.fresh c)) (I.x5.laid k c new)
theorem Inv.write{x e:Addr}{o:HO}{t':Nat}(I:Inv X pins σ H s)(mu:Vn (H x))(c:e=x\/H e=U (.own x))(k:∀b u,b≠e->s.heap.get? b=U u->h'.get? b=U u)(a:∃u,h'.get? e=U u)(new:P9 X.prog X.w (upd H x o) h' x o):Inv X pins σ (upd H x o) {s with heap:=h',toks:=t'}:=I.un (Un.write mu c k a) (I.x5.write mu c k a new)
def Inv.weak{a:List (Option V)}(I:Inv X pins σ H s)(g:a.length=σ.length)(w:∀(i:Nat) v,a[i]? = U (U v)->σ[i]? = U (U v)):Inv X pins a H s :=
 ⟨I.ok,I.os,I.bare,I.base,let ⟨m,c,b⟩:=I.loc;⟨m,c,λi x v e f d=>b i x v e (w i v f) d⟩,I.cell,I.free,I.gB,I.pin,I.x5,g.trans I.len⟩
def Inv.iq{a:List (Addr×Obj)}(I:Inv X pins σ H s)(h:∀p∈a,s.heap.get? p.1=U p.2/\H p.1=J/\p.1≠X.env.locals/\p.1∉X.fs/\∀v,p.2.data≠.cell v):Inv X a σ H s :=
 ⟨I.ok,I.os,I.bare,I.base,I.loc,I.cell,I.free,I.gB,λp b=>(List.mem_append.mp b).elim (λz=>I.pin p (L3 _ z)) (h p),I.x5,I.len⟩
def BQ{N:List Str}(d:N.Nodup){i:Nat}{x:Str}(a:N[i]? = U x)(b:N[j]? = U x):i=j:=by obtain⟨g,c⟩:=List.getElem?_eq_some_iff.mp a;obtain⟨f,e⟩:=List.getElem?_eq_some_iff.mp b;exact(Ow d).mp (c.trans e.symm)
def KN{M:Model}{i:Nat}{x:Str}(I:Inv X pins σ H s)(hN:X.N.Nodup)(hi:X.N[i]? = U x)(hx:Loc X.env.scope x)(r:RelV v u)(h:∀s',Inv X pins (σ.set i (U v)) H s'->(∃a,jv a s.heap s'.heap/\(a=X.env.locals\/X.env.cells.lookup x=U a))->Q () s')(hf:autoParam (X.fn x=Uf\/X.env.scope.names.lookup x=U .local) dG._auto_1):wpAny M A (storeName X.env x u) Q E s:=by
 obtain⟨m,hn,hl⟩:=id I.loc;have hcls:(X.env.scope.kind==.class||(X.env.scope.kind==.module&&X.env.locals != X.env.globals))=U':=by rw[I.ok.kind];rfl
 have hiσ:i<σ.length:=by rw[I.len];exact(List.getElem?_eq_some_iff.mp hi).1
 have CS:=I.CS;have tracked:∀{a:Addr} {h':Heap},(∃o,s.heap.get? a=U o/\H a=J)->jv a s.heap h'->v5 X.prog X.w H h':=λ{a h'} ha hs b ob e=>by
  obtain⟨_,_,hfree⟩:=ha;refine(I.x5 b ob e).uK (λc w' hc q=>(hs.2 c ?_).trans q) (λ_ q=>q) λ_ _ q=>q
  rintro rfl;rcases hc with rfl|hc
  rw[hfree]at e;exact nE e;rw[hfree]at hc;exact nE hc
 rcases hx with hk|hk
 . refine wpAny_storeName_local hk hn (λh' hn' hs=>?_) hcls;obtain⟨oL,_,_,hoL,_⟩:=id hn;refine h _ ⟨I.ok,I.os,I.bare,⟨λb o e n hb hx=>?_,λb o e n hb hx=>?_,I.base.free,λb o e hx=>?_,I.base.kO,I.base.jN,I.base.kQ⟩,⟨_,hn',λj y v' e1 e2 e3=>?_⟩,λy c e=>?_,I.free,I.gB,λp hp=>?_,tracked ⟨oL,hoL,I.free⟩ hs,by simpa using I.len⟩ ⟨_,hs,.inl rfl⟩;exact(hs.2 b (E9 (C1 (q5 e) I.ok.above))).trans (I.base.keep b o e n hb hx);obtain⟨sl,e1⟩:=I.base.slot b o e n hb hx;exact⟨sl,(hs.2 b (E9 (C1 (q5 e) I.ok.above))).trans e1⟩;obtain⟨o',e1⟩:=I.base.there b o e hx;exact⟨o',(hs.2 b (E9 (C1 (q5 e) I.ok.above))).trans e1⟩
   . by_cases hj:j=i;subst hj;rw[hi]at e1;cases e1;rw[sJ hiσ]at e2;cases e2;exact⟨u,r,.inl ⟨hk,by simp⟩⟩
     . rw[fk (ay hj)]at e2;obtain⟨u',r',q⟩:=hl j y v' e1 e2 e3;refine⟨u',r',?_⟩;rcases q with ⟨k,e⟩|⟨k,c,e,z⟩
       refine .inl ⟨k,?_⟩;have:y≠x:=λe=>hj (BQ hN e1 (e▸hi));simp[this,e];exact .inr ⟨k,c,e,z.sameBut hs (CS y c e)⟩
   obtain⟨w',z⟩:=I.cell y c e;exact⟨w',z.sameBut hs (CS y c e)⟩;obtain⟨e,n,ne,nf,d⟩:=I.pin p hp;exact⟨(hs.2 p.1 ne).trans e,n,ne,nf,d⟩
 . have hfn:X.fn x=Uf:=by
     rcases hf with z|z
     exact z;rw[z]at hk;cases hk
   obtain⟨c,hc⟩:=I.ok.has x (.inl hk);obtain⟨w',z⟩:=I.cell x c hc;refine wpAny_storeName_cell I.ok.kind hk hc z (λh' hc' hs=>?_);obtain⟨oc,hoc,hocd⟩:=id z;refine h {s with heap:=h'} ⟨I.ok,I.os,I.bare,⟨λb o e n hb hx=>?_,λb o e n hb hx=>?_,I.base.free,λb o e hx=>?_,I.base.kO,I.base.jN,I.base.kQ⟩,⟨m,hn.sameBut hs (ay (CS x c hc)),λj y v' e1 e2 e3=>?_⟩,λy c' e=>?_,I.free,I.gB,λp hp=>?_,tracked ⟨oc,hoc,I.gB x c hc⟩ hs,by simpa using I.len⟩ ⟨c,hs,.inr hc⟩;exact(hs.2 b (E9 (C1 (q5 e) (I.ok.Ib x c hfn hc)))).trans (I.base.keep b o e n hb hx);obtain⟨sl,e1⟩:=I.base.slot b o e n hb hx;exact⟨sl,(hs.2 b (E9 (C1 (q5 e) (I.ok.Ib x c hfn hc)))).trans e1⟩;obtain⟨o',e1⟩:=I.base.there b o e hx;exact⟨o',(hs.2 b (E9 (C1 (q5 e) (I.ok.Ib x c hfn hc)))).trans e1⟩
   . by_cases hj:j=i;subst hj;rw[hi]at e1;cases e1;rw[sJ hiσ]at e2;cases e2;exact⟨u,r,.inr ⟨.inl hk,c,hc,hc'⟩⟩
     . rw[fk (ay hj)]at e2;obtain⟨u',r',q⟩:=hl j y v' e1 e2 e3;refine⟨u',r',?_⟩;rcases q with q|⟨k,c',e,z'⟩
       exact .inl q;refine .inr ⟨k,c',e,z'.sameBut hs ?_⟩;rintro rfl;exact hj (BQ hN e1 (I.ok.inj _ _ _ e hc▸hi))
   by_cases hcc:c'=c;subst hcc;exact⟨_,hc'⟩;obtain⟨w2,z2⟩:=I.cell y c' e;exact⟨w2,z2.sameBut hs hcc⟩;obtain⟨e,n,ne,nf,d⟩:=I.pin p hp;refine⟨(hs.2 p.1 ?_).trans e,n,ne,nf,d⟩;intro q;rw[q,hoc]at e;exact d w' (by rw[<-(L1 e)];exact hocd)
def Bk{M:Model}{i:Nat}{x:Str}(I:Inv X pins σ H s)(c:X.N.Nodup)(a:X.N[i]? = U x)(b:Loc X.env.scope x)(r:RelV v u)(h:∀s',Inv X pins (σ.set i (U v)) H s'->Q () s')(e:autoParam (X.fn x=Uf\/X.env.scope.names.lookup x=U .local) dG._auto_1):wpAny M A (storeName X.env x u) Q E s :=
 KN I c a b r (λs' d _=>h s' d) e
def Inv.a1Y{s':b9}(I:Inv X pins σ H s)(f:s'.os=s.os)(u:Un (mQ X.stack) ch H H' s.heap s'.heap)(d:v5 X.prog X.w H' s'.heap)(e:gM s'.gens)(a:∀b∈ch,(b∈X.ex\/X.M6.heap.objs.size<=b)/\b≠X.env.locals/\(∀x c,X.env.cells.lookup x=U c->c≠b)/\∀p∈X.pn++pins,p.1≠b):Inv X pins σ H' s':=by obtain⟨j,h,i,g,k⟩:=s';subst f;exact I.call u d e a
end
abbrev XK:=a9->Option Addr->Hp->Prop
abbrev St:=List (Option V)
abbrev VK:=V->Hp->Prop
abbrev TE:=St->Hp->VK->Prop
abbrev TT:=St->Hp->(Bool->Hp->Prop)->Prop
abbrev TA:=St->Hp->(List V->Hp->Prop)->Prop
structure Ends where
 nx:St->Hp->Prop
 rt:VK
 bk:St->Hp->Prop:=λ_ _=>False
 ct:St->Hp->Prop:=λ_ _=>False
abbrev TS:=Ends->St->Hp->Prop
def EP(X:Cx)(pins:List (Addr×Obj))(σ:St)(Q:VK)(u:a9)(s':b9):Prop:=∃v H',Inv X pins σ H' s'/\RelV v u/\Q v H'
def TP(X:Cx)(pins:List (Addr×Obj))(σ:St)(Q:Bool->Hp->Prop)(b:Bool)(s':b9):Prop:=∃H',Inv X pins σ H' s'/\Q b H'
def AP(X:Cx)(pins:List (Addr×Obj))(σ:St)(Q:List V->Hp->Prop)(us:List a9)(s':b9):Prop:=∃vs H',Inv X pins σ H' s'/\Vals vs us/\Q vs H'
def SP(X:Cx)(pins:List (Addr×Obj))(D:Ends)(f:Flow)(s':b9):Prop :=
 match f with
 | .next=>∃σ' H',Inv X pins σ' H' s'/\D.nx σ' H'
 | .brk=>∃σ' H',Inv X pins σ' H' s'/\D.bk σ' H'
 | .cont=>∃σ' H',Inv X pins σ' H' s'/\D.ct σ' H'
 | .ret u=>∃v σ' H',Inv X pins σ' H' s'/\RelV v u/\D.rt v H'
def PE(X:Cx)(e:Expr)(t:TE):Prop :=
 ∀(pins:List (Addr×Obj)) (s:b9) (σ:St) (H:Hp) (Q:VK),Inv X pins σ H s->t σ H Q->wpAny (model X.prog X.w) X.A (eval e X.env) (EP X pins σ Q) X.xe s
def PT(X:Cx)(e:Expr)(t:TT):Prop :=
 ∀(pins:List (Addr×Obj)) (s:b9) (σ:St) (H:Hp) (Q:Bool->Hp->Prop),Inv X pins σ H s->t σ H Q->wpAny (model X.prog X.w) X.A (isTrue e X.env (eval e X.env)) (TP X pins σ Q) X.xe s
def PW(X:Cx)(e:Expr)(t:TT):Prop :=
 ∀(whole:Sem a9) (pins:List (Addr×Obj)) (s:b9) (σ:St) (H:Hp) (Q:Bool->Hp->Prop),Inv X pins σ H s->t σ H Q->wpAny (model X.prog X.w) X.A (isTrue e X.env whole) (TP X pins σ Q) X.xe s
def PW.pt{X:Cx}{e:Expr}{t:TT}(h:PW X e t):PT X e t:=h _
def PA(X:Cx)(es:List Expr)(t:TA):Prop :=
 ∀(pos:Pos) (pins:List (Addr×Obj)) (s:b9) (σ:St) (H:Hp) (Q:List V->Hp->Prop),Inv X pins σ H s->t σ H Q->wpAny (model X.prog X.w) X.A (spliced (p5 pos (e8 es X.env))) (AP X pins σ Q) X.xe s
def PS(X:Cx)(st:Stmt)(t:TS):Prop :=
 ∀(pins:List (Addr×Obj)) (s:b9) (σ:St) (H:Hp) (D:Ends),Inv X pins σ H s->t D σ H->wpAny (model X.prog X.w) X.A (exec st X.env) (SP X pins D) X.xe s
def mU(X:Cx)(st:List Stmt)(t:TS):Prop :=
 ∀(pins:List (Addr×Obj)) (s:b9) (σ:St) (H:Hp) (D:Ends),Inv X pins σ H s->t D σ H->wpAny (model X.prog X.w) X.A (execs st X.env) (SP X pins D) X.xe s
def t9{b:Type}{t:Sem b}{Q c:b->b9->Prop}{M:Model}{s:b9}(h:wpAny M A t Q E s)(d:∀a s,Q a s->c a s):wpAny M A t c E s:=Z1 h d λ_ _ x=>x
end
section
variable{E Q:a9->b9->Prop}{pins:List (Addr×Obj)}{H:Hp}{u:a9}
section
variable{X:Cx}
def C7(i:Nat):TE:=λσ H Q=>∃v,σ[i]? = U (U v)/\Q v H
def tC(v:V):TE:=λ_ H Q=>Q v H
def ZC{i:Nat}{x:Str}{pos:Pos}(p:X.N[i]? = U x)(o:Vk X.env.scope x)(hd:autoParam ((x==("__debug__" : Str))=U') a6._auto_1)(g:autoParam ((x==("__classdict__" : Str))=U') a6._auto_1):PE X (.Name x pos) (C7 i):=by
 intro f s t H Q I h;obtain⟨v,e,h⟩:=h;obtain⟨m,k,q⟩:=I.loc;obtain⟨u,r,l⟩:=q i x v p e o;have d:EP X f t Q u s:=⟨v,H,I,r,h⟩;rcases l with ⟨b,n⟩|⟨b,c,j,a⟩
 exact wpAny_Name (wpAny_loadName_local I.ok.kind b k n d) hd
 . rcases b with b|b
   exact wpAny_Name (wpAny_loadName_cell I.ok.kind b j a d) hd;exact wpAny_Name (wpAny_loadName_free I.ok.kind b j a d g) hd
def ZI{i j pos}:PE X (.Constant (.int i) j pos) (tC (.int i)):=λ_ _ _ H _ I h=>wpAny_Constant_int ⟨.int i,H,I.tok _,⟨_,rfl⟩,h⟩
def a1F{b j pos}:PE X (.Constant (.bool b) j pos) (tC (.bl b)):=λ_ _ _ H _ I h=>Constant_bool ⟨.bl b,H,I,rfl,h⟩
def ZG{j pos}:PE X (.Constant .none j pos) (tC .non):=λ_ _ _ H _ I h=>Constant_none ⟨.non,H,I,rfl,h⟩
def ZD{x j pos}:PE X (.Constant (.str x) j pos) (tC (.str x)):=λ_ _ _ H _ I h=>Calls.Constant_str ⟨.str x,H,I.tok _,⟨_,rfl⟩,h⟩
def Gl(X:Cx)(x:Str):Prop:=X.env.kindOf x=U .globalImplicit
def yE{s:b9}{a:St}{x:Str}{pos:Pos}(I:Inv X pins a H s)(c:Gl X x)(b:X.mg x=U u)(h:Q u s)(hd:autoParam ((x==("__debug__" : Str))=U') a6._auto_1):wpAny (model X.prog X.w) X.A (eval (.Name x pos) X.env) Q E s :=
 PD I.ok.kind c (Calls.loadGlobal_global (by rw[I.ok.glob];exact I.mod.glob.keeps I.bk) b h) hd
def cP{s:b9}{d:St}{x:Str}{pos:Pos}(I:Inv X pins d H s)(f:Gl X x)(a:X.mg x=J)(c:cC x=U u)(h:Q u s)(b:autoParam (x ≠ "__name__") a6._auto_1)(hd:autoParam ((x==("__debug__" : Str))=U') a6._auto_1):wpAny (model X.prog X.w) X.A (eval (.Name x pos) X.env) Q E s:=by obtain⟨i,g,e⟩:=I.mod.blt;exact PD I.ok.kind f (Calls.loadGlobal_builtin (by rw[I.ok.glob];exact I.mod.glob.keeps I.bk) a (by rw[I.ok.blt];exact g.keeps I.bk) ((e x b).trans c) h) hd
def WG{x:Str}{v:V}{pos:Pos}(b:Gl X x)(a:X.mg x=U u)(r:RelV v u)(hd:autoParam ((x==("__debug__" : Str))=U') a6._auto_1):PE X (.Name x pos) (tC v) :=
 λ_ _ _ H _ I h=>yE I b a ⟨v,H,I,r,h⟩ hd
variable{a b:Expr}{ta tb:TE}{pos:Pos}
def PC(X:Cx)(op:CmpOp)(a b:Expr)(t:TE):Prop :=
 ∀(pins:List (Addr×Obj)) (s:b9) (σ:St) (H:Hp) (Q:VK),Inv X pins σ H s->t σ H Q ->
  wpAny (model X.prog X.w) X.A (eval a X.env) (λv s₁=>wpAny (model X.prog X.w) X.A (eval b X.env) (λu s₂=>wpAny (model X.prog X.w) X.A (V7 op v u) (EP X pins σ Q) X.xe s₂) X.xe s₁) X.xe s
def tB(t:TE):TT:=λσ H Q=>t σ H λx H1=>∃c,x=.bl c/\Q c H1
def Zq{e:Expr}{t:TE}(h:PE X e t)(f:autoParam (∀a,isTrue e X.env a=(do let v <- a;ba e.pos;holding [v] (truthy v))) U0._auto_1):PT X e (tB t):=by
 intro b s i H Q I c;refine isTrue_plain (t9 (h b s i H _ I c) λv m ⟨x,j,k,g,l⟩=>?_) (f _);obtain⟨d,rfl,q⟩:=l;cases g;exact sF ⟨j,k,q⟩
variable{tA tB':TT}{rest:List Expr}
def Qw(t u:TT):TT:=λσ H Q=>t σ H λc H1=>if c=Uf then u σ H1 Q else Q U' H1
def Ys(t u:TT):TT:=λσ H Q=>t σ H λc H1=>if c=Uf then Q Uf H1 else u σ H1 Q
def Qu(t:TT):TT:=λσ H Q=>t σ H λc H1=>Q (!c) H1
def pw_and1(f:PT X a tA):PW X (.BoolOp .And [a] pos) tA:=by
 intro wh b s d H Q I h;refine isTrue_and (t9 (f b s d H Q I h) λc g e=>?_)
 cases c with
 |true=>exact isTrue_and_nil e
 |false=>exact e
def pw_or1(f:PT X a tA):PW X (.BoolOp .Or [a] pos) tA:=by
 intro wh b s d H Q I h;refine isTrue_or (t9 (f b s d H Q I h) λc g e=>?_)
 cases c with
 |false=>exact isTrue_or_nil e
 |true=>exact e
def pw_and(l:PT X a tA)(k:PW X (.BoolOp .And (b::rest) pos) tB'):PW X (.BoolOp .And (a::b::rest) pos) (Qw tA tB'):=by
 intro wh d s e H Q I h;refine isTrue_and (t9 (l d s e H _ I h) λc j ⟨f,g,i⟩=>?_)
 cases c with
 |true=>exact k wh d j e f Q g i
 |false=>exact⟨f,g,i⟩
def pw_or(l:PT X a tA)(k:PW X (.BoolOp .Or (b::rest) pos) tB'):PW X (.BoolOp .Or (a::b::rest) pos) (Ys tA tB'):=by
 intro wh d s e H Q I h;refine isTrue_or (t9 (l d s e H _ I h) λc j ⟨f,g,i⟩=>?_)
 cases c with
 |true=>exact⟨f,g,i⟩
 |false=>exact k wh d j e f Q g i
def Zr(f:PT X a tA):PT X (.UnaryOp .Not a pos) (Qu tA):=by exact λb s d H Q I h=>isTrue_not (f b s d H (λc e=>Q (!c) e) I h)
def UC(ta tb:TE):TE:=λσ H Q=>ta σ H λx H1=>∃c,x=.bl c/\if c=Uf then tb σ H1 Q else Q (.bl U') H1
def Yr(ta tb:TE):TE:=λσ H Q=>ta σ H λx H1=>∃c,x=.bl c/\if c=Uf then Q (.bl Uf) H1 else tb σ H1 Q
def Uy(ta:TE):TE:=λσ H Q=>ta σ H λx H1=>∃c,x=.bl c/\Q (.bl (!c)) H1
def ZE{op}{t:TE}(h:PE X a t):PE X (.BoolOp op [a] pos) t:=λb s c H Q I d=>BoolOp_one (h b s c H Q I d)
def ZK(m:PE X a ta)(l:PE X (.BoolOp .And (b::rest) pos) tb):PE X (.BoolOp .And (a::b::rest) pos) (UC ta tb):=by
 intro d s f H Q I h;refine BoolOp_and (t9 (m d s f H _ I h) λv k ⟨x,g,i,j,e⟩=>?_)
 obtain⟨c,rfl,e⟩:=e;cases j;refine sF ?_;cases c with
 |true=>exact l d k f g Q i e
 |false=>exact⟨.bl U',g,i,rfl,e⟩
def a1D(m:PE X a ta)(l:PE X (.BoolOp .Or (b::rest) pos) tb):PE X (.BoolOp .Or (a::b::rest) pos) (Yr ta tb):=by
 intro d s f H Q I h;refine BoolOp_or (t9 (m d s f H _ I h) λv k ⟨x,g,i,j,e⟩=>?_)
 obtain⟨c,rfl,e⟩:=e;cases j;refine sF ?_;cases c with
 |false=>exact l d k f g Q i e
 |true=>exact⟨.bl Uf,g,i,rfl,e⟩
def ZF(j:PE X a ta):PE X (.UnaryOp .Not a pos) (Uy ta):=by
 intro b s f H Q I h;refine UnaryOp_ (t9 (j b s f H _ I h) λv k ⟨x,g,i,e,d⟩=>?_);obtain⟨c,rfl,d⟩:=d;cases e;exact not_of (sF ⟨.bl (!c),g,i,rfl,d⟩)
def tIf(t:TT)(ta tb:TE):TE:=λσ H Q=>t σ H λc H1=>if c=Uf then ta σ H1 Q else tb σ H1 Q
def RU{c:Expr}(l:PT X c tA)(n:PE X a ta)(m:PE X b tb):PE X (.IfExp c a b pos) (tIf tA ta tb):=by
 intro e s f H Q I h;refine wpAny_IfExp (t9 (l e s f H _ I h) λd g ⟨i,j,k⟩=>?_)
 cases d with
 |true=>exact n e g f i Q j k
 |false=>exact m e g f i Q j k
end
end
section
variable{K:d2}{es:List Expr}{P:n9}{Z L:Expr}
def D5(K:d2)(H:Hp)(a:Addr)(xs:List V):Prop :=
 Rd H a (.lst xs) \/
  ∃(o:Obj) (its:Array a9) (n:Nat),K.lookup a=U o/\o.cls=.type "list"/\o.dict=J/\o.data=.seq its n/\its.size<=p8/\Vals xs its.toList
def O0(K:d2)(H:Hp)(a:Addr)(xs:List V):Prop :=
 Rd H a (.tup xs) \/
  ∃(o:Obj) (its:Array a9) (n:Nat),K.lookup a=U o/\o.cls=.type "tuple"/\o.data=.seq its n/\its.size<=p8/\Vals xs its.toList
noncomputable def a3i:a9->Option V
 | .none=>U .non
 | .bool b=>U (.bl b)
 | .int i _=>U (.int i)
 | .str x _=>U (.str x)
 | .bytes b _=>U (.byt b)
 | .float b _=>U (.flt b)
 | .ref a=>U (.ref a)
 | .type n=>U (.ty n)
 |_=>J
def RelV.abs{x:V}{u:a9}(r:RelV x u):a3i u=U x:=by
 cases x with
 |non=>cases r;rfl
 |bl _=>cases r;rfl
 |int _=>obtain⟨t,rfl⟩:=r;rfl
 |str _=>obtain⟨t,rfl⟩:=r;rfl
 |byt _=>obtain⟨t,rfl⟩:=r;rfl
 |flt _=>obtain⟨t,rfl⟩:=r;rfl
 |ref _=>cases r;rfl
 |ty _=>cases r;rfl
def RelV.inj{x y:V}{u:a9}(r:RelV x u)(q:RelV y u):x=y:=L1 (r.abs.symm.trans q.abs)
theorem Vals.inj{xs ys:List V}{us:List a9}(h:Vals xs us):Vals ys us->xs=ys:=by
 induction h generalizing ys with
 |nil=>intro k;cases k;rfl
 |cons r t i=>intro k;cases k with
  |cons q s=>rw[r.inj q,i s]
section
variable{X:Cx}{pins:List (Addr×Obj)}{σ:St}{H:Hp}{s:b9}{a:Addr}{xs ys:List V}
def D5.of(h:H a=U (.lst xs)):D5 K H a xs:=.inl (.inl h)
def O0.of(h:H a=U (.tup xs)):O0 K H a xs:=.inl (.inl h)
def Inv.list(I:Inv X pins σ H s)(h:D5 X.K H a xs):∃b:List a9,Vals xs b/\PlainL s.heap a b.toArray/\xs.length<=p8:=by
 rcases h with h|⟨o,b,n,g,f,c,d,i,r⟩
 obtain⟨z,b,n,r,e⟩:=h.ok I.x5;exact⟨b,r,⟨_,n,e,rfl,rfl,rfl⟩,z⟩;refine⟨b.toList,r,⟨o,n,I.mM a o g,f,c,by simpa using d⟩,?_⟩;have e:=r.length;simp only[xS]at e;simp[*]
def Inv.tuple(I:Inv X pins σ H s)(h:O0 X.K H a xs):∃b:List a9,Vals xs b/\P1 s.heap a b.toArray/\xs.length<=p8:=by
 rcases h with h|⟨o,b,n,f,d,c,g,r⟩
 obtain⟨z,b,r,p⟩:=h.ok I.x5;exact⟨b,r,p,z⟩;refine⟨b.toList,r,⟨o,I.mM a o f,d,n,by simpa using c⟩,?_⟩;have e:=r.length;simp only[xS]at e;simp[*]
def Inv.uX(I:Inv X pins σ H s)(h:D5 X.K H a xs)(h':D5 X.K H a ys):xs=ys:=by
 obtain⟨c,r,⟨o,n,e,_,_,d⟩,_⟩:=I.list h;obtain⟨b,i,⟨k,j,g,_,_,f⟩,_⟩:=I.list h';rw[e]at g;cases g;rw[d]at f;injection f with d1 _
 have:c=b:=by simpa using m2 Array.toList d1
 subst this;exact r.inj i
def Inv.zp(I:Inv X pins σ H s)(h:O0 X.K H a xs)(h':O0 X.K H a ys):xs=ys:=by
 obtain⟨c,r,⟨o,e,_,n,d⟩,_⟩:=I.tuple h;obtain⟨b,i,⟨k,g,_,j,f⟩,_⟩:=I.tuple h';rw[e]at g;cases g;rw[d]at f;injection f with d1 _
 have:c=b:=by simpa using m2 Array.toList d1
 subst this;exact r.inj i
end
abbrev Cx.nc(X:Cx)(E:a9->b9->Prop):Cx:={X with xe:=E}
abbrev Cx.zz(X:Cx):Cx:=X.nc λ_ _=>False
theorem Cx.Ok.nc{X:Cx}(ok:X.Ok)(E:a9->b9->Prop):(X.nc E).Ok :=
 ⟨ok.mod,ok.kind,ok.glob,ok.blt,ok.above,ok.inj,ok.has,ok.Ib,ok.hd,ok.frames,ok.KP,ok.Vb,ok.bs,ok.qF,ok.uW,ok.yX,ok.iu,ok.zM⟩
def Cx.Ok.iZ{X:Cx}{E:a9->b9->Prop}(ok:(X.nc E).Ok):X.Ok :=
 ⟨ok.mod,ok.kind,ok.glob,ok.blt,ok.above,ok.inj,ok.has,ok.Ib,ok.hd,ok.frames,ok.KP,ok.Vb,ok.bs,ok.qF,ok.uW,ok.yX,ok.iu,ok.zM⟩
section
variable{X:Cx}{pins:List (Addr×Obj)}{σ:St}{H:Hp}{s:b9}{E:a9->b9->Prop}
theorem Inv.nc(I:Inv X pins σ H s)(E:a9->b9->Prop):Inv (X.nc E) pins σ H s:=⟨I.ok.nc E,I.os,I.bare,I.base,I.loc,I.cell,I.free,I.gB,I.pin,I.x5,I.len⟩
theorem Inv.iZ(I:Inv (X.nc E) pins σ H s):Inv X pins σ H s:=⟨I.ok.iZ,I.os,I.bare,I.base,I.loc,I.cell,I.free,I.gB,I.pin,I.x5,I.len⟩
theorem SP.iZ{D:Ends}{f:Flow}{s':b9}(h:SP (X.nc E) pins D f s'):SP X pins D f s':=by
 cases f with
 |next=>obtain⟨a,b,I,q⟩:=h;exact⟨a,b,I.iZ,q⟩
 |brk=>obtain⟨a,b,I,q⟩:=h;exact⟨a,b,I.iZ,q⟩
 |cont=>obtain⟨a,b,I,q⟩:=h;exact⟨a,b,I.iZ,q⟩
 |ret u=>obtain⟨v,a,b,I,r,q⟩:=h;exact⟨v,a,b,I.iZ,r,q⟩
theorem mU.zz{b:List Stmt}{t:TS}(h:mU X.zz b t):mU X b t:=λa s c H D I d =>
 Z1 (h a s c H D (I.nc _) d) (λ_ _ q=>q.iZ) λ_ _ z=>bh z
end
section
variable{X:Cx}{st:Stmt}{rest:List Stmt}{t u:TS}{e:Expr}{te:TE}{pos:Pos}
def Uz:TS:=λD σ H=>D.nx σ H
def Yq(t u:TS):TS:=λD σ H=>t {D with nx:=u D} σ H
def Wu:mU X [] Uz:=λ_ _ a H _ I h=>xD ⟨a,H,I,h⟩
def RB(i:PS X st t)(d:mU X rest u):mU X (st::rest) (Yq t u):=by
 intro a s c H D I h;refine wpAny_execs_cons (t9 (i a s c H {D with nx:=u D} I h) λf g q=>?_)
 cases f with
 |next =>
  obtain⟨b,j,e,q⟩:=q;exact d a g b j D e q
 |ret v=>exact q
 |brk=>exact q
 |cont=>exact q
def Wt(c:PS X st t):mU X [st] t:=by
 intro a s b H D I h;refine wpAny_execs_cons (t9 (c a s b H D I h) λf d q=>?_)
 cases f with
 |next=>exact xD q
 |ret v=>exact q
 |brk=>exact q
 |cont=>exact q
def Inv.quiet{pins:List (Addr×Obj)}{a:St}{H:Hp}{s:b9}(I:Inv X pins a H s):interactive X.env=U':=by simp[interactive,I.ok.kind]
def sX(te:TE):TS:=λD σ H=>te σ H λ_ H1=>D.nx σ H1
def nU(c:PE X e te)(hs:autoParam (Q4 e J pos.line X.env=pure U') d3._auto_1):PS X (.Expr e pos) (sX te):=by exact λa s b H D I h=>wpAny_Expr_any (t9 (c a s b H _ I h) λv j ⟨x,d,f,i,g⟩=>⟨b,d,f,g⟩) I.quiet hs
def Qt(te:TE):TS:=λD σ H=>te σ H D.rt
def LB(f:PE X e te):PS X (.Return (U e) pos) (Qt te):=by exact λa s b H D I h=>wpAny_Return_some (t9 (f a s b H _ I h) λv j ⟨x,c,d,i,g⟩=>⟨x,b,c,d,i,g⟩)
def Uw:TS:=λD _ H=>D.rt .non H
def Wv:PS X (.Return J pos) Uw:=λ_ _ a H _ I h=>wpAny_Return_none ⟨.non,a,H,I,rfl,h⟩
def Yu(c:TT)(t u:TS):TS:=λD σ H=>c σ H λb H1=>if b=Uf then t D σ H1 else u D σ H1
def a1B{c:Expr}{a b:List Stmt}{l:TT}(m:PT X c l)(o:mU X a t)(n:mU X b u):PS X (.If c a b pos) (Yu l t u):=by
 intro e s f H D I h;refine wpAny_If (t9 (m e s f H _ I h) λd g ⟨i,j,k⟩=>?_)
 cases d with
 |true=>exact o e g f i D j k
 |false=>exact n e g f i D j k
def KH:TS:=λ_ _ _=>False
def RD:PS X st KH:=λ_ _ _ _ _ _ h=>h.elim
end
abbrev TG:=V->St->Hp->(St->Hp->Prop)->Prop
abbrev oE:=List V->St->Hp->(St->Hp->Prop)->Prop
def PG(X:Cx)(target:Expr)(t:TG):Prop :=
 ∀(pins:List (Addr×Obj)) (s:b9) (σ:St) (H:Hp) (v:V) (u:a9) (Q:St->Hp->Prop),Inv X pins σ H s->RelV v u->t v σ H Q ->
  wpAny (model X.prog X.w) X.A (assign target X.env u) (λ_ s'=>∃σ' H',Inv X pins σ' H' s'/\Q σ' H') X.xe s
def NY(X:Cx)(ts:List Expr)(t:oE):Prop :=
 ∀(pins:List (Addr×Obj)) (s:b9) (σ:St) (H:Hp) (vs:List V) (us:List a9) (Q:St->Hp->Prop),Inv X pins σ H s->Vals vs us->t vs σ H Q ->
  wpAny (model X.prog X.w) X.A (assignInOrder ((gP ts X.env).map (·.2)) us) (λ_ s'=>∃σ' H',Inv X pins σ' H' s'/\Q σ' H') X.xe s
abbrev Uc:=V->V->V->Hp->(Hp->Prop)->Prop
def a0X(X:Cx)(t:Uc):Prop :=
 ∀(pins:List (Addr×Obj)) (s:b9) (σ:St) (H:Hp) (o i v:V) (ov iv u:a9) (Q:Hp->Prop),Inv X pins σ H s->RelV o ov->RelV i iv->RelV v u->t o i v H Q ->
  wpAny (model X.prog X.w) X.A (setItem ov iv u) (λ_ s'=>∃H',Inv X pins σ H' s'/\Q H') X.xe s
section
variable{X:Cx}{pos:Pos}
def V5(i:Nat):TG:=λv σ H Q=>Q (σ.set i (U v)) H
def GZ{i:Nat}{x:Str}(d:X.N.Nodup)(b:X.N[i]? = U x)(c:Loc X.env.scope x)(f:autoParam (X.fn x=Uf\/X.env.scope.names.lookup x=U .local) dG._auto_1):PG X (.Name x pos) (V5 i):=by exact λa s g H v u Q I r h=>wpAny_assign_Name (Bk I d b c r (λj e=>⟨_,H,e,h⟩) f)
def JK:oE:=λvs σ H Q=>vs=[]/\Q σ H
def tN(t:TG)(u:oE):oE:=λvs σ H Q=>∃v r,vs=v::r/\t v σ H λσ' H'=>u r σ' H' Q
def WD:NY X [] JK:=by intro a s b H d c Q I r h;obtain⟨e,h⟩:=h;subst e;cases r;exact assignInOrder_nil ⟨b,H,I,h⟩
def RQ{e:Expr}{t:TG}{u:oE}(i:PG X e t)(d:NY X es u)(hs:autoParam ((gP (e::es) X.env).map (·.2)=assign e X.env::(gP es X.env).map (·.2)) d3._auto_1):NY X (e::es) (tN t u):=by
 intro a s f H o p Q I r h;obtain⟨v,n,j,h⟩:=h;subst j;cases r with
 |cons r c =>
  rw[hs];refine assignInOrder_cons (t9 (i a s f H _ _ _ I r h) λ_ g ⟨b,k,l,m⟩=>?_);exact d a g b k _ _ Q l c m
def Co(K:d2)(n:Nat)(t:oE):TG:=λv σ H Q=>∃a xs,v=.ref a/\O0 K H a xs/\xs.length=n/\t xs σ H Q
def Zz{k:Nat}{t:oE}{n:Nat}(z:X.calm=Uf)(h:NY X es t)(j:autoParam ((gP es X.env).length=n) d3._auto_1)(d:autoParam ((gP es X.env).findIdx? (·.1)=J) d3._auto_1):PG X (.Tuple es k pos) (Co X.K n t):=by
 intro c s g H v u Q I r f;obtain⟨a,x,y,hq,p,f⟩:=f;subst y;cases r;obtain⟨A,i,l,B⟩:=I.tuple hq;refine assign_Tuple_tuple (I.ok.hd z) l (by simp[j,<-p,i.length]) d λw m=>?_;have q:Inv X c g H {s with heap:=w}:=I.kept λb o e=>m b o (E9 (q5 e)) e;exact h c _ g H x _ Q q (by simpa using i) f
def JJ(to ti:TE)(t:Uc):TG:=λv σ H Q=>to σ H λo H1=>ti σ H1 λi H2=>t o i v H2 λH3=>Q σ H3
def BH {o i:Expr} {e f:TE} {t:Uc} (j:PE X o e) (g:PE X i f) (hs:a0X X t) (F:autoParam (∀v,assign (.Subscript o i pos) X.env v=(do
   let b <- holding [v] (eval o X.env)
   let c <- holding [v,b] (eval i X.env)
   ba pos
   holding [v,b,c] (setItem b c v)
   release [v,b,c] [])) U0._auto_1):PG X (.Subscript o i pos) (JJ e f t):=by
 intro a s d H v u Q I r h;refine c5 (da (t9 (j a s d H _ I h) λb m ⟨x,B,n,z,C⟩=>?_));refine c5 (da (t9 (g a m d B _ n C) λc w ⟨y,q,l,p,q2⟩=>?_));refine c5 (DG (c5 (da (t9 (hs a w d q x y v b c u _ l z p r q2) λ_ E ⟨A,D,k⟩=>?_))));exact wpAny_release ⟨d,A,D,k⟩
def gj(te:TE)(g:TG):TS:=λD σ H=>te σ H λx H1=>g x σ H1 D.nx
def BC{b e:Expr}{te:TE}{g:TG}(f:PE X e te)(j:PG X b g)(hs:autoParam (xu [b] e pos.line X.env=pure U') d3._auto_1)(d:autoParam (xt [b] e X.env=pure J) d3._auto_1)(l:autoParam ((gP [b] X.env).map (·.2)=[assign b X.env]) d3._auto_1):PS X (.Assign [b] e pos) (gj te g):=by
 intro a s c H D I h;refine wpAny_Assign_stores (t9 (f a s c H _ I h) λv k ⟨x,m,n,i,o⟩=>?_) hs d;rw[l];exact t9 (j a k c m x v _ n i o) λ_ p q=>q
def LA{i:Nat}{x:Str}{e:Expr}{te:TE}{a:Pos}(g:X.N.Nodup)(c:X.N[i]? = U x)(f:Loc X.env.scope x)(d:PE X e te)(hs:autoParam (Q4 e (U (.Name x a)) pos.line X.env=pure U') d3._auto_1)(n:autoParam (X.fn x=Uf\/X.env.scope.names.lookup x=U .local) dG._auto_1):
  PS X (.Assign [.Name x a] e pos) (gj te (V5 i)):=by
 intro b s l H D I h;refine wpAny_Assign_Name (t9 (d b s l H _ I h) λv r ⟨y,m,o,k,p⟩=>?_) hs;exact Bk o g c f k (λq j=>⟨_,m,j,p⟩) n
end
section
variable{X:Cx}{pos:Pos}
def KG(c:TT)(tb:TS):TS:=λD σ H=>∃W:Nat->St->Hp->Prop,(∃m,W m σ H)/\∀m σ H,W m σ H ->
 c σ H λb H1=>if b=Uf then ∃N:St->Hp->Prop,(∀σ' H',N σ' H'->∃m',m'<m/\W m' σ' H')/\tb {D with nx:=N,ct:=N,bk:=D.nx} σ H1 else D.nx σ H1
def RC{c:Expr}{g:List Stmt}{B:TT}{x:TS}(t:se (model X.prog X.w) X.A X.env X.xe)(P:PT X c B)(Q:mU X g x):PS X (.While c g [] pos) (KG B x):=by
 intro d s E H D I h;obtain⟨W,⟨m0,F⟩,turn⟩:=h;refine wpAny_While (codeAny_whileLoop (λn O=>∃i C,Inv X d i C O/\W n i C) ?_ m0 ⟨E,H,I,F⟩);rintro n G ⟨e,z,K,L⟩;refine lM t (t9 (P d G e z _ K (turn n e z L)) λb M ⟨u,r,q2⟩=>?_)
 cases b with
 |true =>
  obtain⟨N,y,q2⟩:=q2;refine lM t (t9 (Q d M e u _ r q2) λf R k=>?_)
  cases f with
  |next =>
   obtain⟨a,j,q,l⟩:=k;obtain⟨p,o,m⟩:=y a j l;exact⟨p,o,a,j,q,m⟩
  |cont =>
   obtain⟨a,j,q,l⟩:=k;obtain⟨p,o,m⟩:=y a j l;exact⟨p,o,a,j,q,m⟩
  |brk=>exact k
  |ret v=>exact k
 |false =>
  exact xD ⟨e,u,r,q2⟩
end
structure It where
 go:Nat->Hp->Prop
 Um:Nat->Hp->V->Hp->Prop
 stop:Nat->Hp->Prop
def jR(X:Cx)(pins:List (Addr×Obj))(H:Hp)(b:Addr):Prop :=
 H b=J/\b≠X.env.locals/\b∉X.fs/\(b∈X.ex\/X.M6.heap.objs.size<=b)/\(∀x c,X.env.cells.lookup x=U c->c≠b)/\∀p∈X.pn++pins,p.1≠b
def Inv.yU{X:Cx}{pins:List (Addr×Obj)}{d:St}{H H':Hp}{s:b9}{b:Addr}(I:Inv X pins d H s)(a:(hz s)<=b)(f:H' b=J):jR X pins H' b:=by
 refine⟨f,bX (C1 I.lt a),I.Sy a,.inr (i0 I.sz a),λx c e z=>?_,λp g z=>?_⟩;obtain⟨v,q⟩:=I.cell x c e;exact absurd (C1 q.lt (by rw[z];exact a)) (S5 _);exact absurd (C1 (q5 (I.pin p g).1) (by rw[z];exact a)) (S5 _)
structure Turn(P:n9)(w:k7)(K:d2)(tg:Expr)(Jff:It)(fp:List Addr)(it:Addr)(tn:Nat->Heap->Prop):Prop where
 mem:it∈fp
 obj:∀i h,tn i h->∀b∈fp,∃o,h.get? b=U o/\∀v,o.data≠.cell v
 keep:∀i h h',tn i h->(∀b∈fp,∀o,h.get? b=U o->h'.get? b=U o)->tn i h'
 item:∀(X:Cx),X.prog=P->X.w=w->X.K=K->X.calm=Uf->∀(i:Nat) (pins:List (Addr×Obj)) (s:b9) (σ:St) (H:Hp) (E:a9->b9->Prop),Inv X pins σ H s->(∀b∈fp,jR X pins H b)->tn i s.heap->Jff.go i H ->
  wpAny (model P w) X.A (gK (.ref it)) (λr s1=>∃u,r=U u /\
   wpAny (model P w) X.A (DW tg (.ref it) u) (λ_ s2=>∃x H',Inv X pins σ H' s2/\RelV x u/\Jff.Um i H x H'/\tn (i+1) s2.heap/\∀b∈fp,H' b=J) E s1) E s
 done:∀(X:Cx),X.prog=P->X.w=w->X.K=K->X.calm=Uf->∀(i:Nat) (pins:List (Addr×Obj)) (s:b9) (σ:St) (H:Hp) (E:a9->b9->Prop),Inv X pins σ H s->(∀b∈fp,jR X pins H b)->tn i s.heap->Jff.stop i H ->
  wpAny (model P w) X.A (gK (.ref it)) (λr s1=>r=J/\Inv X pins σ H s1) E s
 self:∀(A:t6) (i:Nat) (s:b9) (Q:a9->b9->Prop) (E:a9->b9->Prop),tn i s.heap->Q (.ref it) s->wpAny (model P w) A (pyIter (.ref it)) Q E s
abbrev TI:=St->Hp->(It->Hp->Prop)->Prop
def PIE(X:Cx)(pins:List (Addr×Obj))(σ:St)(tg:Expr)(R:It->Hp->Prop)(itv:a9)(s2:b9):Prop :=
 ∃(it:Addr) (fp:List Addr) (tn:Nat->Heap->Prop) (Jff:It) (H':Hp),itv=.ref it/\Inv X pins σ H' s2/\Turn X.prog X.w X.K tg Jff fp it tn/\tn 0 s2.heap/\(∀b∈fp,jR X pins H' b)/\R Jff H'
def PI(X:Cx)(tg iter:Expr)(wi:TI):Prop :=
 ∀(pins:List (Addr×Obj)) (s:b9) (σ:St) (H:Hp) (R:It->Hp->Prop),Inv X pins σ H s->wi σ H R ->
  wpAny (model X.prog X.w) X.A (eval iter X.env) (λv s1=>wpAny (model X.prog X.w) X.A (pyIter v) (PIE X pins σ tg R) X.xe s1) X.xe s
def AM{M:Model}{A:t6}{E:a9->b9->Prop}{s:b9}{b:Expr}{it:Addr}{u:a9}{o:Obj}{n:String}{vs:Array a9}{Q:Unit->b9->Prop}(d:s.heap.get? it=U o)(e:o.cls=.type n)(hd:o.data=.fields vs)(c:["enumerate","zip","dict_itemiterator","dict_reverseitemiterator","odict_iterator","itertools.zip_longest","itertools.pairwise"].contains n=U')(a:Q () s):wpAny M A (DW b (.ref it) u) Q E s:=by
 cases b<;>first
  |exact i5 a
  |(cases u<;>first
    |exact i5 a
    | (refine c5 (wpAny_load d ?_)
       rw[e,hd];show wpAny M A (if (["enumerate","zip","dict_itemiterator","dict_reverseitemiterator","odict_iterator","itertools.zip_longest","itertools.pairwise"].contains n&&vs[0]?==U (G9 _))=Uf then _ else _) Q E s;rw[b0 (by intro h;rw[c,DJ]at h;exact nT h)]
       exact i5 a))
def Itl(K:d2)(a:Addr):It :=
 ⟨λi H=>∃xs x,D5 K H a xs/\xs[i]? = U x,λi H x H'=>H'=H/\∀xs,D5 K H a xs->xs[i]? = U x,λi H=>∃xs,D5 K H a xs/\xs.length<=i⟩
def Itt(K:d2)(a:Addr):It :=
 ⟨λi H=>∃xs x,O0 K H a xs/\xs[i]? = U x,λi H x H'=>H'=H/\∀xs,O0 K H a xs->xs[i]? = U x,λi H=>∃xs,O0 K H a xs/\xs.length<=i⟩
def PQ(lo:Int)(n:Nat):It:=⟨λi _=>i<n,λi H x H'=>H'=H/\x=.int (lo+i),λi _=>n<=i⟩
def Kx{w:k7}(a it:Addr):Turn P w K Z (Itl K a) [it] it (λi h=>h.IsListIter it a i) where
 mem:=o8
 obj:=λi h f b j=>by
  have e:b=it:=by simpa using j
  subst e;obtain⟨o,e,c,d⟩:=f;exact⟨o,e,λv z=>by rw[d]at z;cases z⟩
 keep:=λi h C f k=>f.at λo e=>k it o8 o e
 item:=by
  intro X n B t O i g s N H E I m f G;subst n B t;obtain⟨xs,x,hq,q⟩:=G;obtain⟨L,F,p,Q⟩:=I.list hq;obtain⟨u,Y,T⟩:=F.get q;obtain⟨y,M,f2,D,r,A⟩:=m it o8;refine wpAny_pyNext_list_item f p.isList (by simpa using Y) λC l R=>?_;have S:Inv X g N H {s with heap:=C}:=I.turned (λb o j e=>(R.2 b j).trans e) y M D r A;obtain⟨o,e,c,d⟩:=id l;exact⟨u,rfl,AM e c d a6 ⟨x,H,S,T,⟨rfl,λys hy=>by rw[I.uX hy hq];exact q⟩,l,λb j=>(m b j).1⟩⟩
 done:=by intro X n B t O i g s N H E I m f G;subst n B t;obtain⟨xs,hq,q⟩:=G;obtain⟨L,F,p,Q⟩:=I.list hq;obtain⟨y,M,f2,D,r,A⟩:=m it o8;have:=F.length;exact wpAny_pyNext_list_end (I.ok.hd O) f p.isList (by simp;simp_all) λC V=>⟨rfl,I.turned (λb o j e=>V b o j e) y M D r A⟩
 self:=λ_ _ _ _ _ f h=>wpAny_pyIter_listiter f h
def Ip{w:k7}(a it:Addr):Turn P w K Z (Itt K a) [it] it (λi h=>h.IsTupleIter it a i) where
 mem:=o8
 obj:=λi h f b j=>by
  have e:b=it:=by simpa using j
  subst e;obtain⟨o,e,c,d⟩:=f;exact⟨o,e,λv z=>by rw[d]at z;cases z⟩
 keep:=λi h D f k=>f.at λo e=>k it o8 o e
 item:=by
  intro X q C y O i g s N H E I n f L;subst q C y;obtain⟨xs,x,hq,r⟩:=L;obtain⟨l,G,p,Q⟩:=I.tuple hq;obtain⟨u,Y,T⟩:=G.get r;obtain⟨A,M,f2,F,t,B⟩:=n it o8;refine wpAny_pyNext_tuple_item f (show s.heap.IsTuple a l.toArray from p) (by simpa using Y) λD m R=>?_;have S:Inv X g N H {s with heap:=D}:=I.turned (λb o j e=>(R.2 b j).trans e) A M F t B;obtain⟨o,e,c,d⟩:=id m;exact⟨u,rfl,AM e c d a6 ⟨x,H,S,T,⟨rfl,λys hy=>by rw[I.zp hy hq];exact r⟩,m,λb j=>(n b j).1⟩⟩
 done:=by intro X q C y O i g s N H E I n f L;subst q C y;obtain⟨xs,hq,r⟩:=L;obtain⟨l,G,p,Q⟩:=I.tuple hq;obtain⟨A,M,f2,F,t,B⟩:=n it o8;have:=G.length;exact wpAny_pyNext_tuple_end (I.ok.hd O) f (show s.heap.IsTuple a l.toArray from p) (by simp;simp_all) λD V=>⟨rfl,I.turned (λb o j e=>V b o j e) A M F t B⟩
 self:=λ_ _ _ _ _ f h=>wpAny_pyIter_tupleiter f h
def Iq{w:k7}(it:Addr)(lo:Int)(n:Nat):Turn P w K L (PQ lo n) [it] it (λi h=>IsRangeIter h it (lo+(i:Nat)*1) ((n:Int)-(i:Nat)) 1) where
 mem:=o8
 obj:=λi h a b d=>by
  have e:b=it:=by simpa using d
  subst e;exact⟨_,a,λv z=>by cases z⟩
 keep:=λi h q a k=>k it o8 _ a
 item:=by
  intro X y C A x i c s B H E I g a u;obtain⟨l,p,O,r,j,m⟩:=g it o8;refine(Walks.range (I.ok.hd x) it lo 1 n).item i s _ _ u a λv q D M f N=>?_;obtain⟨t,rfl⟩:=M;have F:Inv X c B H {s with heap:=q,toks:=D}:=I.turned (λb o d e=>N b o (by simpa using d) e) l p r j m;refine⟨_,rfl,AM f rfl rfl a6 ⟨.int (lo+i),H,F,⟨t,?_⟩,⟨rfl,rfl⟩,f,λb d=>(g b d).1⟩⟩;rw[lH]
 done:=by intro X y C A x i c s B H E I g a u;obtain⟨l,p,O,r,j,m⟩:=g it o8;exact wpAny_pyNext_range_end (I.ok.hd x) a (by have:n<=i:=u;lia) λq G=>⟨rfl,I.turned (λb o d e=>G b o d e) l p r j m⟩
 self:=λ_ _ _ _ _ a h=>wpAny_pyIter_rangeiter a h
end
section
variable{pins pl:List (Addr×Obj)}{H:Hp}{a iter:Expr}{fp:List Addr}{h:Heap}
section
variable{X:Cx}{tg:Expr}
def Bx{c:St}{s:b9}{R:It->Hp->Prop}{E:a9->b9->Prop}{lo a:Int}{t u v:Tok}{f:Nat}(I:Inv X pins c H s)(k : -(2 ^ 62)<=lo)(i:lo<2 ^ 62)(j : -(2 ^ 62)<=a)(g:a<2 ^ 62)(q:R (PQ lo (a-lo).toNat) H):wpAny (model X.prog X.w) X.A (pyIter (.ref (hz s))) (PIE X pins c tg R) E {s with heap:=s.heap.push {cls:=.type "range",data:=.fields #[.int lo t,.int a u,.int 1 v]},toks:=f}:=by
 refine wpAny_pyIter_range (IsRange.new ..) (small_one k i j g) ?_;have d:Inv X pins c H {s with heap:=s.heap.push {cls:=.type "range",data:=.fields #[.int lo t,.int a u,.int 1 v]},toks:=f}:=I.kept λb o e=>s9 _ e
 refine⟨(s.heap.push {cls:=.type "range",data:=.fields #[.int lo t,.int a u,.int 1 v]}).objs.size,[(s.heap.push {cls:=.type "range",data:=.fields #[.int lo t,.int a u,.int 1 v]}).objs.size],_,_,H,rfl,
  d.kept λb o e=>s9 _ e,Iq _ lo (a-lo).toNat,?_,λb m=>?_,q⟩
 . have l:lo+((0:Nat))*1=lo:=by simp
   have h:(((a-lo).toNat))-((0:Nat))=Builtin.Range.rangeSize lo a 1:=by rw[rangeSize_one];split<;>lia
   rw[l,h];exact J4 _ rfl
 . have e:b=(s.heap.push {cls:=.type "range",data:=.fields #[.int lo t,.int a u,.int 1 v]}).objs.size:=by simpa using m
   subst e;exact d.yU o6 (d.x5.fresh o6)
def UX(ta:TA):TI:=λσ H R=>ta σ H λvs H1=>∃j:Int,vs=[.int j]/\-(2 ^ 62)<=j/\j<2 ^ 62/\R (PQ 0 j.toNat) H1
def UW(ta:TA):TI:=λσ H R=>ta σ H λvs H1=>∃i j:Int,vs=[.int i,.int j]/\(-(2 ^ 62)<=i/\i<2 ^ 62/\-(2 ^ 62)<=j/\j<2 ^ 62)/\R (PQ i (j-i).toNat) H1
def LL{d:TA}{p pos:Pos}(l:Gl X "range")(f:X.mg "range" = J)(n:PA X [a] d)(hs:autoParam (e8 [a] X.env=[(U',eval a X.env)]) d3._auto_1):PI X tg (.Call (.Name "range" p) [a] [] pos) (UX d):=by
 intro b s k H R I h;refine Call_ (cP I l f boot_range (iN (t9 (n pos b s k H _ I h) λv u ⟨o,w,m,i,c⟩=>?_) hs rfl))
 obtain⟨j,e,c,q2,q⟩:=c;subst e;cases i with
 |cons r g =>
  cases g;obtain⟨t,rfl⟩:=r;exact call_range_1 (Bx m j1 j1 c q2 (by simpa using q))
def LK{b:Expr}{k:TA}{p pos:Pos}(x:Gl X "range")(o:X.mg "range" = J)(y:PA X [a,b] k)(hs:autoParam (e8 [a,b] X.env=[(U',eval a X.env),(U',eval b X.env)]) d3._auto_1)(c:autoParam (e8 [b] X.env=[(U',eval b X.env)]) d3._auto_1):
  PI X tg (.Call (.Name "range" p) [a,b] [] pos) (UW k):=by
 intro d s m H R I h;refine Call_ (cP I x o boot_range (iN (t9 (y pos d s m H _ I h) λC B ⟨z,D,n,w,g⟩=>?_) (by rw[hs,c]) (by rw[c];rfl)))
 obtain⟨i,j,e,⟨g,q2,l,v⟩,q⟩:=g;subst e;cases w with
 |cons r f =>
  cases f with
  |cons u f =>
   cases f;obtain⟨t,rfl⟩:=r;obtain⟨A,rfl⟩:=u;exact call_range_2 (Bx n g q2 l v q)
def Qv(wi:TI)(g:TG)(tb:TS):TS:=λD σ H=>wi σ H λJff H1=>∃W:Nat->Nat->St->Hp->Prop,(∃m,W 0 m σ H1)/\∀i m σ H,W i m σ H ->
 (Jff.stop i H/\D.nx σ H)\/(Jff.go i H/\∃N:St->Hp->Prop,(∀σ' H',N σ' H'->∃m',m'<m/\W (i+1) m' σ' H')/\∀x H',Jff.Um i H x H'->g x σ H' λσ2 H2=>tb {D with nx:=N,ct:=N,bk:=D.nx} σ2 H2)
def rh(fp:List Addr)(h:Heap):List (Addr×Obj):=fp.filterMap λb=>(h.get? b).map λo=>(b,o)
def kj{b:Addr}{o:Obj}(a:b∈fp)(e:h.get? b=U o):(b,o)∈rh fp h:=List.mem_filterMap.mpr ⟨b,a,by rw[e];rfl⟩
def Mi{p:Addr×Obj}(a:p∈rh fp h):p.1∈fp/\h.get? p.1=U p.2:=by
 obtain⟨b,d,e⟩:=List.mem_filterMap.mp a;cases q:h.get? b with
 |none=>rw[q]at e;exact nE e
 |some o =>
  rw[q]at e;have c:=L1 e;subst c;exact⟨d,q⟩
def Inv.pinned{a:St}{s:b9}(I:Inv X pins a H s)(h:∀b∈fp,jR X pins H b)(g:∀b∈fp,∃o,s.heap.get? b=U o/\∀v,o.data≠.cell v):Inv X (pins++rh fp s.heap) a H s :=
 I.iq λp i=>(List.mem_append.mp i).elim (λz=>I.pin p (A3 _ z)) λz=>by obtain⟨f,e⟩:=Mi z;obtain⟨j,l,k,_⟩:=h p.1 f;obtain⟨o,c,d⟩:=g p.1 f;rw[e]at c;cases c;exact⟨e,j,l,k,d⟩
def Inv.uI{a:St}{s:b9}(I:Inv X (pins++pl) a H s):Inv X pins a H s:=I.iq λp b=>I.pin p (A3 _ (L3 _ b))
def Zu{body:List Stmt}{wi:TI}{g:TG}{tb:TS}{pos:Pos}(hp:se (model X.prog X.w) X.A X.env X.xe)(hc:X.calm=Uf)(hi:PI X tg iter wi)(hg:PG X tg g)(hb:mU X body tb)(hs:autoParam (∀x,bO iter X.env x=pure x) U0._auto_1):PS X (.For tg iter body [] pos) (Qv wi g tb):=by
 intro pins s σ H D I h;refine wpAny_For (t9 (hi pins s σ H _ I h) λv s1 h1=>t9 h1 λitv s2 h2=>?_) hs;obtain⟨it,fp,tn,Jff,H2,e,I2,T,st2,f2,W,⟨m0,w0⟩,turn⟩:=h2;subst e;have stat:∀{H':Hp},(∀b∈fp,H' b=J)->∀b∈fp,jR X pins H' b:=λhn b hb=>⟨hn b hb,(f2 b hb).2⟩;refine codeAny_forLoop_any (λn s'=>∃i σ' H',Inv X pins σ' H' s'/\tn i s'.heap/\(∀b∈fp,H' b=J)/\W i n σ' H') ?_ m0 ⟨0,σ,H2,I2,st2,λb hb=>(f2 b hb).1,w0⟩
 rintro n s3 ⟨i,σ3,H3,I3,st3,fr3,w3⟩;rcases turn i n σ3 H3 w3 with ⟨stop,qn⟩|⟨go,N,hN,step⟩
 refine lM hp (t9 (T.done X rfl rfl rfl hc i pins s3 σ3 H3 X.xe I3 (stat fr3) st3 stop) λr s4 ⟨hr,I4⟩=>?_);subst hr;exact xD ⟨σ3,H3,I4,qn⟩
 . refine lM hp (t9 (T.item X rfl rfl rfl hc i pins s3 σ3 H3 X.xe I3 (stat fr3) st3 go) λr s4 ⟨u,hr,h4⟩=>?_);subst hr;refine lM hp (t9 h4 λ_ s5 ⟨x,H5,I5,r5,y5,st5,fr5⟩=>?_);have I5':=I5.pinned (stat fr5) (T.obj _ _ st5);refine lM hp (t9 (hg _ s5 σ3 H5 x u _ I5' r5 (step x H5 y5)) λ_ s6 ⟨σ6,H6,I6,q6⟩=>?_);refine lM hp (t9 (hb _ s6 σ6 H6 _ I6 q6) λf s7 q7=>?_)
   have again:∀{σ7:St} {H7:Hp},Inv X (pins++rh fp s5.heap) σ7 H7 s7->N σ7 H7->∃m,m<n/\∃i σ' H',Inv X pins σ' H' s7/\tn i s7.heap/\(∀b∈fp,H' b=J)/\W i m σ' H':=λ{σ7 H7} I7 n7=>by
    obtain⟨m',hm,w7⟩:=hN σ7 H7 n7;refine⟨m',hm,i+1,σ7,H7,I7.uI,T.keep _ _ _ st5 λb hb o e=>(I7.pin (b,o) (A3 _ (A3 _ (kj hb e)))).1,λb hb=>?_,w7⟩;obtain⟨o,e,d⟩:=T.obj _ _ st5 b hb;exact(I7.pin (b,o) (A3 _ (A3 _ (kj hb e)))).2.1
   cases f with
   |next=>obtain⟨σ7,H7,I7,n7⟩:=q7;exact again I7 n7
   |cont=>obtain⟨σ7,H7,I7,n7⟩:=q7;exact again I7 n7
   |brk=>obtain⟨σ7,H7,I7,q7⟩:=q7;exact⟨σ7,H7,I7.uI,q7⟩
   |ret v=>obtain⟨x7,σ7,H7,I7,r7,q7⟩:=q7;exact⟨x7,σ7,H7,I7.uI,r7,q7⟩
end
end
section
variable{pins:List (Addr×Obj)}{H:Hp}{op:CmpOp}{r:R2}{g:Int->Int->Int}{us:List a9}
abbrev R2:=V->V->Hp->VK->Prop
def O9(X:Cx)(f:a9->a9->Sem a9)(r:R2):Prop :=
 ∀(pins:List (Addr×Obj)) (s:b9) (σ:St) (H:Hp) (x y:V) (v u:a9) (Q:VK),Inv X pins σ H s->RelV x v->RelV y u->r x y H Q ->
  wpAny (model X.prog X.w) X.A (f v u) (EP X pins σ Q) X.xe s
def Vl(X:Cx)(f:a9->Sem a9)(r:V->Hp->VK->Prop):Prop :=
 ∀(pins:List (Addr×Obj)) (s:b9) (σ:St) (H:Hp) (x:V) (v:a9) (Q:VK),Inv X pins σ H s->RelV x v->r x H Q ->
  wpAny (model X.prog X.w) X.A (f v) (EP X pins σ Q) X.xe s
def bQ(X:Cx)(f:a9)(r:List V->Hp->VK->Prop):Prop :=
 ∀(pins:List (Addr×Obj)) (s:b9) (σ:St) (H:Hp) (xs:List V) (us:List a9) (Q:VK),Inv X pins σ H s->Vals xs us->r xs H Q ->
  wpAny (model X.prog X.w) X.A (call f us) (EP X pins σ Q) X.xe s
def mw(r:R2)(ta tb:TE):TE:=λσ H Q=>ta σ H λx H1=>tb σ H1 λy H2=>r x y H2 Q
def tUn(r:V->Hp->VK->Prop)(ta:TE):TE:=λσ H Q=>ta σ H λx H1=>r x H1 Q
def rI(C:Int->Int->Prop)(g:Int->Int->V):R2:=λx y H Q=>∃i j,x=.int i/\y=.int j/\C i j/\Q (g i j) H
def mD(g:Int->Int->V):R2:=λx y H Q=>∃i j,x=.int i/\y=.int j/\Q (g i j) H
def rU(g:Int->V):V->Hp->VK->Prop:=λx H Q=>∃i,x=.int i/\Q (g i) H
section
variable{X:Cx}{a b c:Expr}{ta tb tc:TE}{pos:Pos}
def TU(o:PE X a ta)(n:PE X b tb){s:b9}{c:St}{R:V->V->Hp->Prop}(I:Inv X pins c H s)(h:ta c H λx d=>tb c d λy H2=>R x y H2){Q:a9->b9->Prop}{f:a9->a9->Sem a9}(k:∀v u s2 x y H2,Inv X pins c H2 s2->RelV x v->RelV y u->R x y H2->wpAny (model X.prog X.w) X.A (f v u) Q X.xe s2):
  wpAny (model X.prog X.w) X.A (eval a X.env) (λv s₁=>wpAny (model X.prog X.w) X.A (eval b X.env) (λu s₂=>wpAny (model X.prog X.w) X.A (f v u) Q X.xe s₂) X.xe s₁) X.xe s:=by
 refine t9 (o pins s c H _ I h) λv j ⟨x,d,l,i,m⟩=>?_;refine t9 (n pins j c d _ l m) λu s2 ⟨y,H2,g,e,q2⟩=>?_;exact k v u s2 x y H2 g i e q2
def a1E{op:Operator}(e:O9 X (Q3 op) r)(m:PE X a ta)(l:PE X b tb):PE X (.BinOp a op b pos) (mw r ta tb):=by exact λc s j H Q I h=>wpAny_BinOp (TU m l I h λv u f x y d g k i q=>e c f j d x y v u Q g k i q)
def a1C{op:UnaryOp}{r:V->Hp->VK->Prop}(d:Vl X (unaryOp op) r)(k:PE X a ta):PE X (.UnaryOp op a pos) (tUn r ta):=by exact λb s c H Q I h=>UnaryOp_ (t9 (k b s c H _ I h) λv f ⟨x,g,i,e,j⟩=>d b f c g x v Q i e j)
def LU{f:a9->a9->Sem a9}{C:Int->Int->Prop}(a:∀(i j:Int) (t u:Tok) (s:b9) (Q:a9->b9->Prop) (E:a9->b9->Prop),C i j->Q (.int (g i j) s.toks) {s with toks:=s.toks+1}->wpAny (model X.prog X.w) X.A (f (.int i t) (.int j u)) Q E s):
  O9 X f (rI C λi j=>.int (g i j)):=by intro b s l H x y v u Q I e c h;obtain⟨i,j,rfl,rfl,k,q⟩:=h;obtain⟨t,rfl⟩:=e;obtain⟨d,rfl⟩:=c;exact a i j t d s _ _ k ⟨.int (g i j),H,I.tok _,⟨_,rfl⟩,q⟩
def ZW{f:a9->a9->Sem a9}(a:∀(i j:Int) (t u:Tok) (s:b9) (Q:a9->b9->Prop) (E:a9->b9->Prop),Q (.int (g i j) s.toks) {s with toks:=s.toks+1}->wpAny (model X.prog X.w) X.A (f (.int i t) (.int j u)) Q E s):
  O9 X f (mD λi j=>.int (g i j)):=by intro b s k H x y v u Q I e c h;obtain⟨i,j,rfl,rfl,q⟩:=h;obtain⟨t,rfl⟩:=e;obtain⟨d,rfl⟩:=c;exact a i j t d s _ _ ⟨.int (g i j),H,I.tok _,⟨_,rfl⟩,q⟩
def Sj{f:a9->a9->Sem a9}{g:Int->Int->Bool}(a:∀(i j:Int) (t u:Tok) (s:b9) (Q:a9->b9->Prop) (E:a9->b9->Prop),Q (.bool (g i j)) s->wpAny (model X.prog X.w) X.A (f (.int i t) (.int j u)) Q E s):
  O9 X f (mD λi j=>.bl (g i j)):=by intro b s k H x y v u Q I e c h;obtain⟨i,j,rfl,rfl,q⟩:=h;obtain⟨t,rfl⟩:=e;obtain⟨d,rfl⟩:=c;exact a i j t d s _ _ ⟨.bl (g i j),H,I,rfl,q⟩
def zi(i j:Int):Prop:=0<=j/\j<=1000000/\i.natAbs<2 ^ 64
def Io(k:Nat):(0:Int)<=2 ^ k:=by exact En _
def ZV:O9 X (Q3 .Add) (mD λi j=>.int (i+j)):=ZW λ_ _ _ _ _ _ _ q=>add_int q
def ZM:O9 X (Q3 .Sub) (mD λi j=>.int (i-j)):=ZW λ_ _ _ _ _ _ _ q=>sub_int q
def WO:O9 X (Q3 .Mod) (rI (λ_ j=>j≠0) λi j=>.int (i.fmod j)):=LU λ_ _ _ _ _ _ _ a q=>mod_int' a q
def ZO:O9 X (Q3 .Pow) (rI zi λi j=>.int (i ^ j.toNat)):=LU λ_ _ _ _ _ _ _ a q=>pow_int_small a.1 a.2.1 a.2.2 q
def ZN:O9 X (Q3 .RShift) (rI (λ_ j=>0<=j) λi j=>.int (i/2 ^ j.toNat)):=LU λi j _ _ _ _ _ a q =>
 rshift_int a (by rw[W3 i (Io _)];exact q)
def unI{f:a9->Sem a9}{g:Int->Int}(a:∀(i:Int) (t:Tok) (s:b9) (Q:a9->b9->Prop) (E:a9->b9->Prop),Q (.int (g i) s.toks) {s with toks:=s.toks+1}->wpAny (model X.prog X.w) X.A (f (.int i t)) Q E s):
  Vl X f (rU λi=>.int (g i)):=by intro b s d H x v Q I c h;obtain⟨i,rfl,q⟩:=h;obtain⟨t,rfl⟩:=c;exact a i t s _ _ ⟨.int (g i),H,I.tok _,⟨_,rfl⟩,q⟩
def Yj:Vl X (unaryOp .USub) (rU λi=>.int (-i)):=unI λ_ _ _ _ _ q=>neg_int q
end
noncomputable def YD:V->V->Bool
 | .non,.non=>Uf | .non,.int _=>Uf | .int _,.non=>Uf | .non,.bl _=>Uf | .bl _,.non=>Uf | .non,.str _=>Uf | .str _,.non=>Uf
 | .int _,.int _=>Uf | .bl _,.bl _=>Uf | .str _,.str _=>Uf | .byt _,.byt _=>Uf
 | .int _,.str _=>Uf | .str _,.int _=>Uf | .bl _,.str _=>Uf | .str _,.bl _=>Uf
 |_,_=>U'
def rEq:R2:=λx y H Q=>YD x y=Uf/\Q (.bl (decide (x=y))) H
def rNe:R2:=λx y H Q=>YD x y=Uf/\Q (.bl (!decide (x=y))) H
def HX{i j:Int}:decide (V.int i=V.int j)=(i==j):=by rw[oV];simp
def NG{i j:Bool}:decide (V.bl i=V.bl j)=(i==j):=by rw[oV];simp
def HW{i j:Str}:decide (V.str i=V.str j)=(i==j):=by rw[oV];simp
def HY{i j:Array UInt8}:decide (V.byt i=V.byt j)=(i.toList==j.toList):=by rw[oV];cases i;cases j;simp
section
variable{X:Cx}{a b c:Expr}{ta tb tc:TE}{pos:Pos}
def A2{a:St}{s:b9}{Q:VK}{k k':Bool}(I:Inv X pins a H s)(q:Q (.bl k) H)(e:k=k'):EP X pins a Q (.bool k') s:=by subst e;exact⟨.bl k,H,I,rfl,q⟩
def a1K:O9 X (V7 .Eq) rEq:=by
 intro e s f H x y v u Q I d a h;obtain⟨c,q⟩:=h;cases x with
 |non =>
  cases d;cases y with
  |non=>cases a;exact PySem.EqNone.eq_none_none (A2 I q rfl)
  |bl j=>cases a;exact PySem.EqNone.eq_none_bool (A2 I q rfl)
  |int j=>obtain⟨b,rfl⟩:=a;exact PySem.EqNone.eq_none_int (A2 I q rfl)
  |str j=>obtain⟨b,rfl⟩:=a;exact PySem.EqNone.eq_none_str (A2 I q rfl)
  |_=>exact absurd (show U'=Uf from c) ax
 |bl i =>
  cases d;cases y with
  |non=>cases a;exact PySem.EqNone.eq_bool_none (A2 I q rfl)
  |bl j=>cases a;exact eq_bool (A2 I q NG)
  |str j=>obtain⟨b,rfl⟩:=a;exact PySem.EqMixed.eq_bool_str (A2 I q rfl)
  |_=>exact absurd (show U'=Uf from c) ax
 |int i =>
  obtain⟨t,rfl⟩:=d;cases y with
  |non=>cases a;exact PySem.EqNone.eq_int_none (A2 I q rfl)
  |int j=>obtain⟨b,rfl⟩:=a;exact eq_int (A2 I q HX)
  |str j=>obtain⟨b,rfl⟩:=a;exact PySem.EqMixed.eq_int_str (A2 I q rfl)
  |_=>exact absurd (show U'=Uf from c) ax
 |str i =>
  obtain⟨t,rfl⟩:=d;cases y with
  |non=>cases a;exact PySem.EqNone.eq_str_none (A2 I q rfl)
  |bl j=>cases a;exact PySem.EqMixed.eq_str_bool (A2 I q rfl)
  |int j=>obtain⟨b,rfl⟩:=a;exact PySem.EqMixed.eq_str_int (A2 I q rfl)
  |str j=>obtain⟨b,rfl⟩:=a;exact eq_str (A2 I q HW)
  |_=>exact absurd (show U'=Uf from c) ax
 |byt i =>
  obtain⟨t,rfl⟩:=d;cases y with
  |byt j=>obtain⟨b,rfl⟩:=a;exact PySem.W.eq_bytes (A2 I q HY)
  |_=>exact absurd (show U'=Uf from c) ax
 |_=>cases y<;>exact absurd (show U'=Uf from c) ax
def a1H:O9 X (V7 .NotEq) rNe:=by
 intro e s f H x y v u Q I d a h;obtain⟨c,q⟩:=h;cases x with
 |non =>
  cases d;cases y with
  |non=>cases a;exact PySem.EqNone.ne_none_none (A2 I q rfl)
  |bl j=>cases a;exact PySem.EqNone.ne_none_bool (A2 I q rfl)
  |int j=>obtain⟨b,rfl⟩:=a;exact PySem.EqNone.ne_none_int (A2 I q rfl)
  |str j=>obtain⟨b,rfl⟩:=a;exact PySem.EqNone.ne_none_str (A2 I q rfl)
  |_=>exact absurd (show U'=Uf from c) ax
 |bl i =>
  cases d;cases y with
  |non=>cases a;exact PySem.EqNone.ne_bool_none (A2 I q rfl)
  |bl j=>cases a;exact ne_bool (A2 I q (m2 not NG))
  |str j=>obtain⟨b,rfl⟩:=a;exact PySem.EqMixed.ne_bool_str (A2 I q rfl)
  |_=>exact absurd (show U'=Uf from c) ax
 |int i =>
  obtain⟨t,rfl⟩:=d;cases y with
  |non=>cases a;exact PySem.EqNone.ne_int_none (A2 I q rfl)
  |int j=>obtain⟨b,rfl⟩:=a;exact ne_int (A2 I q (m2 not HX))
  |str j=>obtain⟨b,rfl⟩:=a;exact PySem.EqMixed.ne_int_str (A2 I q rfl)
  |_=>exact absurd (show U'=Uf from c) ax
 |str i =>
  obtain⟨t,rfl⟩:=d;cases y with
  |non=>cases a;exact PySem.EqNone.ne_str_none (A2 I q rfl)
  |bl j=>cases a;exact PySem.EqMixed.ne_str_bool (A2 I q rfl)
  |int j=>obtain⟨b,rfl⟩:=a;exact PySem.EqMixed.ne_str_int (A2 I q rfl)
  |str j=>obtain⟨b,rfl⟩:=a;exact ne_str (A2 I q (m2 not HW))
  |_=>exact absurd (show U'=Uf from c) ax
 |byt i =>
  obtain⟨t,rfl⟩:=d;cases y with
  |byt j=>obtain⟨b,rfl⟩:=a;exact PySem.W.ne_bytes (A2 I q (m2 not HY))
  |_=>exact absurd (show U'=Uf from c) ax
 |_=>cases y<;>exact absurd (show U'=Uf from c) ax
def IX:O9 X (V7 .Lt) (mD λi j=>.bl (decide (i<j))):=Sj λ_ _ _ _ _ _ _ q=>lt_int q
def a1I:O9 X (V7 .Gt) (mD λi j=>.bl (decide (j<i))):=Sj λ_ _ _ _ _ _ _ q=>gt_int q
def a1J:O9 X (V7 .GtE) (mD λi j=>.bl (decide (j<=i))):=Sj λ_ _ _ _ _ _ _ q=>ge_int q
def ZT:O9 X (V7 .Is) (λx y H Q=>y=.non/\Q (.bl (decide (x=.non))) H):=by
 intro b s d H x y v u Q I a c h;obtain⟨rfl,q⟩:=h;cases c;refine is_none_gen (A2 I q ?_);cases x<;>first
  |(cases a;rfl)
  |(obtain⟨t,rfl⟩:=a;rfl)
def WL:O9 X (V7 .IsNot) (λx y H Q=>y=.non/\Q (.bl (!decide (x=.non))) H):=by
 intro b s d H x y v u Q I a c h;obtain⟨rfl,q⟩:=h;cases c;refine isnot_none_gen (A2 I q ?_);cases x<;>first
  |(cases a;rfl)
  |(obtain⟨t,rfl⟩:=a;rfl)
def O9.or{f:a9->a9->Sem a9}{b:R2}(h:O9 X f r)(h':O9 X f b):O9 X f (λx y H Q=>r x y H Q\/b x y H Q):=by
 intro a s d H x y v u Q I e c q;rcases q with q|q
 exact h a s d H x y v u Q I e c q;exact h' a s d H x y v u Q I e c q
def eD(b:Expr)(h:autoParam (op≠.In) a6._auto_1)(a:autoParam (op≠.NotIn) a6._auto_1):oR op b=U':=by
 have d:(op==CmpOp.In)=U':=by cases op<;>first|rfl|exact absurd rfl h
 have c:(op==CmpOp.NotIn)=U':=by cases op<;>first|rfl|exact absurd rfl a
 cases b<;>simp[oR,d,c]
def WI(f:O9 X (V7 op) r)(n:PE X a ta)(m:PE X b tb)(d:oR op b=U'):PE X (.Compare a [op] [b] pos) (mw r ta tb):=by exact λc s k H Q I h=>wpAny_Compare1 (TU n m I h λv u g x y e i l j q=>f c g k e x y v u Q i l j q) d
def Uv(t:TE):TT:=λσ H Q=>t σ H λx H'=>∃k,x=.bl k/\Q k H'
def Wm(g:O9 X (V7 op) r)(E:PE X a ta)(D:PE X b tb)(o:oR op b=U'):PT X (.Compare a [op] [b] pos) (Uv (mw r ta tb)):=by
 intro d s f H Q I h;refine wpAny_isTrue_Compare1 (t9 (E d s f H _ I h) λv l ⟨x,B,m,t,C⟩=>t9 (D d l f B _ m C) λu q ⟨y,p,j,n,q2⟩ =>
  t9 (g d q f p x y v u _ j t n q2) λc G ⟨z,w,F,A,k,e,i⟩=>?_) o
 subst e;cases A;exact sF ⟨w,F,i⟩
def oe:(p8:Nat)<2 ^ 63:=by rw[jt];decide
def IY:O9 X (Q3 .Add) (λx y H Q=>∃i j,x=.str i/\y=.str j/\i.length+j.length<=p8/\Q (.str (i++j)) H):=by intro a s g H x y v u Q I e c h;obtain⟨i,j,rfl,rfl,b,q⟩:=h;obtain⟨t,rfl⟩:=e;obtain⟨d,rfl⟩:=c;exact add_str (λd f=>⟨.str (i++j),H,I.tok _,⟨_,rfl⟩,q⟩) b
def vals1{x:V}(r:Vals [x] us):∃u,us=[u]/\RelV x u:=by
 cases r with
 |cons b a=>cases a;exact⟨_,rfl,b⟩
def vals2{x y:V}(r:Vals [x,y] us):∃u w',us=[u,w']/\RelV x u/\RelV y w':=by
 cases r with
 |cons c a =>
  cases a with
  |cons b d=>cases d;exact⟨_,_,rfl,c,b⟩
def TQ:bQ X (.builtin "abs") (λxs H Q=>∃i,xs=[.int i]/\Q (.int (if i<0 then -i else i)) H):=by intro a s c H xs d Q I r h;obtain⟨i,rfl,q⟩:=h;obtain⟨u,rfl,t,rfl⟩:=vals1 r;exact call_abs_int λu b=>⟨.int (if i<0 then -i else i),H,I.tok _,⟨_,rfl⟩,q⟩
end
end
section
variable{pl:Sem Bool}{u:a9}
structure vt(h:Heap)(x dx C:Addr)(mA:Str->Option a9):Prop where
 obj:h.get? x=U (jA C dx)
 ns:h.Ns1 dx mA
 ne:dx≠x
set_option tactic.hygienic true in
def MA{h:Heap}{f:Addr}{d:Str->Option a9}(n:h.Ns1 f d):∃od,h.get? f=U od/\∀name,xB name od=U (d name):=by
 obtain⟨o,c,p,j,g,m,_,i⟩:=n;refine⟨o,j,λname=>?_⟩;have e:=i name;unfold nsFind findBy at e;rw[<-Array.find?_toList]at e;delta xB;rw[g];dsimp only;split;rename_i y q;rw[q]at e;exact m2 U e
 . rename_i q;rw[q]at e;have a:c.toList.any (·.refKey)=U':=by rw[List.any_eq_false];intro y k;obtain⟨z,t,b⟩:=m y (Array.mem_toList_iff.mp k);simp[DictEntry.refKey,b]
   have l:¬c.toList.any (·.refKey)=Uf:=by rw[a];exact ax
   rw[b0 l];exact m2 U e
def vt.look{h:Heap}{x a C:Addr}{b:Str->Option a9}(I:vt h x a C b):∃od,PySem.W.InstAt h x (jA C a) C (U od)/\∀name,xB name od=U (b name) :=
 let ⟨od,c,d⟩:=MA I.ns
 ⟨od,⟨I.obj,rfl,rfl,c⟩,d⟩
section
variable{prog:n9}{w:k7}{A:t6}{E:a9->b9->Prop}{s:b9}{K:d2}{x dx C f:Addr}{mA:Str->Option a9}{name:Str}{v:a9}
def get_map{a:Bool}{Q:a9->b9->Prop}(X:K.In s.heap)(I:vt s.heap x dx C mA)(d:sC K C name=Uf)(c:sE K C=Uf)(g:V8 K (.ref C) name=U J)(f:mA name=U v)(b:Ov v=Uf)(h:Q v {s with toks:=s.toks+1}):
  wpAny (model prog w) A (getAttr (.ref x) name a) Q E s:=by obtain⟨i,Jff,e⟩:=I.look;exact PySem.W.get_value X Jff (Ep d).1 (PySem.W.findObj_own c g rfl (by rw[e,f])) b h
def Tj{Q:a9×List a9->b9->Prop}(X:K.In s.heap)(I:vt s.heap x dx C mA)(a:sC K C name=Uf)(d:V8 K (.ref C) name=U (U (.ref f)))(b:su K (.ref f)=Uf)(c:mA name=J)(h:Q (.ref f,[.ref x]) s):
  wpAny (model prog w) A (gN (.ref x) name pl) Q E s:=by obtain⟨e,Jff,g⟩:=I.look;exact PySem.W.method_fn X Jff (Ep a).1 (Ep a).2 d (beq_iff_eq.mp b) (by show(xB name e).map (·.isSome)=U U';rw[g,c];rfl) h
def VN{ns:List Str}{Q:Unit->b9->Prop}(X:K.In s.heap)(I:vt s.heap x dx C mA)(hs:V8 K (.ref C) "__setattr__" = U (U (.builtin "object.__setattr__")))(p:Eg K C=Uf)(j:DU K C name=U J)(o:sE K C=Uf)(l:Dx mA ns)(hsz:ns.length<=p8)(h:∀h',vt h' x dx C (λy=>if y=name then U v else mA y)->jv dx s.heap h'->Q () {s with heap:=h',toks:=s.toks+2}):
  wpAny (model prog w) A (setAttr (.ref x) name v) Q E s:=by
 obtain⟨t,Jff,u⟩:=I.look;refine PySem.W.set_plain X Jff hs (PySem.W.osa_open X Jff p j λb=>?_);obtain⟨B,q,e⟩:=PySem.W.any_some o;refine c5 (i5 (c5 (c5 (wpAny_loadPart I.obj (c5 (PySem.W.Looks.here (PySem.W.looks_clsIn X q) ?_))))));rw[e];refine i5 (c5 (i5 (c5 ?_)));refine wpAny_nsSet1 I.ns λh' d c=>?_;obtain⟨z,n,k,g,i,f⟩:=d.count (PySem.Within.cons name v l);refine c5 (wpAny_lookBehind g (by rw[i];exact pastItsLine_dict (i0 f (by rw[W2];simp[*]))) ?_);exact i5 (h _ ⟨(c.2 _ (ay I.ne)).trans I.obj,d,I.ne⟩ c)
def SO {R:Result->b9->Prop} {vs:List a9} {b:List (Str × a9)} (X:K.In s.heap) (c:DT K C=Uf) (e:V8 K (.ref C) "__init__" = U (U (.ref f))) (i:PySem.W.typeIn K (.ref f)=U (.type "function")) (h:codeAny (model prog w) (A.under (.builtin "type.__call__" ⟨.ref C::vs,b⟩)) (.call (.ref f) ⟨.ref ((hz s) + 1)::vs,b⟩) (PySem.W.InitBack ((hz s) + 1) R)
   {s with heap:=(s.heap.push jB).push (jA C (hz s))}) :
  codeAny (model prog w) A (.call (.ref C) ⟨vs,b⟩) R s:=by obtain⟨j,g,d,t,k⟩:=s;exact PySem.W.make_core (PySem.W.makes_of X c) (PySem.W.looks_findIn X e) (λa=>PySem.W.bind_fn X a i) (.inl rfl) h
end
noncomputable def aE(f:Str)(v:V):List (Str×V)->List (Str×V)
 | []=>[(f,v)]
 |(g,x)::r=>if g=f then(g,v)::r else(g,x)::aE f v r
theorem uh(f g:Str)(v:V):∀fs:List (Str×V),(aE f v fs).lookup g=if g=f then U v else fs.lookup g
 | []=>by
  show cZ g [(f,v)]=_;by_cases h:g=f;have a:=beq_iff_eq.mpr h;simp only[cZ,a,b3 h];have a:=beq_eq_false_iff_ne.mpr h;simp only[cZ,a,b0 h]
 |(k,x)::r=>by
  rw[show aE f v ((k,x)::r)=(if k=f then(k,v)::r else(k,x)::aE f v r)from rfl];by_cases b:k=f;rw[b3 b];by_cases h:g=k;have a:=beq_iff_eq.mpr h;simp only[cZ,a,b3 (h.trans b)];have a:=beq_eq_false_iff_ne.mpr h;simp only[cZ,a,b0 (λe:g=f=>h (e.trans b.symm))];rw[b0 b];by_cases h:g=k;have a:=beq_iff_eq.mpr h;simp only[cZ,a,b0 (λe:g=f=>b (h.symm.trans e))];have a:=beq_eq_false_iff_ne.mpr h;simp only[cZ,a];exact(uh f g v r)
theorem rD(f:Str)(v:V):∀fs:List (Str×V),f∈(aE f v fs).map (·.1)/\∀g,g∈fs.map (·.1)->g∈(aE f v fs).map (·.1)
 | []=>⟨by simp[aE],λg h=>by simp at h⟩
 |(k,x)::r=>by
  obtain⟨b,c⟩:=rD f v r;rw[show aE f v ((k,x)::r)=(if k=f then(k,v)::r else(k,x)::aE f v r)from rfl];by_cases a:k=f;rw[b3 a];subst a;exact⟨o8,λg h=>by simpa using h⟩
  . rw[b0 a];refine⟨?_,λg h=>?_⟩;rw[m6];exact m5 _ b
    . rw[m6]at h ⊢;rcases List.mem_cons.mp h with e|e
      exact List.mem_cons.mpr (.inl e);exact m5 _ (c g e)
theorem ui(f:Str)(v:V):∀fs:List (Str×V),(aE f v fs).length<=fs.length+1
 | []=>by simp[aE]
 |(k,x)::r=>by
  have:=ui f v r;rw[show aE f v ((k,x)::r)=(if k=f then(k,v)::r else(k,x)::aE f v r)from rfl];by_cases a:k=f;rw[b3 a,W2,W2];simp[*];rw[b0 a,W2,W2];simp[*]
def ek.some_of{v:V}{o:Option a9}(r:ek (U v) o):∃u,o=U u/\RelV v u:=by
 cases o with
 |none=>exact(show False from r).elim
 |some u=>exact⟨u,rfl,r⟩
def ek.none_of{o:Option a9}(r:ek J o):o=J:=by
 cases o with
 |none=>rfl
 |some u=>exact(show False from r).elim
def Nv{v:V}(r:RelV v u):Ov u=Uf:=by
 cases v with
 |non=>cases(show u=sf from r);rfl
 |bl b=>cases(show u=Dj b from r);rfl
 |int i=>obtain⟨t,e⟩:=(show ∃t,u=xf i t from r);cases e;rfl
 |str x=>obtain⟨t,e⟩:=(show ∃t,u=xc x t from r);cases e;rfl
 |byt b=>obtain⟨t,e⟩:=(show ∃t,u=Value.bytes b t from r);cases e;rfl
 |flt b=>obtain⟨t,e⟩:=(show ∃t,u=Value.float b t from r);cases e;rfl
 |ref a=>cases(show u=V3 a from r);rfl
 |ty n=>cases(show u=xi n from r);rfl
section
variable{P:n9}{w:k7}{H H':Hp}{h h':Heap}{a C dx:Addr}{fs fs':List (Str×V)}
def yL(c:v5 P w H h)(e:H a=U (.ins C dx fs)):∃b,vt h a dx C b/\(∀f,ek (fs.lookup f) (b f))/\Dx b (fs.map (·.1))/\fs.length<=1000/\H dx=U (.own a):=by
 obtain⟨d,z,ne,g,b,n,r,q⟩:=(show P9 P w H h a (.ins C dx fs)from c a _ e);exact⟨b,⟨g,n,ne⟩,r,q,z,d⟩
end
structure sT(K:d2)(C:Addr):Prop where
 pg:sC K C jr=Uf
 hd:sE K C=Uf
 po:Eg K C=Uf
 sa:V8 K (.ref C) "__setattr__" = U (U (.builtin "object.__setattr__"))
def sT.get{K:d2}{C:Addr}(c:sT K C)(f:Str):sC K C f=Uf:=c.pg
def T1(K:d2)(C:Addr)(f:Str):Prop:=V8 K (.ref C) f=U J
def T1.a1o{K:d2}{C:Addr}{f:Str}(n:T1 K C f):DU K C f=U J:=by
 delta DU;rw[show V8 K (.ref C) f=U J from n];rfl
structure Con(K:d2)(C:Addr)(f:Str)(v:V)(u:a9):Prop where
 at_:V8 K (.ref C) f=U (U u)
 rel:RelV v u
 get:Ef K u "__get__" = U J
 cp:PySem.W.copiedNames.contains f=U'
structure Meth(K:d2)(C:Addr)(m:Str)(f:Addr):Prop where
 at_:V8 K (.ref C) m=U (U (.ref f))
 fn:su K (.ref f)=Uf
 kp:eT K (.ref f)=Uf
section
variable{X:Cx}{pins:List (Addr×Obj)}{σ:St}{H:Hp}{s:b9}{a C dx:Addr}{fs:List (Str×V)}{f:Str}{v:V}{A:t6}{E:a9->b9->Prop}
def JH{b:Bool}{Q:a9->b9->Prop}(I:Inv X pins σ H s)(e:H a=U (.ins C dx fs))(c:sT X.K C)(n:T1 X.K C f)(l:fs.lookup f=U v)(h:∀u s',Inv X pins σ H s'->RelV v u->Q u s'):wpAny (model X.prog X.w) A (getAttr (.ref a) f b) Q E s:=by
 obtain⟨i,O,r,_,_,_⟩:=yL I.x5 e;obtain⟨u,g,d⟩:=ek.some_of (by rw[<-l];exact r f);exact get_map I.mM O (c.get f) c.hd n g (Nv d) (h u _ (I.tok _) d)
def wz{m:Str}{g:Addr}{Q:a9×List a9->b9->Prop}(I:Inv X pins σ H s)(e:H a=U (.ins C dx fs))(c:sT X.K C)(k:Meth X.K C m g)(l:fs.lookup m=J)(h:Q (.ref g,[.ref a]) s):wpAny (model X.prog X.w) A (gN (.ref a) m pl) Q E s:=by
 obtain⟨mA,O,r,_,_,_⟩:=yL I.x5 e;have hn:mA m=J:=ek.none_of (by rw[<-l];exact r m);exact Tj I.mM O (c.get m) k.at_ k.fn hn h
def Iz{y:V}{Q:Unit->b9->Prop}(I:Inv X pins σ H s)(e:H a=U (.ins C dx fs))(c:sT X.K C)(n:T1 X.K C f)(G:fs.length<1000)(t:RelV y u)(h:∀s',Inv X pins σ (upd H a (.ins C dx (aE f y fs))) s'->Q () s'):wpAny (model X.prog X.w) A (setAttr (.ref a) f u) Q E s:=by
 obtain⟨i,O,r,k,_,j⟩:=yL I.x5 e;have p:(fs.map (·.1)).length<=p8:=by rw[o9,jt];exact dS
 refine VN I.mM O c.sa c.po n.a1o c.hd k p λm d B=>h _ ?_
 have l:∃o,m.get? dx=U o:=let ⟨o,_,_,D,_⟩:=d.ns;⟨o,D⟩;refine I.write (by rw[e];exact xh) (.inr j) (λb q F z=>(B.2 b F).trans z) l ?_
 refine⟨by rw[w9 O.ne];exact j,?_,O.ne,d.obj,_,d.ns,λg=>?_,λg v=>?_⟩;have:=ui f y fs;exact i0 c6 c6;show ek ((aE f y fs).lookup g) (if g=f then U u else i g);rw[uh];by_cases q:g=f;rw[b3 q,b3 q];exact t;rw[b0 q,b0 q];exact r g;by_cases q:g=f;rw[q];exact(rD f y fs).1;refine(rD f y fs).2 g (k g λz=>v ?_);show(if g=f then U u else i g)=J;rw[b0 q];exact z
def Inv.made(I:Inv X pins σ H s):Inv X pins σ (upd (upd H (hz s) (.own ((hz s)+1))) ((hz s)+1) (.ins C (hz s) []))
  {s with heap:=(s.heap.push jB).push (jA C (hz s))}:=by
 have a:(s.heap.push jB).get? (hz s)=U jB:=J4 s.heap rfl;have g:((s.heap.push jB).push (jA C (hz s))).get? ((hz s)+1)=U (jA C (hz s)):=by
  have:=J4 (s.heap.push jB) (o:=jA C (hz s)) rfl
  rwa [fh]at this
 have c:(s.heap.push jB).Ns (hz s) (λ_=>J):=⟨jB,#[],_,a,rfl,(λe f=>absurd f (λh=>nomatch h)),λ_=>rfl⟩;have d:=I.laid (o:=.own ((hz s)+1)) (t':=s.toks) (λb u q=>s9 _ q) o6 ⟨_,a⟩;refine d.laid (λb u q=>s9 _ q) (lJ (fh _ _)) ?_;have ne:(hz s)≠(hz s)+1:=E9 (sA _);refine⟨by rw[w9 ne,E1],cY _,ne,g,λ_=>J,(Heap.Ns1.of_empty c).at λo q=>s9 _ q,λ_=>xh,λy h=>absurd rfl h⟩
def XH{prog:n9}{w:k7}{env:Env}{e:Expr}{f:Str}{pos:Pos}{s:b9}{Q:a9->b9->Prop}(a:U3 e f env (eval e env)=eval e env)(h:wpAny (model prog w) A (eval e env) (λo s₁=>wpAny (model prog w) A (getAttr o f Uf) Q E s₁) E s):wpAny (model prog w) A (eval (.Attribute e f pos) env) Q E s :=
 Attribute_any_ h (by rw[arm_eval_Attribute,a])
end
def pI(K:d2)(ta:TE)(f:Str):TE:=λσ H Q=>ta σ H λx H1=>∃a C dx fs v,x=.ref a/\H1 a=U (.ins C dx fs)/\sT K C/\T1 K C f/\fs.lookup f=U v/\Q v H1
def YG(K:d2)(ta tv:TE)(f:Str):TS:=λD σ H=>tv σ H λy H1=>ta σ H1 λx H2=>∃a C dx fs,x=.ref a/\H2 a=U (.ins C dx fs)/\sT K C/\T1 K C f/\fs.length<1000 /\
 D.nx σ (upd H2 a (.ins C dx (aE f y fs)))
section
variable{X:Cx}{o e value:Expr}{f:Str}{pos pos' tpos:Pos}{ta tv:TE}
def ri(g:PE X e ta)(r:U3 e f X.env (eval e X.env)=eval e X.env):PE X (.Attribute e f pos) (pI X.K ta f):=by
 intro b s j H Q I h;refine XH r (t9 (g b s j H _ I h) λu y ⟨x,m,o,k,a,C,z,fs,v,t,d,c,n,l,q⟩=>?_);subst t;obtain rfl:=k;exact JH o d c n l λA w i p=>⟨v,m,i,p,q⟩
def Zv(w:PE X o ta)(r:PE X value tv)(hs:Q4 value (U (.Attribute o f pos')) pos.line X.env=pure U'):PS X (.Assign [.Attribute o f pos'] value pos) (YG X.K ta tv f):=by
 intro b s d H D I h;refine plainObj_wpAny_Assign_Attribute (t9 (r b s d H _ I h) λu j ⟨y,v,m,t,q⟩=>t9 (w b j d v _ m q) λk E ⟨x,B,g,i,a,C,F,fs,p,e,c,n,l,q2⟩=>?_) hs;subst p;obtain rfl:=i;exact Iz g e c n l t λA z=>⟨d,_,z,q2⟩
end
section
variable{X:Cx}{pins:List (Addr×Obj)}{σ:St}{H:Hp}{s:b9}{A:t6}{E:a9->b9->Prop}{Q:a9->b9->Prop}{c:a9}{b:Bool}
inductive lA(K:d2)(H:Hp):V->a9->Prop where
 |non:lA K H .non (.type "NoneType")
 |bl (x:Bool):lA K H (.bl x) (.type "bool")
 |int (i:Int):lA K H (.int i) (.type "int")
 |str (x:Str):lA K H (.str x) (.type "str")
 |flt (x:UInt64):lA K H (.flt x) (.type "float")
 |lst {a:Addr} {xs:List V} (e:H a=U (.lst xs)):lA K H (.ref a) (.type "list")
 |bU {a:Addr} {o:Obj} {xs:List V} (e:H a=U (.bU o (.lst xs))):lA K H (.ref a) (.type "list")
 |tup {a:Addr} {xs:List V} (e:H a=U (.tup xs)):lA K H (.ref a) (.type "tuple")
 |dK {a:Addr} {kvs:List (Key×V)} (e:H a=U (.dK kvs)):lA K H (.ref a) (.type "dict")
 |dT {a:Addr} {kvs:List (List Key×V)} (e:H a=U (.dT kvs)):lA K H (.ref a) (.type "dict")
 |ins {a C dx:Addr} {fs:List (Str×V)} (e:H a=U (.ins C dx fs)) (cl:sT K C) (ha:V8 K (.ref C) "__class__" = U (U (.builtin "object.__class__")))
   (hn:Ef K (.builtin "object.__class__") "__get__" = U (U (.builtin "getset_descriptor.__get__"))) (htk:Oi K (.builtin "object.__class__")=U Uf)
   (hm:DF K C (.type "object")=U Uf):lA K H (.ref a) (.ref C)
end
end
section
variable{A:t6}{us:List a9}{a:List (Str×a9)}{P:n9}{K:d2}{mg:Str->Option a9}{base:Heap}{outer:List Env}{u D dV doc pm cdv ct oc:a9}{vs:List V}{pl:Sem Bool}{N:List Str}{scope:F8}
structure D1(k:Nat)(A:t6):Prop where
 hd:A.handled=J
 dp:A.depth+3*k+5<recursionLimit
 un:A.units+16*k+200<G8
def D1.mono{j k:Nat}(r:D1 k A)(h:j<=k):D1 j A:=⟨r.hd,by have:=r.dp;lia,by have:=r.un;lia⟩
theorem D1.deeper{k:Nat}{A:t6}(r:D1 (k+1) A)(env:Env):D1 k (A.deeper env) :=
 ⟨r.hd,by have:=r.dp;show A.depth+1+3*k+5<_;lia,by have:=r.un;show A.units+3+16*k+200<_;lia⟩
def Js{C:Addr}:(A.under (.builtin "type.__call__" ⟨.ref C::us,a⟩)).depth=A.depth+1:=by first|rfl|simp[Dw]
def Jr{C:Addr}:(A.under (.builtin "type.__call__" ⟨.ref C::us,a⟩)).units=A.units+1:=by first|rfl|simp[Dw]
def D1.make{k:Nat}(r:D1 (k+1) A)(C:Addr)(us:List a9)(a:List (Str×a9)):D1 k (A.under (.builtin "type.__call__" ⟨.ref C::us,a⟩)) :=
 ⟨r.hd,by have:=r.dp;rw[Js];lia,by have:=r.un;rw[Jr];lia⟩
theorem D1.depth{k:Nat}{A:t6}(r:D1 k A):A.depth<recursionLimit:=by have:=r.dp;lia
theorem D1.units{k:Nat}{A:t6}(r:D1 k A):A.units+64<G8:=by have:=r.un;lia
def pH:TA:=λ_ H Q=>Q [] H
def pJ(ta:TE)(tr:TA):TA:=λσ H Q=>ta σ H λx H1=>tr σ H1 λxs H2=>Q (x::xs) H2
section
variable{X:Cx}{e:Expr}{es:List Expr}{te:TE}{t:TA}{pos:Pos}
def rj:PA X [] pH:=λ_ _ _ _ H Q I h=>xN ⟨[],H,I,.nil,h⟩
def kE(o:PE X e te)(f:PA X es t)(hs:autoParam (e8 (e::es) X.env=(U',eval e X.env)::e8 es X.env) d3._auto_1):PA X (e::es) (pJ te t):=by
 intro pos a s b H Q I h;rw[hs];refine sH (t9 (o a s b H _ I h) λu k ⟨x,l,m,i,n⟩=>?_);exact t9 (f pos a k b l _ m n) λq p ⟨j,d,g,c,q2⟩=>⟨x::j,d,g,.cons i c,q2⟩
def Qs(t:TA):TE:=λσ H Q=>t σ H λxs H1=>xs.length<=p8/\∀p,H1 p=J->Q (.ref p) (upd H1 p (.tup xs))
def Yt(t:TA):TE:=λσ H Q=>t σ H λxs H1=>xs.length<=p8/\∀p,H1 p=J->Q (.ref p) (upd H1 p (.lst xs))
def LM{x1}(h:PA X es t):PE X (.Tuple es x1 pos) (Qs t):=by
 intro pins s σ H Q I hq;refine wpAny_Tuple_spliced (t9 (h pos pins s σ H _ I hq) λus s1 ⟨xs,H1,I1,r,z,q⟩=>⟨by rw[<-r.length];exact z,?_⟩);have hf:H1 s1.heap.objs.size=J:=I1.x5.fresh o6;refine⟨.ref s1.heap.objs.size,upd H1 s1.heap.objs.size (.tup xs),I1.laid (t':=s1.toks) (λb u e=>s9 _ e) o6 ?_,rfl,q _ hf⟩;exact⟨z,us,r,⟨_,J4 _ rfl,rfl,_,rfl⟩⟩
def ZH(h:PA X es t):PE X (.List es pos) (Yt t):=by
 intro pins s σ H Q I hq;refine wpAny_List_spliced (t9 (h pos pins s σ H _ I hq) λus s1 ⟨xs,H1,I1,r,z,q⟩=>⟨by rw[<-r.length];exact z,?_⟩);have hf:H1 s1.heap.objs.size=J:=I1.x5.fresh o6;refine⟨.ref s1.heap.objs.size,upd H1 s1.heap.objs.size (.lst xs),I1.laid (t':=s1.toks) (λb u e=>s9 _ e) o6 ?_,rfl,q _ hf⟩;exact⟨z,us,0,r,J4 _ rfl⟩
end
abbrev Sp:=List V->Hp->VK->XK->Prop
abbrev mn:=List Env->Hp->b9->XK->a9->b9->Prop
structure vw(P:n9)(w:k7)(K:d2)(mg:Str->Option a9)(base:Heap)(A:t6)(outer:List Env)(s:b9)(H:Hp):Prop where
 frames:A.frames=U outer
 mod:Mod K mg base
 bs:∀b o,base.get? b=U o->s.heap.get? b=U o/\H b=J
 qF:base.objs.size<=s.heap.objs.size
 iu:s.heap.FunFrames base outer
 zM:∀b∈mQ outer,H b=J
 x5:v5 P w H s.heap
 bare:gM s.gens
def CE(outer:List Env)(P:n9)(w:k7)(H:Hp)(s:b9)(Q:VK)(u:a9)(s':b9):Prop :=
 ∃v H',s'.os=s.os/\gM s'.gens/\Un (mQ outer) [] H H' s.heap s'.heap/\v5 P w H' s'.heap/\RelV v u/\Q v H'
def CR(CX:mn)(outer:List Env)(P:n9)(w:k7)(H:Hp)(s:b9)(Q:VK)(E:XK)(r:Result)(s':b9):Prop :=
 match r with
 | .ok (.ret u)=>CE outer P w H s Q u s'
 | .ok _=>False
 | .error e=>CX outer H s E e s'
structure W4(P:n9)(w:k7)(K:d2)(mg:Str->Option a9)(base:Heap)(CX:mn)(k:Nat)(f:Addr)(fd:B4)(ps:List Str)(sp:Sp):Prop where
 len:∀vs H Q E,sp vs H Q E->vs.length=ps.length
 run:∀(A:t6) (outer:List Env) (s:b9) (H:Hp) (args:Args) (us:List a9) (vs:List V) (Q:VK) (E:XK),D1 k A->vw P w K mg base A outer s H->jo s fd args (ps.zip us)->Vals vs us->sp vs H Q E ->
  codeAny (model P w) A (.call (.ref f) args) (CR CX outer P w H s Q E) s
def vw.make{w:k7}{s:b9}{H:Hp}(e:vw P w K mg base A outer s H)(C:Addr)(us:List a9)(a:List (Str×a9)):
  vw P w K mg base (A.under (.builtin "type.__call__" ⟨.ref C::us,a⟩)) outer s H:=⟨by first|exact e.frames|(simpa [Dw,Code.envs,Code.isFrame,pushEnvs]using e.frames),e.mod,e.bs,e.qF,e.iu,e.zM,e.x5,e.bare⟩
section
variable{X:Cx}{pins:List (Addr×Obj)}{σ:St}{H:Hp}{s s':b9}
def Inv.a0I(I:Inv X pins σ H s):vw X.prog X.w X.K X.mg X.base X.A X.stack s H :=
 ⟨I.ok.frames,I.ok.mod,I.bs,i0 I.ok.qF I.sz,I.stack,I.GD,I.x5,I.bare⟩
def Inv.after{Q:VK}(I:Inv X pins σ H s)(h:CE X.stack X.prog X.w H s Q u s'):EP X pins σ Q u s':=by obtain⟨v,i,f,a,un,c,r,q⟩:=h;obtain⟨j,g,d,t,e⟩:=s';obtain rfl:=f;exact⟨v,i,I.call un c a (λb z=>absurd z i9),r,q⟩
end
def pK(sp:Sp)(dvs:List V)(E:XK)(t:TA):TE:=λσ H Q=>t σ H λvs H1=>sp (vs++dvs) H1 Q E
def kb(C:Addr)(m:Str)(sp:Sp)(dvs:List V)(E:XK)(ta:TE)(t:TA):TE:=λσ H Q=>ta σ H λx H1=>∃a dx fs,x=.ref a/\H1 a=U (.ins C dx fs)/\fs.lookup m=J /\
 t σ H1 λvs H2=>sp (x::(vs++dvs)) H2 Q E
def UA(C:Addr)(sp:Sp)(dvs:List V)(E:XK)(t:TA):TE:=λσ H Q=>t σ H λvs H1=>∀x dx,H1 x=J->H1 dx=J->dx≠x ->
 sp (.ref x::(vs++dvs)) (upd (upd H1 dx (.own x)) x (.ins C dx [])) (λv H2=>v=.non/\Q (.ref x) H2) E
def Binds(K:d2)(fd:B4)(ps:List Str)(ds:List a9):Prop :=
 ∀(s:b9) (us:List a9),K.In s.heap->(us++ds).length=ps.length->jo s fd ⟨us,[]⟩ (ps.zip (us++ds))
def Binds.all{fd:B4}{a:List Str}(h:∀us:List a9,us.length=a.length->bindArgs fd ⟨us,[]⟩=pure (a.zip us)):Binds K fd a []:=λs us _ b=>by rw[Z9]at b ⊢;exact .of_eq (h us b)
def Passes(CX:mn)(X:Cx)(E:XK):Prop:=∀(pins:List (Addr×Obj)) (σ:St) (H:Hp) (s:b9) (e:a9) (s':b9),Inv X pins σ H s->CX X.stack H s E e s'->X.xe e s'
section
variable{X:Cx}{CX:mn}{k:Nat}{f C:Addr}{fd:B4}{ps:List Str}{sp:Sp}{dvs:List V}{ds:List a9}{E:XK}{x m:Str}{p pos apos:Pos}{e o:Expr}{es:List Expr}{ta:TE}{t:TA}
def Br{pins:List (Addr×Obj)}{a:St}{H:Hp}{s:b9}{Q:VK}(F:W4 X.prog X.w X.K X.mg X.base CX k f fd ps sp)(g:D1 k X.A)(l:Binds X.K fd ps ds)(hd:Vals dvs ds)(d:Passes CX X E)(I:Inv X pins a H s)(r:Vals vs us)(h:sp (vs++dvs) H Q E):wpAny (model X.prog X.w) X.A (call (.ref f) us) (EP X pins a Q) X.xe s:=by
 have b:=r.append hd;have i:(us++ds).length=ps.length:=by rw[<-b.length];exact F.len _ _ _ _ h
 refine wpAny_call (xq (F.run X.A X.stack s H ⟨us,[]⟩ (us++ds) (vs++dvs) Q E g I.a0I (l s us I.mM i) b h) λr j hq=>?_)
 cases r with
 |error e=>exact d pins a H s e j I hq
 |ok c =>
  cases c with
  |ret u=>exact I.after hq
  |next=>exact bh hq
  |brk=>exact bh hq
  |cont=>exact bh hq
def He(F:W4 X.prog X.w X.K X.mg X.base CX k f fd ps sp)(l:D1 k X.A)(n:Gl X x)(g:X.mg x=U (.ref f))(u:eT X.K (.ref f)=Uf)(o:Binds X.K fd ps ds)(hd:Vals dvs ds)(j:Passes CX X E)(v:PA X (e::es) t)(b:autoParam ((x==("__debug__" : Str))=U') a6._auto_1)(i:autoParam (e8 (e::es) X.env=(U',eval e X.env)::e8 es X.env) d3._auto_1)(c:autoParam ((p5 pos (e8 es X.env)).any (·.1)=U') d3._auto_1):
  PE X (.Call (.Name x p) (e::es) [] pos) (pK sp dvs E t):=by
 intro a s m H Q I h;refine jD (yE I n g ?_ b);refine Em I.ok.mod.HF u (t9 (v pos a s m H _ I h) λB z ⟨y,C,d,r,q⟩=>⟨d.mM,?_⟩) i c;exact Br F l o hd j d r q
def Ha (M:PE X o ta) (c:sT X.K C) (v:Meth X.K C m f) (F:W4 X.prog X.w X.K X.mg X.base CX k f fd ps sp) (N:D1 k X.A) (P:Binds X.K fd ps ds) (hd:Vals dvs ds) (B:Passes CX X E) (R:PA X (e::es) t) (d:autoParam (e8 (e::es) X.env=(U',eval e X.env)::e8 es X.env) d3._auto_1) (g:autoParam ((p5 pos (e8 es X.env)).any (·.1)=U') d3._auto_1) (z:autoParam (eval (.Call (.Attribute o m apos) (e::es) [] pos) X.env=(do
   let ov <- eval o X.env
   ba apos.atName
   let (f,first) <- holding [ov] (gN ov m pl)
   callWith pos f first (p5 pos (e8 (e::es) X.env)) (Z0 pos (bL [] X.env)))) d3._auto_1) :
  PE X (.Call (.Attribute o m apos) (e::es) [] pos) (kb C m sp dvs E ta t):=by
 intro b s n H Q I h;refine Pc (t9 (M b s n H _ I h) λu G ⟨x,O,p,D,a,Y,fs,L,y,l,q⟩=>?_) z;subst L;obtain rfl:=D;refine wz p y c v l ?_;refine Em I.ok.mod.HF v.kp (t9 (R pos b G n O _ p q) λS V ⟨j,T,i,r,q2⟩=>⟨i.mM,?_⟩) d g;exact Br (vs:=.ref a::j) F N P hd B i (.cons rfl r) q2
def RS (j:PE X o ta) (c:sT X.K C) (e:Meth X.K C m f) (F:W4 X.prog X.w X.K X.mg X.base CX k f fd ps sp) (p:D1 k X.A) (v:Binds X.K fd ps ds) (hd:Vals dvs ds) (n:Passes CX X E) (i:autoParam (eval (.Call (.Attribute o m apos) [] [] pos) X.env=(do
   let ov <- eval o X.env
   ba apos.atName
   let (f,first) <- holding [ov] (gN ov m pl)
   callWith pos f first (p5 pos (e8 [] X.env)) (Z0 pos (bL [] X.env)))) d3._auto_1) :
  PE X (.Call (.Attribute o m apos) [] [] pos) (kb C m sp dvs E ta pH):=by
 intro b s r H Q I h;refine Pc (t9 (j b s r H _ I h) λu z ⟨x,D,d,t,a,B,fs,y,g,l,q⟩=>?_) i;subst y;obtain rfl:=t;refine wz d g c e l ?_;exact PySem.W.callWith_K0 d.mM e.kp (Br (vs:=[.ref a]) F p v hd n d (.cons rfl .nil) q)
structure Mk(K:d2)(C f:Addr):Prop where
 makes:DT K C=Uf
 init:V8 K (.ref C) "__init__" = U (U (.ref f))
 fn:su K (.ref f)=Uf
 kp:eT K (.ref C)=Uf
def QQ{pins:List (Addr×Obj)}{d:St}{H:Hp}{s:b9}{Q:VK}(M:Mk X.K C f)(F:W4 X.prog X.w X.K X.mg X.base CX k f fd ps sp)(n:D1 (k+1) X.A)(z:Binds X.K fd ps ds)(hd:Vals dvs ds)(l:Passes CX X E)(I:Inv X pins d H s)(r:Vals vs us)(h:∀x c,H x=J->H c=J->c≠x->sp (.ref x::(vs++dvs)) (upd (upd H c (.own x)) x (.ins C c [])) (λv H2=>v=.non/\Q (.ref x) H2) E):
  wpAny (model X.prog X.w) X.A (call (.ref C) us) (EP X pins d Q) X.xe s:=by
 have hq:=h ((hz s)+1) (hz s) (I.x5.fresh (Nat.le_succ _)) (I.x5.fresh o6) (E9 (sA _));have b:=Inv.made (C:=C) I;have g:Vals (V.ref ((hz s)+1)::(vs++dvs)) (V3 ((hz s)+1)::(us++ds)):=.cons rfl (r.append hd);have p:(V3 ((hz s)+1)::us++ds).length=ps.length:=by have e:=g.length;rw[F.len _ _ _ _ hq]at e;exact e.symm
 refine wpAny_call (SO I.mM M.makes M.init (beq_iff_eq.mp M.fn) (xq (F.run _ X.stack _ _ ⟨V3 ((hz s)+1)::us,[]⟩ (V3 ((hz s)+1)::(us++ds)) _ _ E (n.make C us [])
  (b.a0I.make C us []) (z _ (V3 ((hz s)+1)::us) b.mM p) g hq) λr q a=>?_))
 cases r with
 |error e=>exact l pins d _ _ e q b a
 |ok i =>
  cases i with
  |ret u =>
   obtain⟨v,y,j,o,t,m⟩:=b.after a;subst t;exact⟨o,⟨V.ref ((hz s)+1),y,j,rfl,m⟩⟩
  |next=>exact bh a
  |brk=>exact bh a
  |cont=>exact bh a
def WE(M:Mk X.K C f)(F:W4 X.prog X.w X.K X.mg X.base CX k f fd ps sp)(l:D1 (k+1) X.A)(n:Gl X x)(g:X.mg x=U (.ref C))(o:Binds X.K fd ps ds)(hd:Vals dvs ds)(j:Passes CX X E)(u:PA X (e::es) t)(b:autoParam ((x==("__debug__" : Str))=U') a6._auto_1)(i:autoParam (e8 (e::es) X.env=(U',eval e X.env)::e8 es X.env) d3._auto_1)(c:autoParam ((p5 pos (e8 es X.env)).any (·.1)=U') d3._auto_1):
  PE X (.Call (.Name x p) (e::es) [] pos) (UA C sp dvs E t):=by
 intro a s m H Q I h;refine jD (yE I n g ?_ b);refine Em I.ok.mod.HF M.kp (t9 (u pos a s m H _ I h) λz y ⟨v,B,d,r,q⟩=>⟨d.mM,?_⟩) i c;exact QQ M F l o hd j d r q
end
section
variable{X:Cx}{CX:mn}{k:Nat}{f C:Addr}{fd:B4}{ps ks:List Str}{sp:Sp}{E:XK}{x m:Str}{p pos apos kpos:Pos}{e o:Expr}{es:List Expr}{kws:List T3}{te ta:TE}{t tk:TA}{nm:Option Str}
structure a3H(K:d2)(fd:B4)(ps ks:List Str)(g:List a9->List a9->List a9)(gV:List V->List V->List V):Prop where
 to:∀(s:b9) (us ws:List a9),K.In s.heap->(g us ws).length=ps.length->jo s fd ⟨us,ks.zip ws⟩ (ps.zip (g us ws))
 rel:∀{vs:List V} {us:List a9} {zs:List V} {ws:List a9},Vals vs us->Vals zs ws->Vals (gV vs zs) (g us ws)
variable{g:List a9->List a9->List a9}{gV:List V->List V->List V}
end
structure iH(N P:List Str)(sc:F8):Prop where
 kind:sc.kind=.function
 co:sc.isCoroutine=U'
 gen:sc.isGenerator=U'
 nd:N.Nodup
 pre:N.take P.length=P
 par:∀x∈P,sc.names.lookup x=U .local\/sc.names.lookup x=U .cell
 a0c:∀y∈sc.names,y.2≠.free
theorem zT{a:Str->Option jq}{x:Str}:∀{binds:List (Str×a9)} {m:Str->Option a9},(∀v,(x,v)∉binds)->bindL a binds m x=m x
 | [],_,_=>rfl
 |(n,v)::r,m,h=>by
  unfold bindL;rw[zT λw b=>h w (m5 _ b)];split
  . have:x≠n:=by rintro rfl;exact h v m8
    simp[this]
  rfl
theorem zV{a:Str->Option jq}{x:Str}:∀{binds:List (Str×a9)} {m:Str->Option a9},(∀v,(x,v)∉binds)->bindC a binds m x=m x
 | [],_,_=>rfl
 |(n,v)::r,m,h=>by
  unfold bindC;rw[zV λw b=>h w (m5 _ b)];split;rfl
  . have:x≠n:=by rintro rfl;exact h v m8
    simp[this]
theorem zU{a:Str->Option jq}{x:Str}{v:a9}:∀{P:List Str} {vs:List a9} {i:Nat} {m:Str->Option a9},P.Nodup->P[i]? = U x->vs[i]? = U v->a x=U .local ->
  bindL a (P.zip vs) m x=U v
 | [],_,_,_,_,h,_,_=>by simp at h
 |_::_,[],_,_,_,_,h,_=>by simp at h
 |p::P,w::vs,0,m,nd,h1,h2,hk=>by
  simp at h1 h2;subst h1;subst h2;show bindL a ((p,w)::P.zip vs) m p=_;unfold bindL;rw[zT λv b=>(List.nodup_cons.mp nd).1 (DR b).1,b3 hk];simp
 |p::P,w::vs,i+1,m,nd,h1,h2,hk=>by
  show bindL a ((p,w)::P.zip vs) m x=_;exact zU (List.nodup_cons.mp nd).2 (by simpa using h1) (by simpa using h2) hk
theorem zW{a:Str->Option jq}{x:Str}{v:a9}:∀{P:List Str} {vs:List a9} {i:Nat} {m:Str->Option a9},P.Nodup->P[i]? = U x->vs[i]? = U v->a x≠U .local ->
  bindC a (P.zip vs) m x=U v
 | [],_,_,_,_,h,_,_=>by simp at h
 |_::_,[],_,_,_,_,h,_=>by simp at h
 |p::P,w::vs,0,m,nd,h1,h2,hk=>by
  simp at h1 h2;subst h1;subst h2;show bindC a ((p,w)::P.zip vs) m p=_;unfold bindC;rw[zV λv b=>(List.nodup_cons.mp nd).1 (DR b).1,b0 hk];simp
 |p::P,w::vs,i+1,m,nd,h1,h2,hk=>by
  show bindC a ((p,w)::P.zip vs) m x=_;exact zW (List.nodup_cons.mp nd).2 (by simpa using h1) (by simpa using h2) hk
def start(N:List Str)(vs:List V):St:=vs.map U++o1 (N.length-vs.length) J
noncomputable def nB(CX:mn)(P:n9)(w:k7)(K:d2)(mg:Str->Option a9)(base:Heap)(N:List Str)(qual:Str)(scope:F8)(f:Addr)(cd:a9)(A:t6)(outer:List Env)(s:b9)(H:Hp)(E:XK):Cx where
 prog:=P
 w:=w
 K:=K
 mg:=mg
 base:=base
 A:=A.deeper (cX qual scope s.heap.objs.size f cd)
 N:=N
 M6:=s
 i7:=H
 env:=cX qual scope s.heap.objs.size f cd
 outer:=outer
 stack:=cX qual scope s.heap.objs.size f cd::outer
 ex:=[]
 calm:=Uf
 fn:=λ_=>Uf
 pn:=[]
 xe:=λe s'=>wpAny (model P w) (A.deeper (cX qual scope s.heap.objs.size f cd)) (leaving (cX qual scope s.heap.objs.size f cd) e) (λ_ s''=>CX outer H s E e s'') (λe' s''=>CX outer H s E e' s'') s'
def CT{sc:F8}{n:Nat}{x:Str}(h:sc.names.lookup x=U .cell):∃c,(eN n sc.names []).lookup x=U c:=by exact Option.isSome_iff_exists.mp (Pg sc.names n [] (.inl h))
def Nk{CX:mn}{w:k7}{m:List Str}{d:Str}{f:Addr}{s s1:b9}{H:Hp}{E:XK}(S:iH N m scope)(hd:A.handled=J)(j:vw P w K mg base A outer s H)(Q:vs.length=m.length)(r:Vals vs us)(x:InCallC s (hz s) (bindL (cX d scope (hz s) f D).kindOf (m.zip us) λ_=>J) (eN ((hz s)+1) scope.names []) (bindC (cX d scope (hz s) f D).kindOf (m.zip us) λ_=>J) s1):
  Inv (nB CX P w K mg base N d scope f D A outer s H E) [] (start N vs) H s1:=by
 have:m.length<=N.length:=by have:=m2 gQ S.pre;rw[pd]at this;lia
 obtain⟨F,R,rfl,G⟩:=x.done;have l:∀b:Addr,b∉(nB CX P w K mg base N d scope f D A outer s H E).ex:=λb z=>absurd (show b∈([])from z) i9
 refine⟨⟨j.mod,S.kind,rfl,rfl,Z6 _,λy z c F g=>?_,λy o=>?_,λy c _ h=>?_,λ_=>hd,Around.frames_deeper j.frames,.inr ⟨rfl,rfl⟩,λb z=>absurd z (l b),j.bs,j.qF,λb _ _=>l b,λb z=>absurd z (l b),j.iu,j.zM⟩,
  rfl,j.bare,Un.kept G,⟨_,x.toInCall.ns,λi y v F g T=>?_⟩,λy c h=>⟨_,x.cell y c h⟩,j.x5.fresh o6,λy c h=>?_,λp t=>absurd (show p∈([])from t) i9,j.x5.kept G,?_⟩
 exact name_of_addr x.apart (jE F) (jE g)
 . have o:=o;rcases o with o|o
   exact CT o;exact absurd rfl (S.a0c _ (jE o))
 exact eS (x.above y c (jE h))
 . have C:i<vs.length:=by
     unfold start at g;by_cases C:i<vs.length;exact C
     . rw[kx (by simpa using C)]at g
       rw[ED]at g;split at g<;>cases g
   have M:vs[i]? = U v:=by
    unfold start at g;rw[fm (by simpa using C),C5]at g
    cases e:vs[i]? with
    |none=>rw[e]at g;exact nE g
    |some a=>rw[e]at g;cases g;rfl
   obtain⟨u,I,L⟩:=r.get M;have t:m[i]? = U y:=by rw[<-S.pre,List.getElem?_take_of_lt (OJ c6 c6)];exact F
   have B:m.Nodup:=by rw[<-S.pre];exact S.nd.sublist (List.take_sublist _ _)
   refine⟨u,L,?_⟩;rcases S.par y (lZ t)with k|k
   exact .inl ⟨k,zU B t I k⟩;obtain⟨c,e⟩:=CT k;refine .inr ⟨.inl k,c,e,?_⟩;have q:=x.cell y c e;rw[zW B t I (by show scope.names.lookup y≠_;rw[k];decide)]at q;exact q
 exact j.x5.fresh (eS (x.above y c (jE h)));delta start;show _=N.length;rw[U6,o9,pq];simp[*]
def a1S {CX:mn} {w:k7} {k:Nat} {f:Addr} {name qual:Str} {params:Arguments} {body:List Stmt} {kV:a9} {an od:Option Addr} {osl:Array (Option a9)} {ps:List Str} {sp:Sp} (lk:K.lookup f=U ⟨oc,od,.func (eR name qual params body scope dV kV doc pm an cdv ct),osl⟩) (hcd:xA K cdv qual=Uf) (S:iH N ps scope) (len:∀vs H Q E,sp vs H Q E->vs.length=ps.length) (hbody:∀(A:t6) (outer:List Env) (s:b9) (H:Hp) (vs:List V) (Q:VK) (E:XK),D1 k (A.deeper (cX qual scope s.heap.objs.size f cdv))->sp vs H Q E ->
   ∃t,mU (nB CX P w K mg base N qual scope f cdv A outer s H E) body t/\t {nx:=λ_ H'=>Q .non H',rt:=Q} (start N vs) H) :
  W4 P w K mg base CX (k+1) f (eR name qual params body scope dV kV doc pm an cdv ct) ps sp:=by
 refine⟨len,λA outer s H args us vs Q E hr e0 hb r hsp=>?_⟩;have hl:=len _ _ _ _ hsp;have KX:K.In s.heap:=e0.mod.HF.keeps λb o e=>(e0.bs b o e).1;have lim:s.heap.NoLimit:=e0.mod.nolimit.keeps λb o e=>(e0.bs b o e).1
 have hkind:∀y∈ps.zip us,scope.names.lookup y.1=U .local\/(scope.names.lookup y.1=U .cell/\((eN (s.heap.objs.size+1) scope.names []).lookup y.1).isSome=Uf):=λ⟨n,v⟩ hy=>by
  rcases S.par n (DR hy).1 with q|q
  exact .inl q;exact .inr ⟨q,Pg _ _ _ (.inl q)⟩
 refine codeAny_call_function hr.depth (KX _ _ lk) rfl S.co S.gen rfl (PySem.W.codeRec_of KX hcd) (hb _ _ _ _ ?_);refine wpAny_newFunctionEnv_cells S.kind hkind λenv he s1 x=>?_;subst he;refine⟨lim.keeps x.toInCall.keep,codeAny_func ?_⟩;obtain⟨t,ht,hq⟩:=hbody A outer s H vs Q E (hr.deeper _) hsp;have I:Inv (nB CX P w K mg base N qual scope f cdv A outer s H E) [] (start N vs) H s1:=Nk S hr.hd e0 hl r x;refine Z1 (ht [] s1 (start N vs) H _ I hq) (λfl s' hs=>?_) λe s' hs=>hs
 have fin:∀{σ':St} {H':Hp} {v:V} {u:a9},Inv (nB CX P w K mg base N qual scope f cdv A outer s H E) [] σ' H' s'->RelV v u->Q v H'->CE outer P w H s Q u s' :=
  λ{σ' H' v u} Jff rv q=>⟨v,H',Jff.os,Jff.bare,Jff.base,Jff.x5,rv,q⟩
 cases fl with
 |ret u =>
  obtain⟨v,σ',H',Jff,rv,q⟩:=hs;exact fin Jff rv q
 |next =>
  obtain⟨σ',H',Jff,q⟩:=hs;exact fin (v:=V.non) (u:=sf) Jff rfl q
 |brk =>
  obtain⟨_,_,_,q⟩:=hs;exact bh q
 |cont =>
  obtain⟨_,_,_,q⟩:=hs;exact bh q
end
section
variable{X:Cx}{x:Str}{p pos:Pos}{e:Expr}{es:List Expr}{t:TA}{id T:String}{r:List V->Hp->VK->Prop}
def vG(r:List V->Hp->VK->Prop)(t:TA):TE:=λσ H Q=>t σ H λvs H1=>r vs H1 Q
def RY(w:bQ X (.builtin id) r)(m:Gl X x)(f:X.mg x=J)(i:cC x=U (.builtin id))(y:PA X (e::es) t)(g:autoParam (x ≠ "__name__") a6._auto_1)(b:autoParam ((x==("__debug__" : Str))=U') a6._auto_1)(j:autoParam (e8 (e::es) X.env=(U',eval e X.env)::e8 es X.env) d3._auto_1)(c:autoParam ((p5 pos (e8 es X.env)).any (·.1)=U') d3._auto_1):PE X (.Call (.Name x p) (e::es) [] pos) (vG r t):=by intro a s d H Q I h;refine jD (cP I m f i ?_ g b);exact PyProof.Rows.callWith_builtin1 (t9 (y pos a s d H _ I h) λo n ⟨l,q,u,k,v⟩=>w a n d q l o Q u k v) j c
def LN(w:bQ X (.type T) r)(m:Gl X x)(f:X.mg x=J)(i:cC x=U (.type T))(y:PA X (e::es) t)(g:autoParam (x ≠ "__name__") a6._auto_1)(b:autoParam ((x==("__debug__" : Str))=U') a6._auto_1)(j:autoParam (e8 (e::es) X.env=(U',eval e X.env)::e8 es X.env) d3._auto_1)(c:autoParam ((p5 pos (e8 es X.env)).any (·.1)=U') d3._auto_1):PE X (.Call (.Name x p) (e::es) [] pos) (vG r t):=by intro a s d H Q I h;refine jD (cP I m f i ?_ g b);exact iN (t9 (y pos a s d H _ I h) λo n ⟨l,q,u,k,v⟩=>w a n d q l o Q u k v) j c
end
end L2
namespace HT
open PySem PyProof.Rows
def lexLt:List Int->List Int->Bool
 | [],[]=>U'
 | [],_::_=>Uf
 |_::_,[]=>U'
 |x::xs,y::ys=>if x=y then lexLt xs ys else decide (x<y)
def Jx(x y:Int)(xs ys:List Int):lexLt (x::xs) (y::ys)=if x=y then lexLt xs ys else decide (x<y):=rfl
def Ai:lexLt [] []=U':=rfl
def yC(y:Int)(ys:List Int):lexLt [] (y::ys)=Uf:=rfl
def yD(x:Int)(xs:List Int):lexLt (x::xs) []=U':=rfl
def Tz(A:t6)(s:b9)(a:Int)(t:Tok)(c:Int)(u:Tok):∃e,SeqAt.EqAt A s (.int a t) (.int c u) e/\(e=Uf↔a=c) :=
 ⟨(a==c),SeqAt.EqAt.int_int a t c u,by simp⟩
def QU(A:t6)(s:b9)(a:Int)(t:Tok)(c:Int)(u:Tok)(prog:n9)(w:k7)(E:a9->b9->Prop)(Q:a9->b9->Prop)(h:Q (.bool (decide (a<c))) s):
  wpAny (model prog w) A (richCompare .Lt (.int a t) (.int c u)) Q E s :=
 (PyProof.Rows.lt_int h)
section
open PySem.SeqAt
open PySem.AutoSeq1 (wpAny_loadPart')
open PySem.MeetsSeq PySem.MeetsSeq2 PySem.MeetsSeq3
def Ab(l b:Addr)(items items2:Array a9)(n n2:Nat)(dd dd2:Option Addr)(sl t8:Array (Option a9))(ns ms:List Int)(hi:aZ items.toList ns)(hj:aZ items2.toList ms):
  Meets (Builtin.«tuple.__lt__» ⟨[.ref l,.ref b],[]⟩)
   (λ_ R s=>s.heap.get? l=U {cls:=.type "tuple",dict:=dd,data:=.seq items n,slots:=sl}/\s.heap.get? b=U {cls:=.type "tuple",dict:=dd2,data:=.seq items2 n2,slots:=t8} /\
    R (.ok (.ret (.bool (lexLt ns ms)))) s) :=
 .of_wp λprog w A R s h=>by
  obtain⟨hp,g,d,tk,os⟩:=s;obtain⟨hl,hb,h⟩:=h;have f2:=AutoSeq1.sub_tuple_tuple;have z1:items.size=ns.length:=by rw[<-hi.length];simp
  have z2:items2.size=ms.length:=by rw[<-hj.length];simp
  wp_walk using wpAny_loadPart' hl,wpAny_loadPart' hb,wpAny_forIn_list _ (λrest b s'=>b.1=J/\s'=⟨hp,g,d,tk,os⟩/\∃(vs ws:List a9) (ns' ms':List Int),rest=vs.zip ws /\
   aZ vs ns'/\aZ ws ms'/\ns'.length+items2.size=ms'.length+items.size/\R (.ok (.ret (.bool (lexLt ns' ms')))) ⟨hp,g,d,tk,os⟩) _
  case turn =>
   rintro⟨y,x⟩ rest b s' ⟨hb',rfl,vs,ws,ns',ms',hz,hvi,hwi,hlen,hR⟩;cases hvi with
   |nil=>rw[List.zip_nil_left]at hz;cases hz
   |cons a t hvi' =>
    cases hwi with
    |nil=>rw[List.zip_nil_right]at hz;cases hz
    |cons c u hwi' =>
     rw[iM]at hz;injection hz with hyx hrest
     injection hyx with hy hx
     subst hy hx;rw[Jx]at hR;simp only[W2]at hlen;obtain⟨e,he,hiff⟩:=Tz A.in1 ⟨hp,g,d,tk,os⟩ a t c u;refine c5 (he prog w _ _ ?_);cases e with
     |true =>
      rw[b3 (hiff.mp rfl)]at hR
      wp_walk
      exact⟨rfl,rfl,_,_,_,_,hrest,hvi',hwi',by omega,hR⟩
     |false =>
      rw[b0 (λq=>absurd (hiff.mpr q) ax)]at hR;have hri:=QU A.in1 ⟨hp,g,d,tk,os⟩ a t c u prog w
      wp_walk using hri
      exact⟨_,rfl,by simpa using hR⟩
  case fin =>
   rintro⟨b1,b2⟩ s' ⟨hb',rfl,vs,ws,ns',ms',hz,hvi,hwi,hlen,hR⟩;simp only at hb';subst hb';have hv:lexLt ns' ms'=decide (items.size<items2.size):=by
    cases hvi with
    |nil =>
     cases hwi with
     |nil =>
      simp only[gU]at hlen;rw[Ai];exact(U4 (by simp_all)).symm
     |cons c u hw =>
      simp only[gU,W2]at hlen;rw[yC];exact(dg (by simp_all)).symm
    |cons a t hv =>
     cases hwi with
     |nil =>
      simp only[gU,W2]at hlen;rw[yD];exact(U4 (by omega)).symm
     |cons c u hw =>
      rw[iM]at hz;cases hz
   rw[hv]at hR
   wp_walk
   exact⟨_,rfl,by simpa [Builtin.Tuple.tupleCompareSizes]using hR⟩
  case h =>
   exact⟨rfl,rfl,items.toList,items2.toList,ns,ms,rfl,hi,hj,by omega,h⟩
end
section
variable{prog:n9}{w:k7}{A:t6}{E:a9->b9->Prop}{s:b9}
def Jt{l b:Addr}{items a:Array a9}{ns ms:List Int}{Q:a9->b9->Prop}(v:P1 s.heap l items)(C:P1 s.heap b a)(r:aZ items.toList ns)(t:aZ a.toList ms)(q:A.units<G8)(h:Q (.bool (lexLt ns ms)) s):wpAny (model prog w) A (V7 .Lt (.ref l) (.ref b)) Q E s:=by
 obtain⟨⟨z,B,o,u⟩,m,p,n,j⟩:=id v;obtain⟨⟨k,f,g,i⟩,d,c,y,e⟩:=id C;subst p j c e;exact richCompare_meets_room (op:=.Lt) ⟨_,m,rfl⟩ ⟨_,d,rfl⟩ PySem.F.slot_tuple_lt PySem.F.entry_tuple_lt (PySem.F.args_tuple_lt_2 _ _) (Ab l b items a n y B f u i ns ms r t)
  ⟨m,d,show Dj (lexLt ns ms)≠Value.notImplemented/\Q (.bool (lexLt ns ms)) s from⟨(λx=>nomatch x),h⟩⟩ q
def XA{t b:Addr}{vs ws:List a9}{Q:a9->b9->Prop}(x:P1 s.heap t vs.toArray)(B:P1 s.heap b ws.toArray)(p:vs≠[])(z:ws=[]->Q (.ref t) s)(y:ws≠[]->Q (.ref s.heap.objs.size) {s with heap:=s.heap.push {cls:=.type "tuple",data:=.seq (vs++ws).toArray}})(hsz:vs.length+ws.length<=p8):wpAny (model prog w) A (Q3 .Add (.ref t) (.ref b)) Q E s:=by
 obtain⟨⟨l,v,g,q⟩,i,u,n,m⟩:=id x;obtain⟨⟨o,c,k,f⟩,a,d,r,h⟩:=id B;subst u m d h;have e:vs.toArray++ws.toArray=(vs++ws).toArray:=by simp
 by_cases j:ws=[]
 . exact xp ⟨_,i,rfl⟩ ⟨_,a,rfl⟩ Ee DE EB EC (EE _ _)
     (tuple_addW1 t b vs.toArray ws.toArray n r v c q f (by simpa using p) (by simp[j])) ⟨i,a,z j⟩
 . refine xp ⟨_,i,rfl⟩ ⟨_,a,rfl⟩ Ee DE EB EC (EE _ _)
     (tuple_addW2 t b vs.toArray ws.toArray n r v c q f (by simpa using p) (by simpa using j) (by rw[M3,M3];exact hsz)) ⟨i,a,?_⟩
   rw[e];exact y j
def D7(n d:Nat):Option Int->Nat
 |none=>d
 |some v=>if v<0 then(v+(n:Int)).toNat else min v.toNat n
def Ia(v:Int)(n d:Nat):(if v<0 then max (v+(n:Int)) 0 else min v (n:Int))=((D7 n d (U v):Nat):Int):=by
 show(if v<0 then max (v+n) 0 else min v n)=(((if v<0 then(v+n).toNat else min v.toNat n)));by_cases a:v<0;simp only[b3 a];simp[*];simp only[b0 a];lia
def Ka(lo a:Option Int)(n:Nat):Px lo a 1 (n:Int)=(((D7 n 0 lo:Nat):Int),((D7 n n a:Nat):Int)):=by
 refine Prod.ext ?_ ?_
 . cases lo with
   |none=>rfl
   |some v=>exact Ia v n 0
 . cases a with
   |none=>rfl
   |some v=>exact Ia v n n
def IQ(i j:Nat):yb (i:Int) (j:Int) 1=j-i:=by delta yb;split<;>lia
def vI{v:a9}{o:Option Int}{Q:Option Int->b9->Prop}(p:eI v o)(h:Q o s):wpAny (model prog w) A (Builtin.Slice.slicePartIndex v) Q E s:=by
 cases p with
 |none=>exact slicePart_none h
 |int i t=>exact slicePart_int h
def kR{f:Addr}{d e:a9}{lo c:Option Int}{n:Nat}{Q:Int×Int×Nat->b9->Prop}(hs:s.heap.IsSliceOf f d e .none)(pl:eI d lo)(i:eI e c)(h:Q (((D7 n 0 lo:Nat):Int),1,D7 n n c-D7 n 0 lo) s):wpAny (model prog w) A (Builtin.Slice.sliceApplied (.ref f) (pure (n:Int))) Q E s:=by
 obtain⟨j,a,g,b⟩:=id hs;refine c5 (c5 (F7 a b rfl (c5 (F7 a b rfl (c5 (F7 a b rfl (i5 ?_)))))));refine c5 (slicePart_none ?_);refine c5 (vI pl (c5 (vI i (c5 (i5 ?_)))));show wpAny _ _ (match Px lo c 1 n with|(lo,c)=>pure (lo,(1:Int),yb lo c 1)) _ _ s;rw[Ka lo c n];show wpAny _ _ (pure (((D7 n 0 lo):Int),1,yb ((D7 n 0 lo)) ((D7 n n c)) 1)) _ _ s;rw[IQ];exact i5 h
def RN(xs:Array a9)(i k:Nat):((p9 k).filterMap λ(m:Nat)=>xs[((i:Int)+(m:Int)*1).toNat]?).toArray=((xs.toList.drop i).take k).toArray:=by
 have e:(λ(m:Nat)=>xs[((i:Int)+m*1).toNat]?)=λm=>xs[i+m]?:=by
  funext m
  have:((i:Int)+m*1).toNat=i+m:=by lia
  rw[this]
 rw[e];have:=pick_run xs i k;rw[List.filterMap_map]at this;have a:((λx=>xs[x]?)∘λx=>i+x)=λm=>xs[i+m]?:=rfl;rw[a]at this;rw[this]
def ua{t i:Addr}{items:Array a9}{k j:a9}{lo b:Option Int}{Q:a9->b9->Prop}(c:P1 s.heap t items)(hs:s.heap.IsSliceOf i k j .none)(pl:eI k lo)(p:eI j b)(l:¬(D7 items.size 0 lo=0/\D7 items.size items.size b=items.size))(h:Q (.ref s.heap.objs.size) {s with heap:=s.heap.push {cls:=.type "tuple",data:=.seq ((items.toList.drop (D7 items.size 0 lo)).take (D7 items.size items.size b-D7 items.size 0 lo)).toArray}})(hsz:items.size<=p8):wpAny (model prog w) A (eJ (.ref t) (.ref i)) Q E s:=by
 have a:sizeOk (.seq ((items.toList.drop (D7 items.size 0 lo)).take (D7 items.size items.size b-D7 items.size 0 lo)).toArray):=by
  show((items.toList.drop (D7 items.size 0 lo)).take (D7 items.size items.size b-D7 items.size 0 lo)).toArray.size<=p8;rw[M3,pd,Ed,xS];exact i0 (Ec _ _) (i0 (xg _ _) c6)
 obtain⟨o,g,d,n⟩:=id hs;have e:s.TypeIs (.ref i) "slice":=⟨o,g,d⟩;delta eJ;try with_reducible refine da ?_
 first|refine c5 (i5 ?_)|skip
 refine c5 (wpAny_sequenceKey c.typeIs a6 ?_);refine c5 (gI c.typeIs yf
  (dN yf c.typeIs entry_tuple_getitem ?_ (args_tuple_getitem _ _)))
 show wpAny _ _ (PB (.ref t) >>= _) _ _ s
 refine c5 (tupleItemsOf_ c ?_);refine c5 (oP e ?_);refine c5 (kR hs pl p ?_);have f:¬((((D7 items.size 0 lo):Int)==0&&(1:Int)==1&&(D7 items.size items.size b-D7 items.size 0 lo)==items.size)=Uf):=by exact λq=>l ⟨by simp_all,by lia⟩
 show wpAny _ _ (if (((D7 items.size 0 lo):Int)==0&&1==1&&(D7 items.size items.size b-D7 items.size 0 lo)==items.size)=Uf then _ else _) _ _ s
 rw[b0 f,RN];first
  |exact c5 (iL (i5 ⟨_,rfl,i5 h⟩) a)
  |exact c5 (iL (c5 (i5 (i5 ⟨_,rfl,i5 h⟩))) a)
  |exact c5 (c5 (iL (i5 (i5 ⟨_,rfl,i5 h⟩)) a))
  |exact c5 (c5 (iL (i5 ⟨_,rfl,i5 h⟩) a))
end
end HT
namespace L2
open PySem PySem.Spec PyProof.Rows
abbrev TO:=St->Hp->(Option Int->Hp->Prop)->Prop
def PO(X:Cx)(e:Option Expr)(t:TO):Prop :=
 ∀(pins:List (Addr×Obj)) (s:b9) (σ:St) (H:Hp) (Q:Option Int->Hp->Prop),Inv X pins σ H s->t σ H Q ->
  wpAny (model X.prog X.w) X.A (evalPart e X.env) (λu s'=>∃o H',Inv X pins σ H' s'/\eI u o/\Q o H') X.xe s
def Gz:TO:=λ_ H Q=>Q J H
def Ux(t:TE):TO:=λσ H Q=>t σ H λx H1=>∃i,x=.int i/\Q (U i) H1
def intsAre_of{ns:List Int}:∀{us:List a9},Vals (ns.map V.int) us->aZ us ns:=by
 induction ns with
 |nil=>intro us r;rw[oO]at r;cases r;exact .nil
 |cons n ns b =>
  intro us r;cases r with
  |cons c a =>
   obtain⟨t,e⟩:=c;subst e;exact .cons n t (b a)
section
variable{X:Cx}{e:Expr}{te:TE}{lo hi:Option Expr}{tl th:TO}{pos p2:Pos}
def Wx:PO X J Gz:=by exact λa s b H Q I h=>i5 ⟨J,H,I,.none,h⟩
def Ww(h:PE X e te):PO X (U e) (Ux te):=by
 intro a s d H Q I b;refine t9 (h a s d H _ I b) λu k ⟨x,f,g,c,j⟩=>?_;obtain⟨i,rfl,q⟩:=j;obtain⟨t,rfl⟩:=c;exact⟨U i,f,g,.int i t,q⟩
def uu(X:Cx)(r:V->Option Int->Option Int->Hp->VK->Prop):Prop :=
 ∀(pins:List (Addr×Obj)) (s:b9) (σ:St) (H:Hp) (x:V) (v vl vu:a9) (lo hi:Option Int) (sl:Addr) (Q:VK),Inv X pins σ H s->RelV x v->s.heap.IsSliceOf sl vl vu .none->eI vl lo->eI vu hi->r x lo hi H Q ->
  ∃T id,lE (.type T) "__getitem__" = pure (U (.builtin id))/\s.TypeIs v T/\wpAny (model X.prog X.w) X.A (eJ v (.ref sl)) (EP X pins σ Q) X.xe s
def uu.or{r c:V->Option Int->Option Int->Hp->VK->Prop}(h:uu X r)(h':uu X c):uu X (λx lo b H Q=>r x lo b H Q\/c x lo b H Q):=by
 intro a s f H x v i e lo b k Q I g j d l q;rcases q with q|q
 exact h a s f H x v i e lo b k Q I g j d l q;exact h' a s f H x v i e lo b k Q I g j d l q
def tSl(r:V->Option Int->Option Int->Hp->VK->Prop)(te:TE)(tl th:TO):TE:=λσ H Q=>te σ H λx H1=>tl σ H1 λl H2=>th σ H2 λu H3=>r x l u H3 Q
def RR{r:V->Option Int->Option Int->Hp->VK->Prop}(F:uu X r)(D:PE X e te)(n:PO X lo tl)(y:PO X hi th):PE X (.Subscript e (.Slice lo hi J p2) pos) (tSl r te tl th):=by
 intro a s d H Q I h;refine Subscript_ (t9 (D a s d H _ I h) λv o ⟨x,L,t,G,M⟩=>?_);refine wpAny_Slice (t9 (n a o d L _ t M) λg E ⟨l,z,m,B,q2⟩=>t9 (y a E d z _ m q2) λf c ⟨u,i,O,N,k⟩=>?_);refine i5 ?_;have C:Inv X a d i {c with heap:=c.heap.push {cls:=.type "slice",data:=.fields #[g,f,.none]}}:=O.kept λb P q=>s9 _ q;obtain⟨T,R,p,j,K⟩:=F a {c with heap:=c.heap.push {cls:=.type "slice",data:=.fields #[g,f,.none]}} d i x v g f l u (hz c) Q C G (Heap.IsSliceOf.new ..) B N k;exact tail_any j p K (by with_unfolding_all rfl)
def qg(xs:List V)(lo hi:Option Int):List V:=(xs.drop (HT.D7 xs.length 0 lo)).take (HT.D7 xs.length xs.length hi-HT.D7 xs.length 0 lo)
def uq(xs:List V)(lo a:Option Int):(qg xs lo a).length<=xs.length:=by delta qg;rw[pd,Ed];exact i0 (Ec _ _) (xg _ _)
def a2W(K:d2):V->Option Int->Option Int->Hp->VK->Prop:=λx lo hi H Q=>∃a xs,x=.ref a/\O0 K H a xs /\
 ¬(HT.D7 xs.length 0 lo=0/\HT.D7 xs.length xs.length hi=xs.length)/\∀p,H p=J->Q (.ref p) (upd H p (.tup (qg xs lo hi)))
def Yz:uu X (a2W X.K):=by
 intro k s y H x v A w e f B Q I p t l u h;obtain⟨a,d,rfl,n,m,q⟩:=h;cases p;obtain⟨g,r,i,j⟩:=I.tuple n;have c:g.toArray.size=d.length:=by rw[M3];exact r.length.symm
 refine⟨"tuple",_,PyProof.Rows.slot_tuple_getitem.lookup,i.typeIs,?_⟩;refine HT.ua i t l u (by rw[c];exact m) ?_ (by rw[c];exact j);rw[c];refine⟨.ref s.heap.objs.size,_,I.laid (λb z q=>s9 _ q) o6 ?_,rfl,q _ (I.x5.fresh o6)⟩;exact⟨i0 (uq d e f) j,_,(r.drop (HT.D7 d.length 0 e)).take (HT.D7 d.length d.length f-HT.D7 d.length 0 e),Dh _ _⟩
def YU(K:d2):R2:=λx y H Q=>∃a b ns ms,x=.ref a/\y=.ref b/\O0 K H a (ns.map V.int)/\O0 K H b (ms.map V.int)/\Q (.bl (HT.lexLt ns ms)) H
def ZS(f:X.A.units<G8):O9 X (V7 .Lt) (YU X.K):=by intro d s t H x y v u Q I l k h;obtain⟨a,b,i,r,rfl,rfl,p,n,q⟩:=h;cases l;cases k;obtain⟨o,j,g,_⟩:=I.tuple p;obtain⟨c,e,m,_⟩:=I.tuple n;exact HT.Jt g m (intsAre_of j) (intsAre_of e) f ⟨.bl (HT.lexLt i r),H,I,rfl,q⟩
def a1v(K:d2):R2:=λx y H Q=>∃a b xs ys,x=.ref a/\y=.ref b/\O0 K H a xs/\O0 K H b ys/\xs≠[]/\xs.length+ys.length<=p8 /\
 (ys=[]->Q (.ref a) H)/\(ys≠[]->∀p,H p=J->Q (.ref p) (upd H p (.tup (xs++ys))))
def Vals.tw{xs:List V}{us:List a9}(r:Vals xs us):us=[]↔xs=[]:=by
 cases r with
 |nil=>simp
 |cons _ _=>simp
def WR:O9 X (Q3 .Add) (a1v X.K):=by
 intro g s t H x y v u Q I k m h;obtain⟨a,b,B,C,rfl,rfl,r,o,j,f,n,q2⟩:=h;cases k;cases m;obtain⟨p,d,i,_⟩:=I.tuple r;obtain⟨e,c,l,_⟩:=I.tuple o;refine HT.XA i l (λz=>j (d.tw.mp z)) (λz=>⟨.ref a,H,I,rfl,n (c.tw.mp z)⟩) (λz=>?_) (by rw[<-d.length,<-c.length];exact f);refine⟨.ref s.heap.objs.size,_,I.laid (λb A q=>s9 _ q) o6 ?_,rfl,q2 (λw=>z (c.tw.mpr w)) _ (I.x5.fresh o6)⟩;exact⟨by rw[U6];exact f,_,d.append c,Dh _ _⟩
end
section
variable{pins:List (Addr×Obj)}{H:Hp}
noncomputable def gy(n:Nat)(i:Int):Option Nat:=if 0<=i then(if i<n then U i.toNat else J)else if -(n:Int)<=i then U (i+n).toNat else J
def R7{α:Type}(xs:List α)(i:Int):Option α:=(gy xs.length i).bind λj=>xs[j]?
def HH{n:Nat}{i:Int}{j:Nat}(h:gy n i=U j):seqIndex? i n=U j/\j<n/\-(n:Int)<=i/\i<n:=by
 unfold gy at h;by_cases b:0<=i;rw[b3 b]at h;by_cases a:i<n;rw[b3 a]at h;exact⟨by rw[seqIndex_of b a,(L1 h)],by lia,by lia,a⟩;rw[b0 a]at h;exact nE h;rw[b0 b]at h;by_cases a : -n<=i;rw[b3 a]at h;exact⟨by rw[Dv (Int.not_le.1 c6) a,(L1 h)],by lia,a,by lia⟩;rw[b0 a]at h;exact nE h
def ze{a:Type}{xs:List a}{i:Int}{v:a}(h:R7 xs i=U v):∃j,seqIndex? i xs.length=U j/\xs[j]? = U v/\j<xs.length/\-(xs.length:Int)<=i/\i<xs.length:=by unfold R7 at h;obtain⟨j,e,h⟩:=b5 h;obtain⟨d,b,c,f⟩:=HH e;exact⟨j,d,h,b,c,f⟩
def iG(b:Expr):Prop:=∀o i,subscripted b U' o i=operate [o,i] (eJ o i)
def uB(X:Cx)(r:R2):Prop :=
 ∀(value slice:Expr) (pins:List (Addr×Obj)) (s:b9) (σ:St) (H:Hp) (x y:V) (v u:a9) (Q:VK),Inv X pins σ H s->RelV x v->RelV y u->r x y H Q ->
  subscripted slice U' v u=operate [v,u] (eJ v u)->wpAny (model X.prog X.w) X.A (subscriptTail value slice v u) (EP X pins σ Q) X.xe s
def NZ(X:Cx)(id:String)(r:V->List V->Hp->VK->Prop):Prop :=
 ∀(pins:List (Addr×Obj)) (s:b9) (σ:St) (H:Hp) (x:V) (xs:List V) (v:a9) (us:List a9) (Q:VK),Inv X pins σ H s->RelV x v->Vals xs us->r x xs H Q ->
  wpAny (model X.prog X.w) X.A (call (.builtin id) (v::us)) (EP X pins σ Q) X.xe s
section
variable{X:Cx}{a b:Expr}{ta tb:TE}{pos:Pos}
def uB.or{r d:R2}(h:uB X r)(h':uB X d):uB X (λx y H Q=>r x y H Q\/d x y H Q):=by
 intro b a c s f H x y v u Q I g e q i;rcases q with q|q
 exact h b a c s f H x y v u Q I g e q i;exact h' b a c s f H x y v u Q I g e q i
def AL{r:R2}(f:uB X r)(m:PE X a ta)(l:PE X b tb)(hs:iG b):PE X (.Subscript a b pos) (mw r ta tb):=by exact λc s j H Q I h=>Subscript_ (TU m l I h λv u e x y d g k i q=>f a b c e j d x y v u Q g k i q (hs _ _))
def YY(K:d2):R2:=λx y H Q=>∃p xs i v,x=.ref p/\y=.int i/\D5 K H p xs/\R7 xs i=U v/\Q v H
def YW(K:d2):R2:=λx y H Q=>∃p xs i v,x=.ref p/\y=.int i/\O0 K H p xs/\R7 xs i=U v/\Q v H
def YX:R2:=λx y H Q=>∃z i c,x=.str z/\y=.int i/\z.length<=p8/\R7 z.cps.toList i=U c/\Q (.str ⟨#[c]⟩) H
def Xo:uB X (YY X.K):=by
 intro e k a s n H x y v u Q I D L h o;obtain⟨p,R,i,z,rfl,rfl,hq,F,q⟩:=h;cases D;obtain⟨t,rfl⟩:=L;obtain⟨l,r,f,O⟩:=I.list hq;obtain⟨j,c,C,P,G,E⟩:=ze F;obtain⟨w,A,g⟩:=r.get C;have B:=r.length;have:=oe;have b:EP X a n Q w s:=⟨z,H,I,g,q⟩;by_cases m:0<=i
 . have d:i.toNat=j:=by rw[seqIndex_of m E]at c;exact L1 c
   exact item_listR f.isList m b6 (by rw[d];simpa using A) b o
 . have d:(i+l.toArray.size).toNat=j:=by rw[Dv (Int.not_le.1 c6) G]at c;rw[M3,<-B];exact L1 c
   exact Pf f.isList.typeIs slot_list_getitem.lookup
    (wpAny_getItem_list_neg f.isList (Int.not_le.1 c6) (by rw[M3]<;>simp_all) b6 (by rw[d];simpa using A) ⟨rfl,b⟩) o
def a0r:uB X (YW X.K):=by
 intro a c d s C H x y v u Q I g l h n;obtain⟨p,G,i,z,rfl,rfl,hq,k,q⟩:=h;cases g;obtain⟨t,rfl⟩:=l;obtain⟨o,r,e,B⟩:=I.tuple hq;obtain⟨j,m,f,D,F,E⟩:=ze k;obtain⟨w,A,b⟩:=r.get f;have:=oe;exact Pf e.typeIs slot_tuple_getitem.lookup
  (getItem_tuple e b6 b6 (by rw[M3,<-r.length];exact m) (by simpa using A) ⟨rfl,(⟨z,H,I,b,q⟩)⟩) n
def a0t:uB X YX:=by
 intro a b d s C H x y v u Q I k p h w;obtain⟨z,i,c,rfl,rfl,B,n,q⟩:=h;obtain⟨t,rfl⟩:=k;obtain⟨D,rfl⟩:=p;obtain⟨j,e,g,E,o,l⟩:=ze n;have f:z.cps.toList.length=z.length:=by simp[Str.length]
 rw[f]at e o l;have:=oe;exact tail_any (typeIs_str s z t) slot_str_getitem.lookup (getItem_str (by have r:decide (i < -(2 ^ 63))=U':=U4 b6;have m:decide (i>=2 ^ 63)=U':=U4 b6;rw[r,m,Bool.or_false]) (by rw[e];simpa using g) ⟨.str ⟨#[c]⟩,H,I.tok _,⟨_,rfl⟩,q⟩) w
def zv(K:d2):R2:=λx y H Q=>YY K x y H Q\/YW K x y H Q\/YX x y H Q
def wj:uB X (zv X.K):=Xo.or (a0r.or a0t)
def Jq(a:List a9)(n j:Nat)(u:a9):gO (·.setIfInBounds j u) {cls:=.type "list",data:=.seq a.toArray n}={cls:=.type "list",data:=.seq (a.set j u).toArray n}:=by simp[gO]
theorem Inv.lst{pins:List (Addr×Obj)}{b:St}{H:Hp}{s:b9}{p:Addr}{xs:List V}(I:Inv X pins b H s)(h:H p=U (.lst xs)):
  ∃(a:List a9) (n:Nat),Vals xs a/\s.heap.get? p=U {cls:=.type "list",data:=.seq a.toArray n}/\xs.length<=p8:=by obtain⟨z,a,n,r,e⟩:=I.x5 p _ h;exact⟨a,n,r,e,z⟩
def Inv.a0h{d:St}{s:b9}{p:Addr}{xs ys:List V}{a its':List a9}{n c:Nat}{f:Obj->Obj}(I:Inv X pins d H s)(h:H p=U (.lst xs))(i:s.heap.get? p=U {cls:=.type "list",data:=.seq a.toArray n})(g:f {cls:=.type "list",data:=.seq a.toArray n}={cls:=.type "list",data:=.seq its'.toArray c})(r:Vals ys its')(hz:ys.length<=p8)(t:Nat):
  Inv X pins d (upd H p (.lst ys)) {s with heap:=s.heap.update p f,toks:=t}:=by
 have e:(s.heap.update p f).get? p=U {cls:=.type "list",data:=.seq its'.toArray c}:=by rw[ma f i (by rw[g]<;>rfl),g]
 refine I.write (by rw[h];trivial) (.inl rfl) (λb u j q=>(md _ _ (ay j)).trans q) ⟨_,e⟩ ?_;exact⟨hz,its',c,r,e⟩
def AJ:V->V->V->Hp->(Hp->Prop)->Prop:=λo i v H Q=>∃p xs k j,o=.ref p/\i=.int k/\H p=U (.lst xs)/\gy xs.length k=U j/\Q (upd H p (.lst (xs.set j v)))
def set_list:a0X X AJ:=by
 intro a s B H o i v L G u Q I A D C h;obtain⟨p,E,k,j,rfl,rfl,w,y,q⟩:=h;cases A;obtain⟨t,rfl⟩:=D;obtain⟨b,n,r,d,z⟩:=I.lst w;obtain⟨c,K,m,x⟩:=HH y;have e:=r.length;have:=oe;have l:Inv X a B (upd H p (.lst (E.set j v))) {s with heap:=s.heap.update p (gO (·.setIfInBounds j u))} :=
  I.a0h w d (Jq b n j u) (r.set C j) (by rw[Oh];exact z) s.toks
 by_cases g:0<=k
 . have f:k.toNat=j:=by rw[seqIndex_of g x]at c;exact L1 c
   exact PySem.W.ki_setAt d g b6 (by rw[M3,<-e];exact x) (by rw[f];exact⟨_,l,q⟩)
 . have f:(k+b.toArray.size).toNat=j:=by rw[Dv (Int.not_le.1 c6) m]at c;rw[M3,<-e];exact L1 c
   exact PySem.W.ki_setBack d (Int.not_le.1 c6) (by rw[M3,<-e];exact m) b6 (by rw[f];exact⟨_,l,q⟩)
def Bl(lo a:Option Int)(n:Nat):(lG lo a J n).1=((HT.D7 n 0 lo:Nat):Int)/\(lG lo a J n).2.1=((HT.D7 n n a:Nat):Int)/\(lG lo a J n).2.2=1:=by
 refine⟨?_,?_,rfl⟩
 . cases lo with
   |none=>simp[lG,HT.D7]
   |some i =>
    simp only[lG,HT.D7,Ou];by_cases h:i<0
    . simp only[h]<;>lia
    . simp only[h]<;>lia
 . cases a with
   |none=>simp[lG,HT.D7]
   |some i =>
    simp only[lG,HT.D7,Ou];by_cases h:i<0
    . simp only[h]<;>lia
    . simp only[h]<;>lia
def Ac(a:List a9)(lo b:Option Int):slicePick a.toArray lo b J=((a.drop (HT.D7 a.length 0 lo)).take (HT.D7 a.length a.length b-HT.D7 a.length 0 lo)).toArray:=by obtain⟨e,c,d⟩:=Bl lo b a.toArray.size;delta slicePick;rw[e,c,d];simp only[sliceRange_one,pick_run]<;>rfl
def YS(K:d2):V->Option Int->Option Int->Hp->VK->Prop:=λx lo hi H Q=>∃a xs,x=.ref a/\D5 K H a xs/\∀p,H p=J->Q (.ref p) (upd H p (.lst (qg xs lo hi)))
def VI:uu X (YS X.K):=by
 intro i s w H x v z u e f A Q I n p j t h;obtain⟨a,c,rfl,k,q⟩:=h;cases n;obtain⟨l,r,g,m⟩:=I.list k;have d:=r.length;refine⟨"list",_,slot_list_getitem.lookup,g.isList.typeIs,?_⟩;refine wpAny_getItem_list_slice g.isList p j t .none i9 ?_ (by rw[M3]<;>simp_all);rw[Ac,<-d];refine⟨.ref s.heap.objs.size,_,I.laid (λb y q=>s9 _ q) o6 ?_,rfl,q _ (I.x5.fresh o6)⟩;exact⟨i0 (uq c e f) m,_,0,(r.drop (HT.D7 c.length 0 e)).take (HT.D7 c.length c.length f-HT.D7 c.length 0 e),J4 _ rfl⟩
def CW:bQ X (.builtin "len") (λxs H Q=>∃p ys,xs=[.ref p]/\(D5 X.K H p ys\/O0 X.K H p ys)/\Q (.int ys.length) H):=by
 intro e s j H xs k Q I r h;obtain⟨p,ys,rfl,hq,q⟩:=h;obtain⟨u,rfl,g⟩:=vals1 r;cases g;have:=oe;rcases hq with hq|hq
 obtain⟨d,b,c,f⟩:=I.list hq;have a:=b.length;exact Calls.call_len_list c.isList (by simp only[M3]<;>lia) ⟨.int ys.length,H,I.tok _,⟨s.toks+1,by rw[M3,a]⟩,q⟩;obtain⟨d,b,c,f⟩:=I.tuple hq;have a:=b.length;exact len_tuple c (by simp only[M3]<;>lia) ⟨.int ys.length,H,I.tok _,⟨s.toks+1,by rw[M3,a]⟩,q⟩
def CV:bQ X (.builtin "len") (λxs H Q=>∃z,xs=[.str z]/\z.length<=p8/\Q (.int z.length) H):=by intro a s d H xs e Q I r h;obtain⟨z,rfl,c,q⟩:=h;obtain⟨u,rfl,t,rfl⟩:=vals1 r;have:=oe;exact len_str b6 ⟨.int z.length,H,I.tok _,⟨_,rfl⟩,q⟩
def bQ.or{f:a9}{r c:List V->Hp->VK->Prop}(h:bQ X f r)(h':bQ X f c):bQ X f (λxs H Q=>r xs H Q\/c xs H Q):=by
 intro a s b H xs e Q I d q;rcases q with q|q
 exact h a s b H xs e Q I d q;exact h' a s b H xs e Q I d q
def CU:bQ X (.type "list") (λxs H Q=>∃p ys,xs=[.ref p]/\(D5 X.K H p ys\/O0 X.K H p ys)/\∀l,H l=J->Q (.ref l) (upd H l (.lst ys))):=by
 intro k s A H xs C Q I r h;obtain⟨p,ys,rfl,hq,q⟩:=h;obtain⟨u,rfl,B⟩:=vals1 r;cases B;have m:∀a,Vals ys a->ys.length<=p8->∀c d,(∀b z,s.heap.get? b=U z->c.get? b=U z) ->
   c.get? s.heap.objs.size=U {cls:=.type "list",dict:=J,data:=.seq a.toArray d,slots:=#[]}->EP X k A Q (.ref s.heap.objs.size) {s with heap:=c}:=λa f i c d j e =>
  ⟨.ref s.heap.objs.size,_,I.laid j o6 (show P9 X.prog X.w _ c _ (.lst ys)from⟨i,a,d,f,e⟩),rfl,q _ (I.x5.fresh o6)⟩
 rcases hq with hq|hq
 obtain⟨a,f,x,i⟩:=I.list hq;have:=f.length;obtain⟨o,v,y,n,t⟩:=x.isList;exact call_list_seq p (.inl rfl) v y t (λc d j e=>m a f i c d j e) (by simp only[M3]<;>simp_all);obtain⟨a,f,x,i⟩:=I.tuple hq;have:=f.length;obtain⟨o,v,y,n,t⟩:=x;exact call_list_seq p (.inr rfl) v y t (λc d j e=>m a f i c d j e) (by simp only[M3]<;>simp_all)
def AB:bQ X (.type "tuple") (λxs H Q=>∃p ys,xs=[.ref p]/\((D5 X.K H p ys/\∀l,H l=J->Q (.ref l) (upd H l (.tup ys)))\/(O0 X.K H p ys/\Q (.ref p) H))):=by
 intro a s k H xs x Q I r h;obtain⟨p,ys,rfl,h⟩:=h;obtain⟨u,rfl,t⟩:=vals1 r;cases t;rcases h with ⟨hq,q⟩|⟨hq,q⟩
 . obtain⟨c,f,g,j⟩:=I.list hq;have:=f.length;refine call_tuple_list g.isList (λd v=>?_) (by simp only[M3]<;>simp_all);have m:Inv X a k H {s with heap:=d}:=I.kept v
   have n:Inv X a k (upd H d.objs.size (.tup ys)) {s with heap:=d.push {cls:=.type "tuple",data:=.seq c.toArray}} :=
    m.laid (λb o e=>s9 _ e) o6 (show P9 X.prog X.w _ _ _ (.tup ys)from⟨j,c,f,Dh _ _⟩)
   exact⟨.ref d.objs.size,_,n,rfl,q _ (m.x5.fresh o6)⟩
 obtain⟨c,f,g,j⟩:=I.tuple hq;exact call_tuple_same g ⟨.ref p,H,I,rfl,q⟩
def Yk(K:d2)(T:String)(x:V)(H:Hp):Prop:=match x with
 | .str _=>T = "str"
 | .int _=>T = "int"
 | .ref p=>(T = "list"/\∃xs,D5 K H p xs)\/(T = "tuple"/\∃o,K.lookup p=U o/\o.cls=.type "tuple"/\o.dict=J) \/
   (T = "dict"/\((∃kvs,H p=U (.dK kvs))\/∃kvs,H p=U (.dT kvs)))\/(T = "set"/\∃S n,H p=U (.set S n))
 |_=>False
def Kw{k:St}{s:b9}{T:String}{x:V}{v:a9}(I:Inv X pins k H s)(r:RelV x v)(ty:Yk X.K T x H):
  s.TypeIs v T/\∀a,v=.ref a->∃ob,s.heap.get? a=U ob/\ob.dict=J:=by
 cases x with
 |str z =>
  obtain⟨t,rfl⟩:=r;cases(show T = "str" from ty);exact⟨typeIs_str s z t,λ_ e=>nomatch e⟩
 |int i =>
  obtain⟨t,rfl⟩:=r;cases(show T = "int" from ty);exact⟨typeIs_int s i t,λ_ e=>nomatch e⟩
 |ref p =>
  cases r;rcases ty with ⟨rfl,q,hq⟩|⟨rfl,o,b,l,f⟩|⟨rfl,b⟩|⟨rfl,S,n,b⟩
  obtain⟨m,_,j,_⟩:=I.list hq;refine⟨j.isList.typeIs,λa e=>?_⟩;cases e;obtain⟨o,n,e,c,f,_⟩:=j;exact⟨o,e,f⟩;refine⟨⟨o,I.mM p o b,l⟩,λa e=>?_⟩;cases e;exact⟨o,I.mM _ o b,f⟩
  . have z:∃o,s.heap.get? p=U o/\o.ExactDict:=by
      rcases b with ⟨g,b⟩|⟨g,b⟩
      obtain⟨_,_,_,_,o,_,_,e,d,_⟩:=I.x5 p _ b;exact⟨o,e,d⟩;obtain⟨_,_,_,_,o,_,_,e,d,_⟩:=I.x5 p _ b;exact⟨o,e,d⟩
    obtain⟨o,e,d⟩:=z;refine⟨⟨o,e,d.1⟩,λa h=>?_⟩;cases h;exact⟨o,e,d.2.1⟩
  obtain⟨o,_,_,_,e,d,_⟩:=I.x5 p _ b;refine⟨⟨o,e,d.1⟩,λa h=>?_⟩;cases h;exact⟨o,e,d.2.1⟩
 |_=>exact bh ty
def Yv(K:d2)(T:String)(r:V->List V->Hp->VK->Prop)(to:TE):TE:=λσ H Q=>to σ H λx H1=>Yk K T x H1/\r x [] H1 Q
def GA(K:d2)(T:String)(r:V->List V->Hp->VK->Prop)(to:TE)(t:TA):TE:=λσ H Q=>to σ H λx H1=>Yk K T x H1/\t σ H1 λxs H2=>r x xs H2 Q
variable{o e:Expr}{es:List Expr}{to:TE}{t:TA}{name:Str}{apos cpos:Pos}{T id:String}{r:V->List V->Hp->VK->Prop}
def ZJ(k:PlainAttrs T)(slot:Slot T name id)(d:typeOf (.builtin id)=pure (.type "method_descriptor"))(i:NZ X id r)(j:PE X o to)(b:autoParam (U3 o name X.env (eval o X.env)=eval o X.env) d3._auto_1)(c:autoParam ((apos.endLine==cpos.line)=Uf) d3._auto_1):PE X (.Call (.Attribute o name apos) [] [] cpos) (Yv X.K T r to):=by
 intro a s f H Q I h;refine wpAny_Call_method0_late b c (t9 (j a s f H _ I h) λv m ⟨x,p,g,e,t,q⟩=>?_);obtain⟨n,l⟩:=Kw g e t;exact⟨T,id,k,slot,d,n,l,EA rfl (PySem.evalArgs_none (i a m f p x [] v [] Q g e .nil q))⟩
def vT (u:PlainAttrs T) (slot:Slot T name id) (i:typeOf (.builtin id)=pure (.type "method_descriptor")) (C:NZ X id r) (n:PE X o to) (M:PA X (e::es) t) (f:autoParam (U3 o name X.env (eval o X.env)=eval o X.env) d3._auto_1) (g:autoParam (((p5 cpos (e8 (e::es) X.env)).all (λx=>!x.1)&&(Z0 cpos (bL [] X.env)).all (λx=>x.1.isSome)
   && decide ((e::es).length+([]:List T3).length+(if ([]:List T3).isEmpty then 0 else 1)<30))=Uf) d3._auto_1)
  (d:autoParam ((apos.endLine==cpos.line)=Uf) d3._auto_1) (hs:autoParam (e8 (e::es) X.env=(U',eval e X.env)::e8 es X.env) d3._auto_1) (c:autoParam ((p5 cpos (e8 es X.env)).any (·.1)=U') d3._auto_1) :
  PE X (.Call (.Attribute o name apos) (e::es) [] cpos) (GA X.K T r to t):=by
 intro b s j H Q I h;refine wpAny_Call_method_late f g d rfl (t9 (n b s j H _ I h) λv y ⟨x,G,k,m,A,L⟩=>?_);obtain⟨F,w⟩:=Kw k m A;refine⟨T,id,u,slot,i,F,w,?_⟩;have l:=M cpos b y j G _ k L;rw[hs]at l ⊢;refine EA (by show(U'||(p5 cpos (e8 es X.env)).any (·.1))=U';rw[c]<;>rfl) (OX ?_);exact t9 l λz E ⟨q,D,p,B,q2⟩=>C b E j D x q v z Q p m B q2
/- xs.append(e),list.index on a module's tuple .. are NZ facts of 06m -/
end
end
section
variable{us a its':List a9}{t':Nat}
def MtM(X:Cx)(id:String)(r:V->List V->Hp->VK->Prop):Prop :=
 ∀(pins:List (Addr×Obj)) (s:b9) (σ:St) (H:Hp) (x:V) (xs:List V) (v:a9) (us:List a9) (Q:VK),Inv X pins σ H s->RelV x v->Vals xs us->r x xs H Q ->
  wpAny (model X.prog X.w) X.A (call (.builtin id) (v::us)) (EP X pins σ Q) X.xe s
def Vals.one{x:V}(h:Vals [x] us):∃u,us=[u]/\RelV x u:=by
 cases h with
 |cons r t=>cases t;exact⟨_,rfl,r⟩
def Vals.zero:∀{us:List a9},Vals [] us->us=[]
 |_,.nil=>rfl
theorem Vals.reverse{xs:List V}{us:List a9}(h:Vals xs us):Vals xs.reverse us.reverse:=by
 induction h with
 |nil=>exact .nil
 |cons r t a=>rw[xM,xM];exact Vals.append a (.cons r .nil)
section
variable{X:Cx}{pins:List (Addr×Obj)}{σ:St}{H:Hp}{s:b9}{l b:Addr}{xs ys zs:List V}
def Inv.SQ{n:Nat}{f:Array a9->Array a9}(I:Inv X pins σ H s)(d:H l=U (.lst xs))(e:s.heap.get? l=U {cls:=.type "list",data:=.seq a.toArray n})(g:f a.toArray=its'.toArray)(c:Vals ys its')(hz:ys.length<=p8):
  Inv X pins σ (upd H l (.lst ys)) {s with heap:=s.heap.update l (gO f),toks:=t'}:=by
 have q:=PySem.IsL.update e f;rw[g]at q;refine I.write (by rw[d];exact trivial) (.inl rfl) (λi u h b=>(md s.heap (gO f) (ay h)).trans b) ⟨_,q⟩ ?_;exact⟨hz,its',_,c,q⟩
def Inv.a0i(I:Inv X pins σ H s)(b:Vals ys a)(hz:ys.length<=p8):
  Inv X pins σ (upd H s.heap.objs.size (.lst ys)) {s with heap:=s.heap.push {cls:=.type "list",data:=.seq a.toArray},toks:=t'} :=
 I.laid (λ_ _ q=>s9 _ q) o6 ⟨hz,a,0,b,J4 _ rfl⟩
theorem Inv.fresh(I:Inv X pins σ H s):H (hz s)=J:=I.x5.fresh o6
def Inv.Ju(I:Inv X pins σ H s)(b:H l=U (.lst xs)):xs.length<=p8/\∃(a:List a9) (n:Nat),Vals xs a/\xs.length=a.length/\s.heap.get? l=U {cls:=.type "list",data:=.seq a.toArray n}:=by obtain⟨z,a,n,r,e⟩:=I.x5 l _ b;exact⟨z,a,n,r,r.length,e⟩
def Sv{n:Nat}(h:n<=p8):sL n=U':=by exact U4 j1
end
section
variable{X:Cx}
def yl:V->List V->Hp->VK->Prop:=λx vs H Q=>∃l xs y,x=.ref l/\vs=[y]/\H l=U (.lst xs)/\xs.length<p8/\Q .non (upd H l (.lst (xs++[y])))
def zA:MtM X "list.append" yl:=by
 intro c s k H x j v p Q I f d h;obtain⟨l,o,y,rfl,rfl,b,i,q⟩:=h;cases f;obtain⟨u,rfl,g⟩:=d.one;obtain⟨z,a,n,r,m,e⟩:=I.Ju b;refine js F.slot_list_append ⟨_,e,rfl⟩ F.entry_list_append (F.args_list_append_2 _ _) (PySem.list_append l a.toArray n u (by rw[M3];simp_all)) ⟨e,?_⟩;refine⟨.non,_,I.SQ b e i9 (r.append (.cons g .nil)) ?_,rfl,q⟩;rw[U6,Ew];exact c6
def GV:V->List V->Hp->VK->Prop:=λx vs H Q=>∃l b xs zs,x=.ref l/\vs=[.ref b]/\H l=U (.lst xs)/\H b=U (.lst zs)/\xs.length+zs.length<=p8/\Q .non (upd H l (.lst (xs++zs)))
def Mt:MtM X "list.extend" GV:=by
 intro g s E H x C v G Q I k w h;obtain⟨l,b,L,A,rfl,rfl,i,j,B,q⟩:=h;cases k;obtain⟨u,rfl,o⟩:=w.one;cases o;obtain⟨z,c,n,r,D,e⟩:=I.Ju i;obtain⟨K,a,m,t,y,p⟩:=I.Ju j;have f:c.toArray.size+a.toArray.size<=p8:=by rw[M3,M3];simp_all
 have d:¬(!c.toArray.isEmpty&&sL (c.toArray.size+a.toArray.size))=Uf:=by rw[Sv f,Bool.and_false];exact ax
 refine js F.slot_list_extend ⟨_,e,rfl⟩ F.entry_list_extend (F.args_list_extend_2 _ _)
  (AutoSeq1.list_extend_list_list_0 l c.toArray n b a.toArray m d (by rw[M3];exact i0 (U5 _ _) c6) (ph c6)) ⟨e,p,?_⟩
 refine⟨.non,_,I.SQ i e i9 (r.append t) ?_,rfl,q⟩;rw[U6];omega
def By:V->List V->Hp->VK->Prop:=λx vs H Q=>∃l xs,x=.ref l/\vs=[]/\H l=U (.lst xs)/\Q .non (upd H l (.lst xs.reverse))
def Jm:MtM X "list.reverse" By:=by
 intro d s k H x j v o Q I g f h;obtain⟨l,m,rfl,rfl,c,q⟩:=h;cases g;have b:=f.zero;subst b;obtain⟨z,a,n,r,i,e⟩:=I.Ju c;refine js F.slot_list_reverse ⟨_,e,rfl⟩ F.entry_list_reverse (F.args_list_reverse_1 _) (AutoSeq1.list_reverse_list_0 l a.toArray n (by rw[M3];simp_all)) ⟨e,?_⟩;refine⟨.non,_,I.SQ c e i9 r.reverse ?_,rfl,q⟩;rw[kq];omega
end
section
variable{prog:n9}{w:k7}{A:t6}{E:a9->b9->Prop}{s:b9}
end
section
variable{X:Cx}
end
end
end L2
namespace Att
open PySem PySem.W PySem.Calls PyProof.Rows
def wm{P:Params}{h:Heap}:∀(ns:List Int) (vs:List a9),WellAll P h vs (ns.map WData.int)->aZ vs ns:=by
 intro ns;induction ns with
 |nil =>
  intro vs w;cases w;exact .nil
 |cons n ns c =>
  intro vs w;cases w with
  |cons a b =>
   cases a;exact .cons _ _ (c _ b)
def La{l:OpenLaw}{n:Nat}(o:l.most=U n){P:Params}{h:Heap}{args:List WData}{b:List a9}(c:l.row.toRowW.claim.pre args=Uf)(j:WellAll P h b args):
  ∃a vs ns,b=[V3 a]/\args=[WData.list (ns.map WData.int)]/\h.get? a=U {cls:=.type "list",data:=.seq vs.toArray}/\aZ vs ns/\ns.length<=n:=by
 obtain⟨d,r,rfl,x,s⟩:=hasAllW_cons ((pre_splitW c).1);obtain rfl:=hasAllW_nil s;obtain⟨y,rfl,u⟩:=hasW_list x;obtain⟨ns,rfl⟩:=items_int u;have e:ns.length<=n:=by
  have i:(WTm.not (.lt (.lit (.int n)) (.len (.arg 0)))).holds [] {args:=[.list (ns.map .int)]}=Uf:=by have i:=(holds_andW ((pre_splitW c).2)).1;rw[o]at i;exact i
  have g:=condW_of i (w_not (w_lt w_lit (w_len_list (w_arg rfl))));refine lO λq=>?_
  first
   |(rw[dg t]at g;exact absurd g a6)
   |(simp at g;lia)
 cases j with
 |cons v w =>
  cases w;cases v with
  |list p f=>exact⟨_,_,ns,rfl,rfl,p,wm ns _ f,e⟩
def LD(l:OpenLaw)(args:List WData):l.row.toRowW.claim.post args (.bool Uf) args=Uf :=
 postW_of
  (show WShape.has [] (.bool Uf) .bool=Uf by first|rfl|decide|simp[WShape.has])
  (show(WTm.eq .res (.lit (.bool Uf))).value [] {args:=args,res:=U (.bool Uf),after:=args}=U (.bool (Uf==Uf))from w_eq_bool (w_res rfl) w_lit) rfl
def Gk {l:OpenLaw} {n:Nat} {q:n9} {b:List Str} {z:(Str->Option a9)->Heap->Prop} {A:k7->Heap->Prop} {d:DefRec} (K:l.most=U n) (p:d.params.defaults=[]) (call:∀(w:k7) (M6 s₁:b9) (mg k:Str->Option a9) (fa:Addr) (o:Obj) (u j e:a9) (a:Addr) (vs:List a9) (ns:List Int),
   Ground q b [] z w M6 mg k s₁.heap->A w s₁.heap ->
   s₁.heap.get? fa=U o->o.data=.func (docDef d.name d.params d.body d.scope u j e)->s₁.heap.CodeRec j d.name->mg d.name=U (.ref fa) ->
   s₁.heap.get? a=U {cls:=.type "list",data:=.seq vs.toArray}->aZ vs ns->ns.length<=n->s₁.gens = #[] ->
   codeAny (model l.prog w) lB (.call (.ref fa) ⟨[.ref a],[]⟩) (λr s'=>r=.ok (.ret (.bool Uf))/\OldK s₁.heap s'.heap/\s'.os=s₁.os/\gM s'.gens) s₁) :
  WalkO q b z A l.row.toRowW d [] (λf vs=>Di f vs):=by
 intro w M6 s₁ mg k G Y fa o u j e O kV B I s hD m F y x N g v M t H;obtain rfl:=Dflts.none hD p;obtain rfl:=Dflts.noKw hD;obtain⟨a,vs,ns,rfl,rfl,h,c,i⟩:=La K g t;refine enter_call (xq (call w M6 s₁ mg k fa o u j e a vs ns G Y B (fd_plain I) s m h c i F) λr s' hq=>?_);obtain⟨rfl,C,D,L⟩:=hq;exact⟨.inl ⟨.bool Uf,.bool Uf,[],rfl,λ_=>rfl,.bool Uf,LD l _,λ_=>⟨List.Pairwise.nil,λ_ E=>(nomatch E)⟩⟩,C,D,L⟩
section
variable{prog:n9}{w:k7}{A:t6}{E:a9->b9->Prop}{s:b9}{K:Frag}
end
end Att
namespace L2
open PySem PySem.Spec PyProof.Rows
section
variable{vs:List a9}{ns:List Int}
def Ko(h:aZ vs ns):Vals (ns.map V.int) vs:=by
 induction h with
 |nil=>exact .nil
 |cons n t _ i=>exact .cons ⟨t,rfl⟩ i
def Ud(H:Hp):Prop:=∀b,H b=J\/∃o xs,H b=U (.bU o (.lst xs))
def SU{P:n9}{w:k7}{K:d2}{mg mb:Str->Option a9}{CX:mn}{k:Nat}{fa a:Addr}{fd:B4}{x:Str}{sp:Sp}{s₁:b9}(KX:K.In s₁.heap)(hns:s₁.heap.Ns L0 mg)(hb:s₁.heap.Ns builtinsNs mb)(hbb:∀x:Str,x ≠ "__name__"->mb x=cC x)(hlim:s₁.heap.NoLimit)(hg:s₁.gens = #[])(ha:s₁.heap.get? a=U {cls:=.type "list",data:=.seq vs.toArray})(hi:aZ vs ns)(hl:ns.length<=p8)(hr:D1 k lB)(F:∀base:Heap,K.In base->base.Ns L0 mg->W4 P w K mg base CX k fa fd [x] sp)(hbind:∀(s:b9) (u:a9),jo s fd ⟨[u],[]⟩ [(x,u)])(hsp:∀H:Hp,Ud H->D5 K H a (ns.map V.int)->sp [.ref a] H (λv _=>v=.bl Uf) λ_ _ _=>False)(hCX:∀H e s',CX [] H s₁ (λ_ _ _=>False) e s'->False):
  codeAny (model P w) lB (.call (.ref fa) ⟨[.ref a],[]⟩) (λr s'=>r=.ok (.ret (.bool Uf))/\OldK s₁.heap s'.heap/\s'.os=s₁.os/\gM s'.gens) s₁:=by
 have rv:=Ko hi;have core:∀H:Hp,Ud H->D5 K H a (ns.map V.int)->v5 P w H s₁.heap->(∀b,H b≠J->b=a)->(H a≠J->K.lookup a=J) ->
   codeAny (model P w) lB (.call (.ref fa) ⟨[.ref a],[]⟩) (λr s'=>r=.ok (.ret (.bool Uf))/\OldK s₁.heap s'.heap/\s'.os=s₁.os/\gM s'.gens) s₁:=by
  intro H hO hS x5 hA hK;have base_of:∀{b:Addr} {o:Obj},s₁.heap.get? b=U o->H b=J->(rK s₁.heap H).get? b=U o:=λe n=>Tg e n
  have noA:∀{b:Addr} {o:Obj} {es:Array DictEntry} {ep:Nat},s₁.heap.get? b=U o->o.data=.dict es ep->H b=J:=λ{b o es ep} e d=>by
   cases q:H b with
   |none=>rfl
   |some u =>
    have e':=hA b (by rw[q];simp);subst e';rw[ha]at e;cases e;cases d
  have nsK:∀{b:Addr} {m:Str->Option a9},s₁.heap.Ns b m->(rK s₁.heap H).Ns b m:=λ{b m} ⟨o,es,ep,e,d,r⟩=>⟨o,es,ep,base_of e (noA e d),d,r⟩
  have hKb:=λb o e=>base_of (KX b o e) (by
   cases q:H b with
   |none=>rfl
   |some u =>
    have e':=hA b (by rw[q];simp)
    subst e';rw[hK (by rw[q];simp)]at e;exact nE e)
  have hM:Mod K mg (rK s₁.heap H):=⟨hKb,nsK hns,⟨mb,nsK hb,hbb⟩,let ⟨mc,h1,h2⟩:=hlim;⟨mc,nsK h1,h2⟩⟩;have e0:vw P w K mg (rK s₁.heap H) lB [] s₁ H:=⟨rfl,hM,λb o e=>WY e,lJ (Nu _ _),trivial,λb hb=>absurd (show b∈([])from hb) i9,x5,.of_eq hg⟩;refine xq ((F _ hKb (nsK hns)).run lB [] s₁ H ⟨[.ref a],[]⟩ [.ref a] [.ref a] _ _ hr e0 (hbind s₁ (.ref a)) (.cons rfl .nil) (hsp H hO hS)) λr s' h=>?_
  cases r with
  |error e=>exact(hCX H e s' h).elim
  |ok fl =>
   cases fl with
   |next=>exact bh h
   |brk=>exact bh h
   |cont=>exact bh h
   |ret u =>
    obtain⟨v,H',os,bare,un,hok',r',q⟩:=h;subst q;obtain rfl:=r';refine⟨rfl,OldK.of_keep λb o e=>?_,os,bare⟩
    cases q:H b with
    |none=>exact un.keep b o e q (by intro z;exact absurd (show b∈([])from z) i9) i9
    |some u =>
     rcases hO b with z|⟨ob,xs,z⟩
     rw[q]at z;exact nS z;have z2:=un.jN b ob _ z;obtain⟨e1,_⟩:=x5 b _ z;obtain⟨e2,_⟩:=hok' b _ z2;rw[e]at e1;cases e1;exact e2
 cases hk:K.lookup a with
 |some o =>
  have e:=KX a o hk;rw[ha]at e;cases e;refine core (λ_=>J) (λ_=>.inl rfl) (.inr ⟨_,vs.toArray,_,hk,rfl,rfl,rfl,by rw[M3,hi.length];exact hl,by simpa using rv⟩) (λb u z=>by have z':=z;exact nE z') (λb z=>absurd rfl z) λz=>absurd rfl z
 |none =>
  refine core (λb=>if b=a then U (.bU {cls:=.type "list",data:=.seq vs.toArray} (.lst (ns.map V.int)))else J) (λb=>?_) (.inl (.inr ⟨{cls:=.type "list",data:=.seq vs.toArray},b3 rfl⟩)) (λb u z=>?_) (λb z=>?_) λ_=>hk;by_cases hb:b=a;exact .inr ⟨_,_,b3 hb⟩;exact .inl (b0 hb);by_cases hb:b=a;have z':=(b3 hb).symm.trans z;cases z';subst hb;exact⟨ha,by rw[o9];exact hl,vs,_,rv,ha⟩;have z':=(b0 hb).symm.trans z;exact nE z';by_cases hb:b=a;exact hb;exact absurd (b0 hb) z
end
def Gu {l:DQ} {n k:Nat} {q:n9} {j:List Str} {R:(Str->Option a9)->Heap->Prop} {D:k7->Heap->Prop} {d:DefRec} {K:Params->d2} {CX:k7->mn} {sp:k7->Sp} {x:Str} (E:l.most=U n) (z:n<=p8) (y:d.params.defaults=[]) (N:D1 k lB) (O:∀(w:k7) (h:Heap),D w h->(K w.params).In h) (F:∀(w:k7) (mg:Str->Option a9) (fa:Addr) (h:Heap),(K w.params).In h->h.Ns L0 mg->mg d.name=U (.ref fa) ->
   ∃fd:B4,(∀(s:b9) (u:a9),jo s fd ⟨[u],[]⟩ [(x,u)]) /\
    ∀base:Heap,(K w.params).In base->base.Ns L0 mg->W4 l.prog w (K w.params) mg base (CX w) k fa fd [x] (sp w))
  (r:∀(w:k7) (H:Hp) (a:Addr) (ns:List Int),ns.length<=n->Ud H->D5 (K w.params) H a (ns.map V.int)->sp w [.ref a] H (λv _=>v=.bl Uf) λ_ _ _=>False)
  (A:∀(w:k7) (H:Hp) (s:b9) (e:a9) (s':b9),CX w [] H s (λ_ _ _=>False) e s'->False) :
  PySem.W.WalkO q j R D l.row.toRowW d [] (λf vs=>Di f vs):=by
 refine Att.Gk E y λw B p mg mb fa o pm cd Q a vs ns G Y ho Z S t m i c P=>?_;have C:=O w _ Y;obtain⟨fd,X,I⟩:=F w mg fa _ C G.T.g t;exact SU C G.T.g G.T.b G.T.builtins G.T.nolimit P m i (i0 c z) N I X (λH L M=>r w H a ns c L M) λH e s'=>A w H p e s'
end L2
/- THE LAST THEOREM (shape; LID, My.* are yours):
   My.Adr: a structure of the addresses that your layer names (classes,functions);My.Txt K t: a structure (Prop) of the equations over K;
   My.txt_mk:{K} {implicit addresses ..} (e1:nsIn K L0 "law" = U (U (.ref f))) (e2:K.lookup f=U ⟨oc,od,.func (fnOf "law" "law" params body scope dV kV doc pm an cdv ct),sl⟩) (e3:codeIn K cdv "law" = Uf) .. : ∃t,My.Txt K t
set_option maxRecDepth 100000 in
set_option maxHeartbeats 0 in
theorem PySem.Challenge.cw_LID_holds : PySem.Challenge.rw_LID.Holds := by
 w_on;o_law;k_head;(case hw=>w_witness2)
 k_fill
 refine L2.Gu rfl a6 rfl ⟨rfl,by decide,by decide⟩ (λw h Y=>PySem.W.kIn_of Y) ?F ?S ?C
 case F =>
  intro w q k h m G j;obtain⟨t,T⟩:=T;cases(j.symm.trans (gS m G T.law))                                       -- k is i law's own address
  exact⟨_,λs u=>.of_eq rfl,λd g nb=>My.law_fn T g nb⟩     -- if «.of_eq rfl» comes too early: refine'⟨_,?b,λd g nb=>My.law_fn T g nb⟩;exact λs u=>.of_eq rfl
 case S=>exact λw H a o r n p=>..
 case C=>exact ..
(i f e l v c: write e) -/
namespace L2
open PySem PySem.Spec PyProof.Rows
section
variable{a:Str}{fd:B4}{j ct:a9}{H H2 H':Hp}
def inClass(s:Stmt)(j:Nat):Stmt:=match s with
 | .ClassDef _ _ _ body _ _ _ _ _ _ _=>body.getD j (.Pass ⟨0,0,0,0⟩)
 |_=>.Pass ⟨0,0,0,0⟩
def fT(s:Stmt):Arguments:=match s with
 | .FunctionDef _ a _ _ _ _ _ _ _ _=>a
 |_=>{posonlyargs:=[],args:=[],vararg:=J,kwonlyargs:=[],kw_defaults:=[],kwarg:=J,defaults:=[]}
def aj(s:Stmt):List Stmt:=match s with
 | .FunctionDef _ _ b _ _ _ _ _ _ _=>b
 |_=>[]
def B6(s:Stmt):F8:=match s with
 | .FunctionDef _ _ _ _ _ _ sc _ _ _=>sc
 |_=>{kind:=.function,names:=[],isGenerator:=U',isCoroutine:=U'}
abbrev qP:mn:=λ_ _ _ _ _ _=>False
abbrev E0:XK:=λ_ _ _=>False
def dw{X:Cx}:Passes qP X E0:=λ_ _ _ _ _ _ _ h=>h.elim
structure sQ(K:d2)(x qual:Str)(st:Stmt)(f:Addr)(fd:B4):Prop where
 ex:∃(oc:a9) (od:Option Addr) (kV doc pm:a9) (an:Option Addr) (cdv ct:a9) (osl:Array (Option a9)),
  fd=eR x qual (fT st) (aj st) (B6 st) .none kV doc pm an cdv ct/\K.lookup f=U ⟨oc,od,.func fd,osl⟩/\xA K cdv qual=Uf
 kp:eT K (.ref f)=Uf
section
variable{P:n9}{w:k7}{K:d2}{mg:Str->Option a9}{base:Heap}
def sQ.ok {x:Str} {d:Stmt} {f:Addr} {N e:List Str} {k:Nat} {sp:Sp} (F:sQ K x a d f fd) (S:iH N e (B6 d)) (len:∀vs H Q E,sp vs H Q E->vs.length=e.length) (c:∀(b:a9) (A:t6) (outer:List Env) (s:b9) (H:Hp) (vs:List V) (Q:VK) (E:XK),D1 k (A.deeper (cX a (B6 d) (hz s) f b))->sp vs H Q E ->
   ∃t,mU (nB qP P w K mg base N a (B6 d) f b A outer s H E).zz (aj d) t/\t {nx:=λ_ H'=>Q .non H',rt:=Q} (start N vs) H):W4 P w K mg base qP (k+1) f fd e sp:=by
 obtain⟨u,p,kV,n,v,o,b,r,j,rfl,l,i⟩:=F.ex;refine a1S l i S len λA outer s H vs Q E m g=>?_;obtain⟨t,h,q⟩:=c b A outer s H vs Q E m g;exact⟨t,h.zz,q⟩
def sQ.binds{x:Str}{d:Stmt}{f:Addr}{g:List Str}(F:sQ K x a d f fd)(h:∀(kV b i:a9) (e:Option Addr) (c ct:a9) (us:List a9),us.length=g.length->bindArgs (eR x a (fT d) (aj d) (B6 d) .none kV b i e c ct) ⟨us,[]⟩=pure (g.zip us)):Binds K fd g []:=by obtain⟨l,m,kV,b,i,e,c,ct,j,rfl,n,k⟩:=F.ex;exact .all (h kV b i e c ct)
def a0B{x:Str}{e:Stmt}{f:Addr}{od h:Option Addr}{g:Array (Option a9)}{kV d i b:a9}(l:K.lookup f=U ⟨j,od,.func (eR x a (fT e) (aj e) (B6 e) .none kV d i h b ct),g⟩)(c:xA K b a=Uf)(k:eT K (.ref f)=Uf):sQ K x a e f (eR x a (fT e) (aj e) (B6 e) .none kV d i h b ct):=⟨⟨j,od,kV,d,i,h,b,ct,g,rfl,l,c⟩,k⟩
end
section
variable{X:Cx}
def pv(i:Nat){x:Str}{pos:Pos}(b:autoParam (X.N[i]? = U x) d3._auto_1)(c:Vk X.env.scope x:=by first|exact Or.inl rfl|exact Or.inr (Or.inl rfl)|exact Or.inr (Or.inr rfl))(hd:autoParam ((x==("__debug__" : Str))=U') a6._auto_1)(a:autoParam ((x==("__classdict__" : Str))=U') a6._auto_1):PE X (.Name x pos) (C7 i):=ZC b c hd a
end
def d9(H H':Hp):Prop:=∀b o,H b=U o->H' b=U o
def d9.refl(H:Hp):d9 H H:=λ_ _ h=>h
def d9.trans{d:Hp}(a:d9 H d)(b:d9 d H2):d9 H H2:=λc o h=>b c o (a c o h)
def d9.free(e:d9 H H'){l:Addr}(h:H' l=Option.none):H l=Option.none:=by
 cases q:H l with
 |none=>rfl
 |some o =>
  rw[e l o q]at h;exact nS h
def d9.seq{K:d2}{a:Addr}{xs:List V}(e:d9 H H')(h:D5 K H a xs):D5 K H' a xs:=by
 rcases h with (h|⟨o,h⟩)|h
 exact .inl (.inl (e _ _ h));exact .inl (.inr ⟨o,e _ _ h⟩);exact .inr h
end
section
variable{Q:a9->b9->Prop}
section
variable{κ:Type}[DecidableEq κ]
noncomputable def gg(kvs:List (κ×V))(k:κ):Option V:=(kvs.find? λkv=>decide (kv.1=k)).map (·.2)
noncomputable def putK(kvs:List (κ×V))(k:κ)(v:V):List (κ×V) :=
 if (kvs.any λkv=>decide (kv.1=k))=Uf then kvs.map (λkv=>if kv.1=k then(kv.1,v)else kv)else kvs++[(k,v)]
def uF{p:κ×V}{r:List (κ×V)}{k:κ}(e:p.1=k):gg (p::r) k=U p.2:=by simp[gg,e]
def uG{p:κ×V}{r:List (κ×V)}{k:κ}(e:¬p.1=k):gg (p::r) k=gg r k:=by simp[gg,e]
theorem ek.getD{o:Option V}{u:Option a9}{d:V}{d':a9}(r:ek o u)(a:RelV d d'):RelV (o.getD d) (u.getD d'):=by
 cases o with
 |none=>cases u with
  |none=>exact a
  |some _=>exact(show False from r).elim
 |some _=>cases u with
  |none=>exact(show False from r).elim
  |some _=>exact r
def KV.val{a:List (κ×V)}{vs:List (κ×a9)}(r:KV a vs)(k:κ):ek (gg a k) (oF vs k):=by
 induction r with
 |nil=>exact xh
 | @cons p q j d h t i =>
  obtain⟨f,g⟩:=h;by_cases e:p.1=k
  . have c:=f.symm.trans e;have b:oF (q::d) k=U q.2:=by simp[oF,c]
    rw[uF e,b];exact g
  . have c:¬q.1=k:=λz=>e (f.trans z)
    have b:oF (q::d) k=oF d k:=by simp[oF,c]
    rw[uG e,b];exact i
theorem KV.any{a:List (κ×V)}{vs:List (κ×a9)}(r:KV a vs)(k:κ):(a.any λkv=>decide (kv.1=k))=vs.any λkv=>decide (kv.1=k):=by
 induction r with
 |nil=>rfl
 |cons h t b=>simp_all
theorem KV.length{a:List (κ×V)}{vs:List (κ×a9)}(r:KV a vs):a.length=vs.length:=Paired.length r
end
def JD{P:n9}{w:k7}{k:Key}{u:a9}(r:RelV (kV k) u):(T7 P w).is k u=Uf:=by
 cases k with
 |inl i=>obtain⟨t,e⟩:=(show ∃t,u=xf i t from r);subst e;exact Fm P w i t
 |inr x=>obtain⟨t,e⟩:=(show ∃t,u=xc x t from r);subst e;exact Fj P w x t
theorem rH{P:n9}{w:k7}:∀{ks:List Key} {us:List a9},Vals (ks.map kV) us->ItemsAre (T7 P w) ks us
 | [],_,r=>by rw[oO]at r;cases r;exact .nil
 |k::ks,_,r=>by
  cases r with
  |cons h t=>exact .cons (JD h) (rH t)
abbrev KT(H:Hp):List (List Key×V)->List (List Key×Addr×a9)->Prop:=Paired λp q=>p.1=q.1/\H q.2.1=U (.tup (p.1.map kV))/\RelV p.2 q.2.2
def KT.val{H:Hp}{a:List (List Key×V)}{xs:List (List Key×Addr×a9)}(r:KT H a xs)(k:List Key):ek (gg a k) ((atKey xs k).map (·.2)):=by
 induction r with
 |nil=>exact xh
 | @cons p q j d h t i =>
  obtain⟨f,_,g⟩:=h;by_cases e:p.1=k
  . have c:=f.symm.trans e;have b:atKey (q::d) k=U q.2:=by simp[atKey,c]
    rw[uF e,b];exact g
  . have c:¬q.1=k:=λz=>e (f.trans z)
    have b:atKey (q::d) k=atKey d k:=by simp[atKey,c]
    rw[uG e,b];exact i
section
variable{P:n9}{w:k7}{H:Hp}{h:Heap}{a:Addr}
def UL{u:HO}(ok:v5 P w H h)(e:Rd H a u):P9 P w H h a u:=e.ok ok
def AQ{b:List (Key×V)}(ok:v5 P w H h)(e:Rd H a (.dK b)):b.length<=p8/\(a==oH)=U'/\∃vs,KV b vs/\h.DictOf (T7 P w) a vs :=
 show P9 P w H h a (.dK b)from UL ok e
def Cf{ks:List Key}(ok:v5 P w H h)(e:H a=U (.tup (ks.map kV))):(lD (T7 P w)).is h ks a:=by
 obtain⟨_,b,r,o,c,f,n,d⟩:=(show P9 P w H h a (.tup (ks.map kV))from ok a _ e);exact⟨o,b.toArray,n,c,f,d,by simpa using rH r⟩
def AO{b:List (List Key×V)}(ok:v5 P w H h)(e:Rd H a (.dT b)):b.length<=p8/\(a==oH)=U' /\
  ∃xs,KT H b xs/\h.DictOfH (lD (T7 P w)) a xs:=by
 obtain⟨z,y,xs,r,o,g,f,d,j,k,i,n⟩:=(show P9 P w H h a (.dT b)from UL ok e);refine⟨z,y,xs,r,o,g,f,d,j,k,i,λx c=>?_,n⟩
 have all:∀{l:List (List Key×V)} {m:List (List Key×Addr×a9)},KT H l m->∀x∈m,(lD (T7 P w)).is h x.1 x.2.1:=by
  intro l m q;induction q with
  |nil=>intro x c;exact nomatch c
  | @cons p q v u hq t s =>
   intro x c;rcases List.mem_cons.mp c with e|c
   subst e;exact Cf ok (by rw[<-hq.1];exact hq.2.1);exact s x c
 exact all r x c
end
def vx(H:Hp)(a:Addr)(y:V)(r:Option V):Prop :=
 (∃kvs k,Rd H a (.dK kvs)/\y=kV k/\r=gg kvs k)\/∃kvs k b,Rd H a (.dT kvs)/\y=.ref b/\H b=U (.tup (k.map kV))/\r=gg kvs k
def a1b(H:Hp)(a:Addr)(y v:V)(H':Hp):Prop :=
 (∃kvs k,H a=U (.dK kvs)/\y=kV k/\kvs.length<p8/\H'=upd H a (.dK (putK kvs k v))) \/
 ∃kvs k b,H a=U (.dT kvs)/\y=.ref b/\H b=U (.tup (k.map kV))/\kvs.length<p8/\H'=upd H a (.dT (putK kvs k v))
def vx.t{H:Hp}{a b:Addr}{c:List (List Key×V)}{k:List Key}(e:H a=U (.dT c))(d:H b=U (.tup (k.map kV))):vx H a (.ref b) (gg c k):=.inr ⟨c,k,b,.inl e,rfl,d,rfl⟩
def a1b.t{H:Hp}{a b:Addr}{c:List (List Key×V)}{k:List Key}{v:V}(e:H a=U (.dT c))(f:H b=U (.tup (k.map kV)))(d:c.length<p8):
  a1b H a (.ref b) v (upd H a (.dT (putK c k v))):=.inr ⟨c,k,b,e,rfl,f,d,rfl⟩
section
variable{X:Cx}{pins:List (Addr×Obj)}{σ:St}{H:Hp}{s:b9}{a:Addr}{y v:V}{u r:a9}{o:Option V}{A:t6}{E:a9->b9->Prop}
def Inv.big(I:Inv X pins σ H s):oH<(hz s):=by exact lI a6 ((I.mod.glob.keeps I.bk).lt)
def NI(t:A.units+1<G8)(I:Inv X pins σ H s)(g:vx H a y (U v))(o:RelV y u)(h:∀w' s',Inv X pins σ H s'->RelV v w'->Q w' s'):
  wpAny (model X.prog X.w) A (eJ (.ref a) u) Q E s:=by
 rcases g with ⟨j,k,e,n,l⟩|⟨j,k,b,e,n,r,l⟩
 subst n;obtain⟨z,x,B,c,m⟩:=AQ I.x5 e;obtain⟨w',f,d⟩:=ek.some_of (by rw[l];exact c.val k);exact wpAny_getItem_of (JD o) m.mapOf f (h w' _ (I.tok _) d);subst n;cases(show u=V3 b from o);obtain⟨z,x,C,c,m⟩:=AO I.x5 e;obtain⟨w',f,d⟩:=ek.some_of (by rw[l];exact c.val k);obtain⟨p,q,i⟩:=Option.map_eq_some_iff.mp f;refine wpAny_getItem_heap (tupleKind_room_in1 t) (Cf I.x5 r) m q ?_;rw[i];exact h w' _ (I.tok _) d
end
section
variable{X:Cx}{pins:List (Addr×Obj)}{σ:St}{H:Hp}{s:b9}{a:Addr}{kvs:List (Key×V)}{k:Key}{u:a9}{A:t6}{E:a9->b9->Prop}
end
def Ue(i:Expr):Prop:=∀ov iv,subscripted i U' ov iv=operate [ov,iv] (eJ ov iv)
def VD{prog:n9}{w:k7}{A:t6}{E:a9->b9->Prop}{s:b9}{env:Env}{b a:Expr}{pos:Pos}{T id:String}(k:lE (.type T) "__getitem__" = pure (U (.builtin id)))(hs:Ue a)(h:wpAny (model prog w) A (eval b env) (λo s₁=>wpAny (model prog w) A (eval a env) (λi s₂=>s₂.TypeIs o T/\wpAny (model prog w) A (eJ o i) Q E s₂) E s₁) E s):
  wpAny (model prog w) A (eval (.Subscript b a pos) env) Q E s:=by
 refine Subscript_ (Z1 h (λo s₁ g=>Z1 g (λi s₂ c=>?_) λ_ _ x=>x) λ_ _ x=>x)
 obtain⟨j,c⟩:=c;refine c5 ?_;refine c5 (oU j k ?_);have e:wpAny (model prog w) A (subscripted a U' o i) (λr d=>wpAny (model prog w) A (letTemporaryGo b o r >>= λ_=>pure r) Q E d) E s₂:=by rw[hs o i];exact wpAny_operating (Z1 c (λr d f=>c5 (wpAny_letTemporaryGo (i5 f))) λ_ _ x=>x)
 first
  |exact i5 (c5 e)
  |exact c5 (i5 (c5 e))
  |exact c5 e
def Gh{X:Cx}{pins:List (Addr×Obj)}{f:St}{H:Hp}{s:b9}{a:Addr}{y:V}{o:Option V}(I:Inv X pins f H s)(g:vx H a y o):s.TypeIs (.ref a) "dict":=by
 rcases g with ⟨c,k,e,_,_⟩|⟨c,k,b,e,_,_,_⟩
 obtain⟨_,_,i,_,d⟩:=AQ I.x5 e;exact d.typeIs;obtain⟨_,_,h,_,d⟩:=AO I.x5 e;exact d.typeIs
def UB(td ty:TE):TE:=λσ H Q=>td σ H λx H1=>ty σ H1 λy H2=>∃a v,x=.ref a/\vx H2 a y (U v)/\Q v H2
section
variable{X:Cx}{o i e value:Expr}{pos pos' tpos:Pos}{td ty tv:TE}
def WH(l:X.A.units+1<G8)(p:PE X o td)(f:PE X i ty)(hs:Ue i):PE X (.Subscript o i pos) (UB td ty):=by
 intro b s e H Q I h;refine VD PySem.F.slot_dict_getitem.lookup hs (t9 (p b s e H _ I h) λu n ⟨x,t,w,q,r⟩=>t9 (f b n e t _ w r) λB D ⟨y,j,d,k,a,v,z,g,q2⟩=>?_);subst z;obtain rfl:=q;exact⟨Gh d g,NI l d g k λE C m c=>⟨v,j,m,c,q2⟩⟩
end
section
variable{X:Cx}{pos:Pos}
end
structure M1(X:Cx)(o:Expr)(m:Str)(apos:Pos)(e:Expr)(cpos:Pos):Prop where
 base:U3 o m X.env (eval o X.env)=eval o X.env
 few:((p5 cpos (e8 [e] X.env)).all (λx=>!x.1)&&(Z0 cpos (bL [] X.env)).all (λx=>x.1.isSome)
  && decide (([e]:List Expr).length+([]:List T3).length+(if ([]:List T3).isEmpty then 0 else 1)<30))=Uf
 line:(apos.endLine==cpos.line)=Uf
 trees:p5 cpos (e8 [e] X.env)=[(U',eval e X.env)]
structure M2(X:Cx)(o:Expr)(m:Str)(apos:Pos)(e f:Expr)(cpos:Pos):Prop where
 base:U3 o m X.env (eval o X.env)=eval o X.env
 few:((p5 cpos (e8 [e,f] X.env)).all (λx=>!x.1)&&(Z0 cpos (bL [] X.env)).all (λx=>x.1.isSome)
  && decide (([e,f]:List Expr).length+([]:List T3).length+(if ([]:List T3).isEmpty then 0 else 1)<30))=Uf
 line:(apos.endLine==cpos.line)=Uf
 trees:p5 cpos (e8 [e,f] X.env)=[(U',eval e X.env),(U',eval f X.env)]
def IsD(H:Hp)(a:Addr):Prop:=(∃kvs,Rd H a (.dK kvs))\/∃kvs,Rd H a (.dT kvs)
def a0v{X:Cx}{pins:List (Addr×Obj)}{j:St}{H:Hp}{s:b9}{a:Addr}(I:Inv X pins j H s)(d:IsD H a):
  s.TypeIs (.ref a) "dict"/\(∀b,V3 a=.ref b->∃ob,s.heap.get? b=U ob/\ob.dict=J)/\(a==oH)=U':=by
 rcases d with ⟨i,e⟩|⟨i,e⟩
 obtain⟨_,g,k,_,c⟩:=AQ I.x5 e;refine⟨c.typeIs,λb q=>?_,g⟩;cases q;obtain⟨ob,_,_,f,h,_⟩:=c;exact⟨ob,f,h.2.1⟩;obtain⟨_,g,l,_,c⟩:=AO I.x5 e;refine⟨c.typeIs,λb q=>?_,g⟩;cases q;obtain⟨ob,_,_,f,h,_⟩:=c;exact⟨ob,f,h.2.1⟩
section
variable{X:Cx}{pins:List (Addr×Obj)}{σ:St}{H:Hp}{s:b9}{a:Addr}{y d:V}{u r:a9}{o:Option V}{A:t6}{E:a9->b9->Prop}
def a0L(t:A.units+1<G8)(I:Inv X pins σ H s)(g:vx H a y o)(p:RelV y u)(n:RelV d r)(h:∀w' s',Inv X pins σ H s'->RelV (o.getD d) w'->Q w' s'):
  wpAny (model X.prog X.w) A (call (.builtin "dict.get") [.ref a,u,r]) Q E s:=by
 rcases g with ⟨j,k,e,m,l⟩|⟨j,k,b,e,m,q,l⟩
 subst m;obtain⟨z,i,x,c,f⟩:=AQ I.x5 e;refine call_meetsIn Eu f.typeIs Pe (Pm _ _ _) (meets_dict_get_default (T7 X.prog X.w) a (JD p) i r) ⟨_,f.mapOf,h _ _ (I.tok _) ?_⟩;rw[l];exact(c.val k).getD n;subst m;cases(show u=V3 b from p);obtain⟨z,i,v,c,f⟩:=AO I.x5 e;refine call_meetsIn Eu f.typeIs Pe (Pm _ _ _) (meetsH_dict_get_default (lD (T7 X.prog X.w)) a b i r) ⟨tupleKind_room_in1 t,k,v,Cf I.x5 q,f,h _ _ (I.tok _) ?_⟩;rw[l];exact(c.val k).getD n
end
def KI(td ty tx:TE):TE:=λσ H Q=>td σ H λx H1=>∃a,x=.ref a/\IsD H1 a/\ty σ H1 λy H2=>tx σ H2 λz H3=>∃o,vx H3 a y o/\Q (o.getD z) H3
section
variable{X:Cx}{o e f:Expr}{apos cpos:Pos}{td ty tx:TE}
def RW(r:X.A.units+1<G8)(G:PE X o td)(E:PE X e ty)(C:PE X f tx)(m:M2 X o "get" apos e f cpos):PE X (.Call (.Attribute o "get" apos) [e,f] [] cpos) (KI td ty tx):=by
 intro b s c H Q I h;refine wpAny_Call_method m.base m.few m.line PySem.F.plainAttrs_dict Eu PySem.F.type_dict_get (t9 (G b s c H _ I h) λu v ⟨x,O,j,K,a,P,d,N⟩=>?_)
 subst P;obtain rfl:=K;obtain⟨k,D,_⟩:=a0v j d;refine⟨k,D,?_⟩;rw[m.trees];refine EA rfl (OX (sH (t9 (E b v c O _ j N) λS L ⟨y,n,l,p,q2⟩ =>
  sH (t9 (C b L c n _ l q2) λV T ⟨z,w,t,B,W,g,q⟩=>xN ?_))))
 exact a0L r t g p B λY R M i=>⟨_,w,M,i,q⟩
end
section
variable{X:Cx}{pins:List (Addr×Obj)}{σ:St}{H:Hp}{s:b9}{a:Addr}{kvs:List (Key×V)}{A:t6}{E:a9->b9->Prop}
end
section
variable{X:Cx}{pins:List (Addr×Obj)}{σ:St}{H:Hp}{s:b9}{a:Addr}{y:V}{u:a9}{A:t6}{E:a9->b9->Prop}
end
end
section
variable{env:Env}{p a elt tg F j r:Expr}{it u:a9}{k Z:List Expr}{wi L:TI}{g:TG}{tt:TT}{te:TE}
theorem qj(env:Env):∀(names:List (Str×jq)) (a:List (Str×Addr)),(∀y∈names,y.2=.free->∃c,env.cells.lookup y.1=U c)->(∀x c,a.lookup x=U c->env.cells.lookup x=U c) ->
  ∃cl,(forIn names a λy (cs:List (Str×Addr))=>if (y.2==.free)=Uf then(do let c <- cellOf env y.1;pure (jz ((y.1,c)::cs)))else pure (jz cs):Sem (List (Str×Addr)))=pure cl /\
   (∀x c,cl.lookup x=U c->env.cells.lookup x=U c)/\(∀y∈names,y.2=.free->(cl.lookup y.1).isSome=Uf)/\(∀x,(a.lookup x).isSome=Uf->(cl.lookup x).isSome=Uf)
 | [],a,_,ha=>⟨a,by simp only[List.forIn_nil],ha,(λ_ h=>nomatch h),(λ_ h=>h)⟩
 |(n,k)::r,a,h,ha=>by
  have s:=λy b=>h y (m5 _ b);by_cases o:k=.free
  . subst o;obtain⟨c,q⟩:=h (n,.free) m8 rfl;have i:∀x c',((n,c)::a).lookup x=U c'->env.cells.lookup x=U c':=λx c' e=>by
     rw[lN]at e;cases d:x==n with
     |true =>
      rw[d]at e;cases e;rw[eq_of_beq d];exact q
     |false =>
      rw[d]at e;exact ha x c' e
    obtain⟨cl,l,p,j,m⟩:=qj env r ((n,c)::a) s i;have t:=m;refine⟨cl,?_,p,λy b f=>?_,λx d=>t x ?_⟩
    . rw[Og];have v:cellOf env n=pure c:=by delta cellOf;rw[q]
      simp only[v];exact l
    . rcases List.mem_cons.mp b with rfl|b
      exact t n i9;exact j y b f
    . rw[lN];cases x==n<;>simp[d]
  . obtain⟨cl,l,p,j,m⟩:=qj env r a s ha;refine⟨cl,?_,p,λy b f=>?_,m⟩
    . rw[Og];have u:(k==bY)=U':=by simpa using o
      simp only[u];exact l
    . rcases List.mem_cons.mp b with rfl|b
      exact absurd f o;exact j y b f
def JR{scope:F8}(h:∀y∈scope.names,y.2=.free->∃c,env.cells.lookup y.1=U c):
  ∃cl,closureFor scope env=pure cl/\(∀x c,cl.lookup x=U c->env.cells.lookup x=U c)/\(∀y∈scope.names,y.2=.free->(cl.lookup y.1).isSome=Uf):=by
 obtain⟨cl,d,f,b,_⟩:=qj env scope.names [] h (λx c e=>by simp at e);refine⟨cl,?_,f,b⟩;show((forIn scope.names [] λy a=>if (y.2==.free)=Uf then(do let c <- cellOf env y.1;pure (jz ((y.1,c)::a)))else pure (jz a):Sem (List (Str×Addr))) >>= pure)=_;rw[d];rfl
theorem kT{env:Env}:∀{names:List (Str×jq)} {x:Str},
  ((names.map λ(n,k)=>if (k==bY&&env.scope.kind==.function&&env.kindOf n==U .cell)then(n,Z7)else(n,k)).lookup x=U .cell \/
   (names.map λ(n,k)=>if (k==bY&&env.scope.kind==.function&&env.kindOf n==U .cell)then(n,Z7)else(n,k)).lookup x=U .free) ->
  (x,bY)∈names\/(x,Z7)∈names
 | [],_,h=>by simp at h
 |(n,k)::r,x,h=>by
  by_cases f:(x==n)=Uf
  . have e:=eq_of_beq f;subst e;by_cases b:k=.free;subst b;exact .inl m8
    . right;have i:(k==bY)=U':=by simpa using b
      simp only[m6,i,DJ,jC,if_false,lN,beq_self_eq_true]at h
      simp_all
  . have c:(x==n)=U':=by simpa using f
    refine((@kT env r x) ?_).imp (m5 _) (m5 _);rw[m6]at h;have d:∀(g:jq) l,cZ x ((n,g)::l)=cZ x l:=λg l=>by rw[lN,c]
    by_cases a:(k==bY&&env.scope.kind==.function&&env.kindOf n==U .cell)=Uf;have e:(if (k==bY&&env.scope.kind==.function&&env.kindOf n==U .cell)=Uf then(n,Z7)else(n,k))=(n,Z7):=b3 a;simp only[e,d]at h;exact h;have e:(if (k==bY&&env.scope.kind==.function&&env.kindOf n==U .cell)=Uf then(n,Z7)else(n,k))=(n,k):=b0 a;simp only[e,d]at h;exact h
noncomputable def N9(X:Cx)(bs nb:List Str)(scope:F8)(cl:List (Str×Addr))(C:Addr)(fp:List Addr)(s:b9)(H:Hp)(pins:List (Addr×Obj)):Cx where
 prog:=X.prog
 w:=X.w
 K:=X.K
 mg:=X.mg
 base:=X.base
 A:=X.A
 N:=bs++nb
 M6:=s
 i7:=H
 env:=rZ scope cl C X.env
 outer:=X.stack
 stack:=X.stack
 ex:=fp
 fn:=λy=>decide (scope.names.lookup y=U .cell)
 calm:=X.calm
 pn:=X.pn++pins
 xe:=λ_ _=>False
structure hU(X:Cx)(bs nb:List Str)(scope:F8):Prop where
 kind:scope.kind=.function
 names:∀y∈scope.names,y.2=.local->scope.names.lookup y.1=U .local
 S6:∀y∈scope.names,y.2=.free->X.env.scope.names.lookup y.1=U .cell\/X.env.scope.names.lookup y.1=U .free
 apart:∀x∈nb,∀y∈scope.names,y.1=x->y.2≠.local/\y.2≠.cell
 len:nb.length=X.N.length
 nms:∀(j:Nat) (x:Str),nb[j]? = U x->X.N[j]? = U x\/∀y∈scope.names,y.1≠x
noncomputable def eH(N nb:List Str)(fsc sc:F8):Bool :=
 (decide (nb.length=N.length)&&(nb.zip N).all λp=>decide (p.1=p.2)||sc.names.all λy=>!decide (y.1=p.1))&&(decide (sc.kind=.function)&&(sc.names.all λy=>!decide (y.2=.local)||decide (sc.names.lookup y.1=U .local)) &&
  (sc.names.all λy=>!decide (y.2=.free)||(decide (fsc.names.lookup y.1=U .cell)||decide (fsc.names.lookup y.1=U .free)))&&nb.all λx=>sc.names.all λy=>!decide (y.1=x)||!decide (y.2=.local\/y.2=.cell))
def wV{X:Cx}{bs nb:List Str}{scope:F8}(h:eH X.N nb X.env.scope scope=Uf):hU X bs nb scope:=by
 unfold eH at h;simp only[pa,List.all_eq_true,Of,OB,decide_eq_true_eq,decide_eq_false_iff_not]at h;obtain⟨⟨g,m⟩,⟨⟨o,n⟩,l⟩,i⟩:=h;refine⟨o,λy a e=>?_,λy a e=>?_,λx d y a f=>?_,g,λj x b=>?_⟩
 . rcases n y a with q|q
   exact absurd e q;exact q
 . rcases l y a with q|q
   exact absurd e q;exact q
 . rcases i x d y a with q|q
   exact absurd f q;exact⟨λz=>q (.inl z),λz=>q (.inr z)⟩
 . have:=(List.getElem?_eq_some_iff.mp b).1;have c:X.N[j]? = U (X.N[j]'b6):=y4 _;have k:(nb.zip X.N)[j]? = U (x,X.N[j]'b6):=List.getElem?_zip_eq_some.mpr ⟨b,c⟩;rcases m _ (lZ k)with q|q
   left;rw[c];exact m2 U q.symm;right;exact q
theorem JT(lo:Nat)(P:Str->Addr->Prop):∀(names:List (Str×jq)) (h:Heap) (d:List (Str×Addr)) (D:Str->Prop),lo<=h.objs.size ->
  (∀x c,d.lookup x=U c->c<h.objs.size/\((P x c/\¬D x)\/(D x/\lo<=c/\h.IsCell c J)))->(∀x y c,d.lookup x=U c->d.lookup y=U c->x=y)->(∀x,D x->(d.lookup x).isSome=Uf) ->
  (∀x c,(eN h.objs.size names d).lookup x=U c->(P x c/\¬(D x\/(x,Z7)∈names))\/((D x\/(x,Z7)∈names)/\lo<=c/\(oG h names).IsCell c J)) /\
  (∀x y c,(eN h.objs.size names d).lookup x=U c->(eN h.objs.size names d).lookup y=U c->x=y)/\(∀x,(D x\/(x,Z7)∈names)\/(d.lookup x).isSome=Uf->((eN h.objs.size names d).lookup x).isSome=Uf)
 | [],h,d,D,hlo,h1,h2,h3=>by
  refine⟨λx c e=>?_,h2,λx f=>?_⟩
  . rcases(h1 x c e).2 with ⟨u,v⟩|⟨u,v,B⟩
    exact .inl ⟨u,λz=>z.elim v i9⟩;exact .inr ⟨.inl u,v,B⟩
  . rcases f with (f|f)|f
    exact h3 x f;simp at f;exact f
 |(n,k)::r,h,d,D,hlo,h1,h2,h3=>by
  unfold oG eN;by_cases w:k=.cell
  . subst w;have l:∀x,((n,h.objs.size)::d).lookup x=if x=n then U h.objs.size else d.lookup x:=λx=>by
     rw[lN];by_cases c:x=n;subst c;simp
     . have:(x==n)=U':=by simpa using c
       rw[this,b0 c]
    have sz:(h.push {cls:=.type "cell",data:=.cell J}).objs.size=h.objs.size+1:=fh ..;obtain⟨s,m,p⟩:=JT lo P r (h.push {cls:=.type "cell",data:=.cell J}) ((n,h.objs.size)::d) (λx=>D x\/x=n) (by omega) (λx c e=>by
      rw[l]at e;split at e;rename_i f;cases e;exact⟨by simp,.inr ⟨.inr f,hlo,_,J4 _ rfl,rfl⟩⟩
      . rename_i f;obtain⟨z,q⟩:=h1 x c e;refine⟨by rw[sz];exact sG z,?_⟩
        rcases q with ⟨t,q2⟩|⟨t,q2,E⟩
        exact .inl ⟨t,λy=>y.elim q2 f⟩
        . exact .inr ⟨.inl t,q2,E.keeps λb o e=>s9 _ e⟩) (λx y c i g=>by
      rw[l]at i g;split at i;split at g;rename_i a b;rw[a,b];cases i;exact absurd (h1 y _ g).1 (S5 _)
      . split at g;cases g;exact absurd (h1 x _ i).1 (S5 _)
        . exact h2 x y c i g) (λx f=>by
      rw[l];split;rfl
      . rename_i C;exact h3 x (f.resolve_right C))
    rw[sz]at s m p;have j:∀x,((D x\/x=n)\/(x,Z7)∈r)↔(D x\/(x,Z7)∈(n,Z7)::r):=λx=>by
     rw[Q1];constructor;rintro((z|z)|z);exact .inl z;exact .inr (.inl (by rw[z]));exact .inr (.inr z);rintro(z|z|z);exact .inl (.inl z);exact .inl (.inr (m2 Prod.fst z));exact .inr z
    refine⟨λx c e=>?_,m,λx f=>p x ?_⟩;rw[<-j];exact s x c e;rw[<-j]at f;refine f.imp id λz=>?_;rw[l];split;rfl;exact z
  . have A:(k==Z7)=U':=by simpa using w
    simp only[A];obtain⟨s,m,p⟩:=JT lo P r h d D hlo h1 h2 h3;have j:∀x,(x,Z7)∈r↔(x,Z7)∈(n,k)::r:=λx=>by rw[Q1];exact⟨.inr,λz=>z.resolve_left λy=>w (m2 Prod.snd y).symm⟩
    refine⟨λx c e=>?_,m,λx f=>p x ?_⟩;rw[<-j];exact s x c e;rw[<-j]at f;exact f
structure Ug(X:Cx)(scope:F8)(cl:List (Str×Addr))(n:Nat):Prop where
 c1:∀x c,cl.lookup x=U c->(X.env.cells.lookup x=U c/\¬(x,Z7)∈scope.names)\/((x,Z7)∈scope.names/\n<=c)
 c2:∀x,(x,bY)∈scope.names\/(x,Z7)∈scope.names->(cl.lookup x).isSome=Uf
 c3:∀x y c,cl.lookup x=U c->cl.lookup y=U c->x=y
section
variable{X:Cx}{bs nb:List Str}{scope:F8}{cl:List (Str×Addr)}{C:Addr}{fp:List Addr}{pins:List (Addr×Obj)}{σ:St}{H:Hp}{s:b9}
def a0N(I:Inv X pins σ H s)(B:hU X bs nb scope)(L:Ug X scope cl (hz s))(g:(hz s)<=C)(f:∀b∈fp,jR X pins H b)(d:∀b∈fp,b<(hz s)):(N9 X bs nb scope cl C fp s H pins).Ok where
 mod:=I.ok.mod
 kind:=B.kind
 glob:=I.ok.glob
 blt:=I.ok.blt
 above:=g
 inj:=L.c3
 has:=λx j=>by exact Option.isSome_iff_exists.mp (L.c2 x (kT j))
 Ib:=λx c h e=>by
  rcases L.c1 x c e with z|z
  exact absurd (jE (lR h)) z.2;exact z.2
 hd:=I.ok.hd
 frames:=I.ok.frames
 KP:=.inl rfl
 Vb:=λb a=>⟨E9 (C1 (d b a) g),λx c e=>(L.c1 x c e).elim (λz=>(f b a).2.2.2.2.1 x c z.1) λz=>bX (C1 (d b a) z.2)⟩
 bs:=I.bs
 qF:=i0 I.ok.qF I.sz
 uW:=λb o e a=>by
  rcases(f b a).2.2.2.1 with z|z
  exact I.ok.uW b o e z;exact absurd (C1 (q5 e) (i0 I.ok.qF z)) (S5 _)
 yX:=λb a i=>by
  rcases List.mem_cons.mp (I.qZ b i)with z|z
  exact(f b a).2.1 z;exact(f b a).2.2.1 z
 iu:=I.stack
 zM:=I.GD
def dH(bs:List Str)(σ:St):St:=o1 bs.length J++σ
def XE{h':Heap}{t':Nat}{m:Str->Option a9}(I:Inv X pins σ H s)(B:hU X bs nb scope)(L:Ug X scope cl (hz s))(E:∀x c,cl.lookup x=U c->(hz s)<=c->h'.IsCell c J)(Q:(hz s)<=C)(hf:∀b∈fp,jR X pins H b)(P:∀b∈fp,b<(hz s))(k:∀b u,s.heap.get? b=U u->h'.get? b=U u)(hn:h'.Ns C m):Inv (N9 X bs nb scope cl C fp s H pins) [] (dH bs σ) H {s with heap:=h',toks:=t'}:=by
 refine⟨a0N I B L Q hf P,rfl,I.bare,Un.kept k,⟨m,hn,λi x v S y f=>?_⟩,λx c e=>?_,I.x5.fresh Q,λx c e=>(L.c1 x c e).elim (λz=>I.gB x c z.1) λz=>I.x5.fresh z.2,λp Z=>?_,I.x5.kept k,?_⟩
 . have q:(bs++nb)[i]? = U x:=S;unfold dH at y;by_cases A:i<bs.length;rw[fm (by simpa using A),ED,b3 A]at y;cases y
   . rw[kx (by simpa using A),pq]at y;rw[kx (by simpa using A)]at q
     have h:=lZ q;have D:(x,bY)∈scope.names:=by
      rcases f with f|f
      exfalso;obtain⟨⟨n,F⟩,G,j⟩:=mem_map.mp (jE f);by_cases a:(F==bY&&X.env.scope.kind==.function&&X.env.kindOf n==U .cell)=Uf;simp only[a]at j;cases j;simp only[a]at j;cases j;exact(B.apart x h (x,.local) G rfl).1 rfl;exact(kT f).resolve_right λz=>(B.apart x h _ z rfl).2 rfl
     have W:Vk X.env.scope x:=.inr (B.S6 _ D rfl);obtain⟨m0,_,Y⟩:=I.loc;obtain⟨u,r,l⟩:=Y _ x v ((B.nms _ x q).resolve_right λz=>z _ D rfl) y W
     refine⟨u,r,?_⟩;have N:(N9 X bs nb scope cl C fp s H pins).env.kindOf x=U .cell\/(N9 X bs nb scope cl C fp s H pins).env.kindOf x=U .free:=by
      rcases f with f|f
      exfalso;obtain⟨⟨n,F⟩,G,j⟩:=mem_map.mp (jE f);by_cases a:(F==bY&&X.env.scope.kind==.function&&X.env.kindOf n==U .cell)=Uf;simp only[a]at j;cases j;simp only[a]at j;cases j;exact(B.apart x h (x,.local) G rfl).1 rfl;exact f
     rcases l with ⟨hk,_⟩|⟨_,c,T,t⟩
     . exfalso;have g:X.env.scope.names.lookup x=U .local:=hk;rcases B.S6 _ D rfl with z|z
       rw[show X.env.scope.names.lookup x=U .cell from z]at g;cases g;rw[show X.env.scope.names.lookup x=U .free from z]at g;cases g
     . obtain⟨R,w⟩:=Option.isSome_iff_exists.mp (L.c2 _ (.inl D));have:R=c:=by
        rcases L.c1 _ _ w with z|z
        exact L1 (z.1.symm.trans T);exact absurd rfl (B.apart x h _ z.1 rfl).2
       subst this;obtain⟨o,M,O⟩:=t;exact .inr ⟨N,R,w,o,k _ _ M,O⟩
 . rcases L.c1 x c e with z|z
   obtain⟨v,o,M,O⟩:=I.cell x c z.1;exact⟨v,o,k _ _ M,O⟩;exact⟨_,E x c e z.2⟩
 . have K:p∈X.pn++pins:=by simpa [N9]using Z
   obtain⟨e,n,ne,V,d⟩:=I.pin p K;refine⟨k _ _ e,n,E9 (C1 (q5 e) Q),λz=>?_,d⟩
   rcases List.mem_cons.mp (I.qZ _ z)with z|z
   exact ne z;exact V z
 delta dH;show _=(bs++nb).length;rw[U6,U6,pq,I.len,B.len]
def Inv.Ir{D:Addr}{o:HO}(I:Inv X pins σ H s)(i:H D=J)(g:D≠X.env.locals)(t:D∈X.ex\/X.M6.heap.objs.size<=D)(j:∀x c,X.env.cells.lookup x=U c->c≠D)(r:∀p∈X.pn++pins,p.1≠D)(new:P9 X.prog X.w (upd H D o) s.heap D o):Inv X pins σ (upd H D o) s:=by
 have a:∀b u,H b=U u->upd H D o b=U u:=λb u e=>by rw[w9 (R9 e i)];exact e
 have:=I.step (d':=s.drawn) (t':=s.toks) (ch:=[D]) (λb f=>?_) (λb d _ _ _ e _=>e) (λb d _ _ _ e _=>⟨d.slots,e⟩) (λb d l e n=>?_) (λb d _ e=>⟨d,e⟩)
  (λb h e=>a b _ e) (λb d u e=>a b _ e) (λb v e=>⟨#[],by rw[a b _ e];simp⟩) (λm k=>k) (λb u e=>?_) I.bare
 exact this
 . have e:b=D:=by simpa using f
   subst e;exact⟨t,g,j,r⟩
 rw[w9 (by simpa using l)];exact n;by_cases f:b=D;subst f;rw[E1]at e;cases e;exact new;rw[w9 f]at e;exact(I.x5 b u e).uK (λ_ _ _ q=>q) (λc q=>a c _ q) λc h q=>a c _ q
end
def zg(X:Cx)(ifs:List Expr)(t:TT):Prop :=
 ∀(pins:List (Addr×Obj)) (s:b9) (σ:St) (H:Hp) (Q:Bool->Hp->Prop) (E:a9->b9->Prop),(∀e s',X.xe e s'->E e s')->Inv X pins σ H s->t σ H Q ->
  wpAny (model X.prog X.w) X.A (forIn ifs Uf λc r=>if r=Uf then do let ok <- isTrue c X.env (eval c X.env);pure (jz ok)else pure (jz r)) (TP X pins σ Q) E s
def vF:TT:=λ_ H Q=>Q Uf H
def uR{X:Cx}:zg X [] vF:=λ_ _ _ H _ _ _ I h=>wpAny_tests_nil ⟨H,I,h⟩
def RM{X:Cx}{c:Expr}{t:TT}(h:PT X c t):zg X [c] t:=λa s b H Q E d I q=>wpAny_tests_one (Z1 (h a s b H Q I q) (λ_ _ z=>z) d)
section
variable{prog:n9}{w:k7}{A:t6}{R:Result->b9->Prop}{s:b9}
def Gi {o:Expr} {t:List Expr} {scope:F8} {pos:Pos} {k:a9} (I:Nat->b9->Prop) (turn:∀n s,I n s->wpAny (model prog w) A (gK it) (λr s₁=>match r with
   |none=>R (.ok .next) s₁
   |some v=>wpAny (model prog w) A (DW a it v) (λ_ M6=>wpAny (model prog w) A (assign a env v) (λ_ s₂ =>
     wpAny (model prog w) A (forIn t Uf λc r=>if r=Uf then do let ok <- isTrue c env (eval c env);pure (jz ok)else pure (jz r)) (λok s₃ =>
      if ok=Uf then wpAny (model prog w) A (eval p env) (λx i =>
       wpAny (model prog w) A (call (.builtin "list.append") [k,x]) (λ_ f=>∃m,m<n/\I m f) (gL (model prog w) A env λe s'=>R (.error e) s') i) (gL (model prog w) A env λe s'=>R (.error e) s') s₃
      else ∃m,m<n/\I m s₃) (gL (model prog w) A env λe s'=>R (.error e) s') s₂) (gL (model prog w) A env λe s'=>R (.error e) s') M6) (gL (model prog w) A env λe s'=>R (.error e) s') s₁) (gL (model prog w) A env λe s'=>R (.error e) s') s)
  (n:Nat) (h:I n s) :
  codeAny (model prog w) A (.compLoop (.ListComp p [⟨a,o,t,0⟩] scope pos) 0 it k env) R s:=by
 refine codeAny_loop rfl I (λn s y=>?_) n h;refine wpAny_noted ?_;refine c5 (DG (c5 (Z1 (turn n s y) (λr s₁ d=>?_) λ_ _ b=>b)))
 cases r with
 |none=>exact i5 d
 |some v =>
  refine c5 (Z1 d (λ_ M6 j=>?_) λ_ _ b=>b);refine c5 (Z1 j (λ_ s₂ q=>c5 (Z1 q (λok s₃ g=>?_) λ_ _ b=>b)) λ_ _ b=>b)
  cases ok with
  |false=>exact i5 ⟨rfl,g⟩
  |true =>
   exact c5 (c5 (Z1 g (λx i l=>c5 (Z1 l (λ_ f u=>i5 (i5 ⟨rfl,u⟩)) λ_ _ b=>b)) λ_ _ b=>b))
end
def hC(n:Nat)(g:TG):Prop:=∀x σ H Q,g x σ H Q->g x σ H λσ2 H2=>Q σ2 H2/\σ2.length=σ.length/\∀j,n<=j->σ2[j]? = σ[j]?
def AR(n:Nat)(g:oE):Prop:=∀x σ H Q,g x σ H Q->g x σ H λσ2 H2=>Q σ2 H2/\σ2.length=σ.length/\∀j,n<=j->σ2[j]? = σ[j]?
def Nx{n i:Nat}(h:autoParam (i<n) a6._auto_1):hC n (V5 i):=λx b H Q q=>⟨q,by simp,λj a=>by rw[fk (E9 (C1 c6 c6))]⟩
def Nw{n:Nat}:AR n JK:=λx a H Q q=>⟨q.1,q.2,rfl,λ_ _=>rfl⟩
def wy{n i:Nat}{u:oE}(o:AR n u)(h:autoParam (i<n) a6._auto_1):AR n (tN (V5 i) u):=λx f H Q q=>by
 obtain⟨v,r,e,q⟩:=q;refine⟨v,r,e,?_⟩;have m:∀d:St,(d.length=(f.set i (U v)).length/\∀j,n<=j->d[j]? = (f.set i (U v))[j]?)->d.length=f.length/\∀j,n<=j->d[j]? = f[j]?:=λd ⟨a,b⟩=>by
  refine⟨by simpa using a,λj k=>?_⟩;have:=b j k
  rwa [fk (E9 (C1 c6 c6))]at this
 have l:(λd g=>Q d g/\d.length=(f.set i (U v)).length/\∀j,n<=j->d[j]? = (f.set i (U v))[j]?)=λd g=>Q d g/\d.length=f.length/\∀j,n<=j->d[j]? = f[j]?:=by
  funext d g
  apply propext;constructor;rintro⟨a,b⟩;exact⟨a,m d b⟩;rintro⟨a,b,c⟩;refine⟨a,by simpa using b,λj k=>?_⟩;rw[fk (E9 (C1 c6 c6))];exact c j k
 rw[<-l];exact(o r (f.set i (U v)) H Q q)
def Ti{n:Nat}{K:d2}{m:Nat}{t:oE}(h:AR n t):hC n (Co K m t):=λx d H Q q=>by obtain⟨a,b,e,c,f,q⟩:=q;exact⟨a,b,e,c,f,h b d H Q q⟩
def a1Z(Jff:It)(bs:List Str)(g:TG)(tt:TT)(te:TE)(σ:St)(Q:VK)(H1:Hp):Prop:=∃(n:Nat) (W:Nat->List V->Hp->Prop),n<=p8/\W 0 [] H1/\∀i ys H,W i ys H ->
 ((Jff.stop i H/\∀p,H p=J->Q (.ref p) (upd H p (.lst ys)))\/(Jff.go i H/\i<n/\∀x H',Jff.Um i H x H'->g x (dH bs σ) H' λσ2 H2=>tt σ2 H2 λb H3=>if b=Uf then te σ2 H3 (λy H4=>W (i+1) (ys++[y]) H4)else W (i+1) ys H3))
def eX(bs:List Str)(wi:TI)(g:TG)(tt:TT)(te:TE):TE:=λσ H Q=>wi σ H λJff H1=>a1Z Jff bs g tt te σ Q H1
def Vals.snoc{xs:List V}{us:List a9}{x:V}(r:Vals xs us)(h:RelV x u):Vals (xs++[x]) (us++[u]):=r.append (.cons h .nil)
def Vr{M:Model}{A:t6}{E:a9->b9->Prop}{s:b9}{scope:F8}{a:Addr}{cl:List (Str×Addr)}{b:Str}{Q:Env->b9->Prop}{f:Addr}(g:Q (newEnv scope (hz s) a (eN ((hz s)+1) scope.names cl) b J .none (U env) f) {s with heap:=oG (s.heap.push {cls:=.type "dict",data:=.dict #[]}) scope.names}):
  wpAny M A (newFunctionEnv scope a cl [] b J .none (U env) f) Q E s:=by
 simp only[newFunctionEnv,Option.isSome_some,L9];refine c5 (wpAny_alloc ?_);refine c5 (wpAny_layCells _ (λe c d=>by rfl) _ _ _ _ ?_);rw[show({s with heap:=s.heap.push {cls:=.type "dict",data:=.dict #[]}}:b9).heap.objs.size=(hz s)+1 from fh ..];refine c5 ?_;exact i5 (i5 g)
def Gn{X:Cx}{bs nb:List Str}{scope:F8}{pos:Pos}{use:Option (a9->Sem Unit)}{R:a9->b9->Prop}(hc:X.calm=Uf)(B:hU X bs nb scope)(hi:PI X tg F wi)(go:hC bs.length g)(hg:∀cl C fp s H pins,PG (N9 X bs nb scope cl C fp s H pins) tg g)(ht:∀cl C fp s H pins,zg (N9 X bs nb scope cl C fp s H pins) Z tt)(he:∀cl C fp s H pins,PE (N9 X bs nb scope cl C fp s H pins) elt te)(hs:∀x,bO F X.env x=pure x)(pins:List (Addr×Obj))(s:b9)(σ:St)(H:Hp)(Q:VK)(I:Inv X pins σ H s)(h:eX bs wi g tt te σ H Q)(hfin:∀(D C:Addr) (s':b9) (H':Hp) (f:Flow),Inv X pins σ H' s'->Q (.ref D) H'->jR X pins H' C->(∃m,s'.heap.Ns C m)->rY (model X.prog X.w) X.A X.xe use R (.ref D) C (.ok f) s'):
  wpAny (model X.prog X.w) X.A (comprehension (.ListComp elt [⟨tg,F,Z,0⟩] scope pos) scope X.env (firstIterPos [⟨tg,F,Z,0⟩] pos) (newList []) (firstAsync [⟨tg,F,Z,0⟩]) (firstIter [⟨tg,F,Z,0⟩] X.env) use) R X.xe s:=by
 obtain⟨cl0,hcl,c1,c2⟩:=JR (λy hy hf=>I.ok.has y.1 (B.S6 y hy hf));refine wpAny_comprehension_free rfl hs hcl B.kind B.names (t9 (hi pins s σ H _ I h) λv s1 h1=>t9 h1 λitv a h2=>?_)
 obtain⟨it,fp,tn,Jff,H2,e,M,T,st2,f2,n,W,hn,w0,turn⟩:=h2;subst e;have hlt:∀b∈fp,b<a.heap.objs.size:=λb l=>by obtain⟨o,e,_⟩:=T.obj _ _ st2 b l;exact q5 e
 refine iL (Vr ?_);generalize hH2:a.heap.push {cls:=.type "list",dict:=J,data:=.seq ([]).toArray}=E;have hCs:E.objs.size=a.heap.objs.size+1:=by rw[<-hH2,fh]
 have hDC:a.heap.objs.size≠E.objs.size:=by rw[hCs];exact E9 (sA _)
 have t:a.heap.objs.size<=E.objs.size:=by rw[hCs];exact Nat.le_succ _
 have sz3:(E.push {cls:=.type "dict",data:=.dict #[]}).objs.size=E.objs.size+1:=fh ..;obtain⟨f1,f3,f4⟩:=JT a.heap.objs.size (λx c=>X.env.cells.lookup x=U c) scope.names (E.push {cls:=.type "dict",data:=.dict #[]}) cl0 (λ_=>False) b6
  (λx c e=>⟨by obtain⟨v,q⟩:=M.cell x c (c1 x c e);rw[sz3];exact sG (C1 q.lt t),.inl ⟨c1 x c e,λz=>z⟩⟩) (λx y c e1 e2=>M.ok.inj x y c (c1 x c e1) (c1 y c e2)) λx z=>z.elim
 rw[sz3]at f1 f3 f4;generalize hcl':eN (E.objs.size+1) scope.names cl0=cl at f1 f3 f4 ⊢;have P:(oG (E.push {cls:=.type "dict",data:=.dict #[]}) scope.names).Ns E.objs.size (λ_=>J):=(Heap.Ns.new E (.type "dict")).keeps (pushCells_keeps _ _);have old0:∀b o,E.get? b=U o->(oG (E.push {cls:=.type "dict",data:=.dict #[]}) scope.names).get? b=U o:=λb o e=>pushCells_keeps _ _ b o (s9 _ e);generalize oG (E.push {cls:=.type "dict",data:=.dict #[]}) scope.names=h₁ at f1 P old0 ⊢;have old:=λb o e=>old0 b o (hH2▸s9 _ e);have hacc:=old0 _ _ (hH2▸J4 _ rfl);have hDn:=λb l=>E9 (hlt b l);have L:Ug X scope cl a.heap.objs.size:=⟨λx c e=>(f1 x c e).imp (λz=>⟨z.1,λy=>z.2 (.inr y)⟩) λz=>⟨z.1.resolve_left λy=>y,z.2.1⟩,λx z=>f4 x (z.elim (λz=>.inr (c2 _ z rfl)) λz=>.inl (.inr z)),f3⟩
 have nD:∀x c,cl.lookup x=U c->c≠a.heap.objs.size:=λx c e z=>by
  rcases f1 x c e with ⟨y,_⟩|⟨_,_,o,y,yd⟩
  obtain⟨v,q⟩:=M.cell x c y;exact absurd q.lt (by rw[z];exact S5 _);rw[z,hacc]at y;cases y;cases yd
 have J0:=XE (t':=a.toks) M B L (λx c e z=>(f1 x c e).elim (λy=>by obtain⟨v,q⟩:=M.cell x c y.1;exact absurd q.lt (Nat.not_lt.mpr z)) λy=>y.2.2) t f2 hlt old P
 generalize G:N9 X bs nb scope cl E.objs.size fp a H2 pins=O at J0;have fpB:∀{H':Hp} {pl:List (Addr×Obj)},(∀b∈fp,H' b=J)->(∀p∈pl,p.1∉fp)->∀b∈fp,jR O pl H' b:=λ{H' pl} hz N b l=>by
  subst G;refine⟨hz b l,E9 (C1 (hlt b l) t),J0.ok.yX b l,.inl l,J0.ok.Vb b l |>.2,λp hq=>?_⟩
  rcases List.mem_append.mp hq with z|z
  exact(f2 b l).2.2.2.2.2 p z;intro e;exact N p z (e▸l)
 have Dfs:a.heap.objs.size∉O.fs:=λl=>by
  subst G;rcases List.mem_cons.mp (M.qZ _ l)with z|z
  exact absurd M.lt (by rw[<-z];exact S5 _);exact M.Sy o6 z
 have Dcell:∀x c,X.env.cells.lookup x=U c->c≠a.heap.objs.size:=λx c e z=>by obtain⟨v,q⟩:=M.cell x c e;exact absurd q.lt (by rw[z];exact S5 _)
 have Dpin:=λp N=>E9 (q5 (M.pin p N).1);have Dloc:a.heap.objs.size≠O.env.locals:=λz=>hDC (z.trans (m2 (·.env.locals) G).symm)
 have pinD:∀{σ':St} {H':Hp} {s':b9} {o:Obj},Inv O [] σ' H' s'->s'.heap.get? a.heap.objs.size=U o->H' a.heap.objs.size=J->(∀v,o.data≠.cell v)->Inv O [(a.heap.objs.size,o)] σ' H' s':=λ{σ' H' s' o} I' e hz hd =>
  I'.iq λp N=>by
   have ep:p=(a.heap.objs.size,o):=by simpa using N
   subst ep;exact⟨e,hz,Dloc,Dfs,hd⟩
 have loop:∀s₃:b9,s₃={a with heap:=h₁,toks:=a.toks} ->
   codeAny (model X.prog X.w) X.A (.compLoop (.ListComp elt [⟨tg,F,Z,0⟩] scope pos) 0 (.ref it) (.ref a.heap.objs.size) (rZ scope cl E.objs.size X.env))
    (rY (model X.prog X.w) X.A X.xe use R (.ref a.heap.objs.size) E.objs.size) s₃:=by
  rintro s₃ rfl;refine Gi (λk s'=>∃(i:Nat) (ys:List V) (S:List a9) (z:Nat) (H':Hp),k=n-i+1/\i<=n/\S.length<=i/\Vals ys S/\Inv O [(a.heap.objs.size,{cls:=.type "list",data:=.seq S.toArray z})] (dH bs σ) H' s'/\tn i s'.heap/\(∀b∈fp,H' b=J)/\W i ys H') ?_ (n-0+1)
   ⟨0,[],[],0,H2,rfl,cY _,Z6 _,.nil,pinD J0 hacc (M.x5.fresh o6) (λv z=>by cases z),T.keep _ _ _ st2 λb _ o e=>old b o e,λb l=>(f2 b l).1,w0⟩
  rintro k s3 ⟨i,ys,S,z,H3,rfl,hin,hul,rv,I3,st3,fr3,w3⟩;have npl:∀p∈([(a.heap.objs.size,{cls:=.type "list",data:=.seq S.toArray z})]:List (Addr×Obj)),p.1∉fp:=λp N hm=>by
   have ep:p=(a.heap.objs.size,{cls:=.type "list",data:=.seq S.toArray z}):=by simpa using N
   subst ep;exact hDn _ hm rfl
  have eP:=(m2 (·.prog) G).symm;have eW:=(m2 (·.w) G).symm;have eK:=(m2 (·.K) G).symm;have eA:=(m2 (·.A) G).symm;have eC:=(m2 (·.calm) G).symm.trans hc;rcases turn i ys H3 w3 with ⟨stop,fin⟩|⟨gon,hlt',step⟩
  . have hd:=T.done O eP eW eK eC i _ s3 (dH bs σ) H3 (gL (model X.prog X.w) X.A (rZ scope cl E.objs.size X.env) λe s'=>rY (model X.prog X.w) X.A X.xe use R (.ref a.heap.objs.size) E.objs.size (.error e) s') I3 (fpB fr3 npl) st3 stop;rw[eA]at hd;refine t9 hd λr s4 ⟨hr,I4⟩=>?_
    subst hr;obtain⟨m,hm,_⟩:=I4.loc;have pD:=I4.pin (a.heap.objs.size,{cls:=.type "list",data:=.seq S.toArray z}) (A3 _ (mem_singleton.mpr rfl));have hCl:O.env.locals=E.objs.size:=(m2 (·.env.locals) G).symm;have I5:Inv X pins σ H3 s4:=by
     have hun:Un (mQ X.stack) fp H2 H3 a.heap s4.heap:=by have z:=I4.base;rw[<-G]at z;exact z
     exact M.a1Y (I4.os.trans (m2 (·.M6.os) G).symm) hun ((m2 (λY:Cx=>v5 Y.prog Y.w H3 s4.heap) G).mpr I4.x5) I4.bare λb l=>⟨(f2 b l).2.2.2.1,(f2 b l).2.1,(f2 b l).2.2.2.2.1,(f2 b l).2.2.2.2.2⟩
    have hys:ys.length<=p8:=by rw[rv.length];lia
    refine hfin a.heap.objs.size E.objs.size s4 _ _ (I5.Ir (o:=.lst ys) pD.2.1 (bX M.lt) (.inr M.sz) Dcell Dpin ⟨hys,S,z,rv,pD.1⟩) (fin _ pD.2.1) ⟨?_,bX (C1 M.lt t),M.Sy t,.inr (i0 M.sz t),λx c e q=>?_,λp N q=>?_⟩ ⟨m,(hCl▸hm)⟩;rw[w9 (ay hDC)];exact(hCl▸I4.free);obtain⟨v,q2⟩:=M.cell x c e;exact absurd (C1 q2.lt (by rw[q];exact t)) (S5 _);exact absurd (C1 (q5 (M.pin p N).1) (by rw[q];exact t)) (S5 _)
  . have hd:=T.item O eP eW eK eC i _ s3 (dH bs σ) H3 (gL (model X.prog X.w) X.A (rZ scope cl E.objs.size X.env) λe s'=>rY (model X.prog X.w) X.A X.xe use R (.ref a.heap.objs.size) E.objs.size (.error e) s') I3 (fpB fr3 npl) st3 gon;rw[eA]at hd;refine t9 hd λr s4 ⟨u,hr,h4⟩=>?_;subst hr;refine t9 h4 λ_ s5 ⟨x,H5,I5,r5,y5,st5,fr5⟩=>?_;have hxe:=λe s' q=>(congrFun (congrFun (m2 (·.xe) G) e) s').mpr q;have eE:=(m2 (·.env) G).symm;have w6:=(G▸hg _ _ _ _ _ _) _ s5 (dH bs σ) H5 x u _ (I5.pinned (fpB fr5 npl) (T.obj _ _ st5)) r5 (go x (dH bs σ) H5 _ (step x H5 y5));rw[eP,eW,eA,eE]at w6;refine Z1 w6 (λ_ s6 ⟨σ6,H6,I6,q6,l6,e6⟩=>?_) λ_ _ q=>(hxe _ _ q).elim;have w7:=(G▸ht _ _ _ _ _ _) _ s6 σ6 H6 _ (gL (model X.prog X.w) X.A (rZ scope cl E.objs.size X.env) λe s'=>rY (model X.prog X.w) X.A X.xe use R (.ref a.heap.objs.size) E.objs.size (.error e) s') (λ_ _ q=>(hxe _ _ q).elim) I6 q6;rw[eP,eW,eA,eE]at w7;refine t9 w7 λok s7 ⟨H7,I7,q7⟩=>?_
    have weak:∀{pl:List (Addr×Obj)} {H':Hp} {s':b9},Inv O pl σ6 H' s'->Inv O pl (dH bs σ) H' s':=λ{pl H' s'} I'=>I'.weak l6.symm λj v hj=>by
     by_cases hjn:j<bs.length;unfold dH at hj;rw[fm (by simpa using hjn),ED,b3 hjn]at hj;cases hj;rw[e6 j (lO hjn)];exact hj
    have unp:∀{σ':St} {H':Hp} {s':b9},Inv O ([(a.heap.objs.size,({cls:=.type "list",data:=.seq S.toArray z}))]++rh fp s5.heap) σ' H' s' ->
      (∀b∈fp,∀o,s5.heap.get? b=U o->s'.heap.get? b=U o)/\(∀b∈fp,H' b=J)/\s'.heap.get? a.heap.objs.size=U {cls:=.type "list",data:=.seq S.toArray z}/\H' a.heap.objs.size=J:=λ{σ' H' s'} I'=>by
     refine⟨λb l o e=>(I'.pin (b,o) (A3 _ (A3 _ (kj l e)))).1,λb l=>?_,?_,?_⟩;obtain⟨o,e,d⟩:=T.obj _ _ st5 b l;exact(I'.pin (b,o) (A3 _ (A3 _ (kj l e)))).2.1;exact(I'.pin (a.heap.objs.size,{cls:=.type "list",data:=.seq S.toArray z}) (A3 _ (L3 _ (mem_singleton.mpr rfl)))).1;exact(I'.pin (a.heap.objs.size,{cls:=.type "list",data:=.seq S.toArray z}) (A3 _ (L3 _ (mem_singleton.mpr rfl)))).2.1
    cases ok with
    |false =>
     obtain⟨k1,k2,k3,k4⟩:=unp I7;refine⟨n-(i+1)+1,Ot (OW _ _ hlt'),i+1,ys,S,z,H7,rfl,hlt',ph c6,rv,pinD (weak (I7.iq λp N=>nomatch N)) k3 k4 (λv q=>by cases q),T.keep _ _ _ st5 k1,k2,?_⟩;simpa using q7
    |true =>
     have q7':te σ6 H7 λy H4=>W (i+1) (ys++[y]) H4:=by simpa using q7
     have w8:=(G▸he _ _ _ _ _ _) _ s7 σ6 H7 _ I7 q7';rw[eP,eW,eA,eE]at w8;refine Z1 w8 (λuy s8 ⟨y,H8,I8,r8,q8⟩=>?_) λ_ _ q=>(hxe _ _ q).elim;obtain⟨k1,k2,k3,k4⟩:=unp I8;refine append_at k3 λh9 sb9 g9=>?_;have I8':Inv O [] (dH bs σ) H8 s8:=weak (I8.iq λp N=>nomatch N)
     have ePn:O.pn=X.pn++pins:=(m2 (·.pn) G).symm;have eCl:O.env.cells=cl:=(m2 (·.env.cells) G).symm;have I9:Inv O [] (dH bs σ) H8 {s8 with heap:=h9}:=I8'.turned (λb o l e=>sb9.extBut b o l e) k4 Dloc (.inr (by rw[((m2 (·.M6) G).symm)];exact Z6 _))
      (λx c e=>nD x c (by rw[<-eCl];exact e)) (λp N=>Dpin p (by rw[ePn]at N;simpa using N))
     refine⟨n-(i+1)+1,Ot (OW _ _ hlt'),i+1,ys++[y],S++[uy],z+1,H8,rfl,hlt',by rw[U6,Ew];simp[*],rv.snoc r8,pinD I9 ?_ k4 (λv q=>by cases q),T.keep _ _ _ st5 λb l o e=>?_,k2,q8⟩;rw[g9,List.push_toArray];exact sb9.extBut b o (hDn b l) (k1 b l o e)
 exact codeAny_compStart_list (loop _ rfl) (T.self _ 0 _ _ _ (T.keep _ _ _ st2 λb _ o e=>old b o e) (loop _ rfl))
def Hd{X:Cx}{bs nb:List Str}{d:Expr}{i:List Expr}{scope:F8}{pos:Pos}{k:TI}(r:X.calm=Uf)(B:hU X bs nb scope)(v:PI X j a k)(A:hC bs.length g)(n:∀cl C fp s H pins,PG (N9 X bs nb scope cl C fp s H pins) j g)(F:∀cl C fp s H pins,zg (N9 X bs nb scope cl C fp s H pins) i tt)(y:∀cl C fp s H pins,PE (N9 X bs nb scope cl C fp s H pins) d te)(hs:autoParam (∀x,bO a X.env x=pure x) U0._auto_1):PE X (.ListComp d [⟨j,a,i,0⟩] scope pos) (eX bs k g tt te):=by
 intro pins s l H Q I h;refine Gn r B v A n F y hs pins s l H Q I h λD C G E f u q c ⟨m,z⟩=>⟨m,z,λw t=>?_⟩;exact⟨.ref D,E,u.turned (λb o p e=>t.extBut b o p e) c.1 c.2.1 c.2.2.2.1 c.2.2.2.2.1 c.2.2.2.2.2,rfl,q⟩
def yo{X:Cx}{bs nb:List Str}{scope:F8}{cpos pos c:Pos}{i:Nat}{x:Str}(hN:X.N.Nodup)(A:X.N[i]? = U x)(hx:Loc X.env.scope x)(hc:X.calm=Uf)(B:hU X bs nb scope)(hi:PI X r a L)(go:hC bs.length g)(S:∀cl C fp s H pins,PG (N9 X bs nb scope cl C fp s H pins) r g)(ht:∀cl C fp s H pins,zg (N9 X bs nb scope cl C fp s H pins) k tt)(W:∀cl C fp s H pins,PE (N9 X bs nb scope cl C fp s H pins) j te)(G:autoParam (Q4 (.ListComp j [⟨r,a,k,0⟩] scope cpos) (U (.Name x c)) pos.line X.env=pure Uf) d3._auto_1)(hf:autoParam (X.fn x=Uf\/X.env.scope.names.lookup x=U .local) dG._auto_1)(hs:autoParam (∀x,bO a X.env x=pure x) U0._auto_1):PS X (.Assign [.Name x c] (.ListComp j [⟨r,a,k,0⟩] scope cpos) pos) (gj (eX bs L g tt te) (V5 i)):=by
 intro pins s u H D I h;rw[exec_Assign_Name_used _ _ _ _ G];refine c5 (DG ?_);refine c5 (c5 (t9 (Gn hc B hi go S ht W hs pins s u H _ I h λK C s' Q f O q d ⟨m,Z⟩=>?_) λ_ s' t=>i5 (i5 t)))
 obtain⟨n,es,ep,Y,P,hr⟩:=id Z;have R:Inv X ((C,n)::pins) u Q s':=O.iq λp l=>by
  rcases List.mem_cons.mp l with rfl|l
  exact⟨Y,d.1,d.2.1,d.2.2.1,λv z=>by rw[P]at z;cases z⟩;exact O.pin p (A3 _ l)
 refine t9 (GZ hN A hx hf ((C,n)::pins) s' u Q (.ref K) (.ref K) D.nx R rfl q) λ_ V ⟨y,E,F,q3⟩=>?_;have M:=F.pin (C,n) (A3 _ m8);refine⟨m,⟨n,es,ep,M.1,P,hr⟩,λh'' sb=>⟨y,E,?_,q3⟩⟩;exact(F.iq λp l=>F.pin p (A3 _ (m5 _ l))).turned (λb o T e=>sb.extBut b o T e) M.2.1 d.2.1 d.2.2.2.1 d.2.2.2.2.1 d.2.2.2.2.2
end
section
variable{a it z i1 i2 B C S:Addr}{h h':Heap}{k t':Nat}{xs ys:Array a9}{Q:a9->b9->Prop}{I T k1:Bool}{X:Cx}{pins:List (Addr×Obj)}{H:Hp}{K:d2}
section
variable{prog:n9}{w:k7}{A:t6}{E:a9->b9->Prop}{s:b9}
def jX(kd:Bool)(h:Heap)(i l:Addr)(k:Nat):Prop:=match kd with
 |true=>h.IsTupleIter i l k
 |false=>h.IsListIter i l k
def qI(kd:Bool)(h:Heap)(i l:Addr)(k:Nat)(xs:Array a9):Prop:=match kd with
 |true=>h.IsTupleIter i l k/\h.IsTuple l xs
 |false=>h.IsListIter i l k/\h.IsList l xs
theorem jX.at{a:Bool}{h h':Heap}{i l:Addr}{k:Nat}(x:jX a h i l k)(e:∀o,h.get? i=U o->h'.get? i=U o):jX a h' i l k:=by
 cases a;exact Heap.IsListIter.at (show h.IsListIter i l k from x) e;exact Heap.IsTupleIter.at (show h.IsTupleIter i l k from x) e
def jX.obj{a:Bool}{i l:Addr}(x:jX a h i l k):∃o,h.get? i=U o/\∀v,o.data≠.cell v:=by
 cases a;obtain⟨o,e,_,d⟩:=(show h.IsListIter i l k from x);exact⟨o,e,λv z=>by rw[d]at z;cases z⟩;obtain⟨o,e,_,d⟩:=(show h.IsTupleIter i l k from x);exact⟨o,e,λv z=>by rw[d]at z;cases z⟩
def qI.kept{a:Bool}{i l:Addr}(x:qI a h i l k xs)(e:∀b o,b=i\/b=l->h.get? b=U o->h'.get? b=U o):qI a h' i l k xs:=by
 cases a;obtain⟨x,⟨o,c,r⟩⟩:=(show h.IsListIter i l k/\h.IsList l xs from x);exact⟨x.at λo q=>e i o (.inl rfl) q,⟨o,e l o (.inr rfl) c,r⟩⟩;obtain⟨x,⟨o,c,r⟩⟩:=(show h.IsTupleIter i l k/\h.IsTuple l xs from x);exact⟨x.at λo q=>e i o (.inl rfl) q,⟨o,e l o (.inr rfl) c,r⟩⟩
def Jk{t:Addr}{i:Nat}{x:a9}(a:s.heap.IsTupleIter it t i)(e:s.heap.IsTuple t xs)(h:xs[i]? = U x)(f:∀h',h'.IsTupleIter it t (i+1)->jv it s.heap h'->Q x {s with heap:=h'}):wpAny (model prog w) A (ya (.ref it)) Q E s:=by
 obtain⟨j,c,g,b⟩:=id a;obtain⟨k,d,_,n,dt⟩:=e;refine c5 (gI a.typeIs ye
  (dN ye a.typeIs PJ ?_ (PK _)))
 show wpAny _ _ (field (.ref it) 0 >>= _) _ _ s;refine c5 (F7 c b rfl ?_);refine c5 (F7 c b rfl ?_);refine c5 (fg d dt ?_);simp only[fj,h];refine c5 (sy c b o8 (i5 ⟨x,rfl,i5 (f _ ?_ (Eo ..))⟩));refine⟨_,ma _ c (Et (pj b _)),(OA ..).trans g,?_⟩;rw[pj b];rfl
def Mr{t:Addr}{i:Nat}(j:A.handled=J)(a:s.heap.IsTupleIter it t i)(h:s.heap.IsTuple t xs)(l:xs[i]? = J)(k:∀h' e,xm it s.heap h'->(∃o,h'.get? e=U o/\o.cls=.type "StopIteration")->E (.ref e) {s with heap:=h'}):wpAny (model prog w) A (ya (.ref it)) Q E s:=by
 obtain⟨m,d,p,c⟩:=id a;obtain⟨q,g,_,n,dt⟩:=h;refine c5 (gI a.typeIs ye
  (dN ye a.typeIs PJ ?_ (PK _)))
 show wpAny _ _ (field (.ref it) 0 >>= _) _ _ s;refine c5 (F7 d c rfl ?_);refine c5 (F7 d c rfl ?_);refine c5 (fg g dt ?_);simp only[fj,l];refine c5 (eO (c5 (sy d c o8 ?_)));refine c5 ?_;refine c5 (iL ?_ (by size_fits));refine c5 (eQ (by rfl) ?_);refine iL ?_ (by size_fits);refine c5 (wpAny_handled ?_);rw[j];refine wpAny_throw (k _ _ (λb o f e=>?_) ⟨_,J4 _ rfl,rfl⟩);exact s9 _ (s9 _ ((Eo ..).extBut b o f e))
def ki{c:Bool}{l:Addr}{i:Nat}{x:a9}(h:qI c s.heap it l i xs)(f:l≠it)(e:xs[i]? = U x)(d:∀h',jX c h' it l (i+1)->jv it s.heap h'->Q x {s with heap:=h'}):wpAny (model prog w) A (ya (.ref it)) Q E s:=by
 cases c;exact Ez h.1 h.2 e λh' b a=>d h' b a;exact Jk h.1 h.2 e λh' b a=>d h' b a
def mH{a:Bool}{l:Addr}{i:Nat}(b:A.handled=J)(h:qI a s.heap it l i xs)(d:xs[i]? = J)(c:∀h' e,xm it s.heap h'->(∃o,h'.get? e=U o/\o.cls=.type "StopIteration")->E (.ref e) {s with heap:=h'}):wpAny (model prog w) A (ya (.ref it)) Q E s:=by
 cases a;exact Pa b h.1 h.2 d c;exact Mr b h.1 h.2 d c
def Kj {k2:Bool} {TI TO:Addr} {x y a b:a9} {Q:Option a9->b9->Prop} (D:eM z TI TO i1 i2 B C) (hz:IsZip s.heap z TI TO .none) (r:L8 s.heap TI (.ref i1) (.ref i2)) (v:L8 s.heap TO a b) (h1:qI I s.heap i1 B k xs) (V:qI k2 s.heap i2 C k ys) (hx:xs[k]? = U x) (X:ys[k]? = U y) (hQ:∀h',IsZip h' z TI TO (G9 s.heap.objs.size)->L8 h' TO x y->jX I h' i1 B (k + 1)->jX k2 h' i2 C (k + 1)->L8 h' s.heap.objs.size x y ->
   (∀c o,c≠z->c≠TO->c≠i1->c≠i2->s.heap.get? c=U o->h'.get? c=U o)->Q (U (.ref s.heap.objs.size)) {s with heap:=h'}) :
  wpAny (model prog w) A (gK (.ref z)) Q E s:=by
 have O:s.TypeIs (.ref z) "zip":=⟨_,hz,rfl⟩;refine c5 (gR (gI O jy (dN jy O xH ?_ (xK _))));show wpAny _ _ (field (.ref z) 2 >>= _) _ _ _;refine c5 (F7 hz rfl rfl ?_);refine c5 (F7 hz rfl rfl (c5 (fg r rfl ?_)));refine c5 ?_;refine c5 (F7 hz rfl rfl (i5 ?_));refine c5 (eO (c5 (F7 hz rfl rfl (c5 (lV hz o8 λg1 z1 i=>?_)))));refine c5 ?_;refine c5 (c5 (xr ?_));refine c5 (ki (h1.kept λc o l e=>i.extBut c o (by rcases l with rfl|rfl;exact D.i1z;exact D.l1z) e) D.l1i1 hx λg2 p1 m=>i5 ?_);have G:=m.extBut _ _ D.TOi1 (i.extBut _ _ D.TOz v);refine c5 (fg G rfl (c5 (Er G λg3 t3 g=>?_)))
 refine c5 (xl (i5 ?_));refine c5 (c5 (xr ?_));have q2:=V.kept λc o l e=>by
  have Z:c≠z:=by rcases l with rfl|rfl;exact D.i2z;exact D.l2z
  have n2:c≠i1:=by rcases l with rfl|rfl;exact D.i12.symm;exact D.l2i1
  have W:c≠TO:=by rcases l with rfl|rfl;exact D.TOi2.symm;exact D.l2TO
  exact g.extBut c o W (m.extBut c o n2 (i.extBut c o Z e))
 refine c5 (ki q2 D.l2i2 X λg4 Y h=>i5 ?_);have N:=h.extBut _ _ D.TOi2 t3;refine c5 (fg N rfl (c5 (Er N λf q j=>?_)))
 replace q:L8 f TO x y:=q;refine c5 (xl (i5 (i5 (c5 (fg q rfl (c5 (wpAny_newTuple ?_)))))));have sz:f.objs.size=s.heap.objs.size:=by rw[j.1,h.1,g.1,m.1,i.1]
 have M:=j.extBut _ _ D.TOz.symm (h.extBut _ _ D.i2z.symm (g.extBut _ _ D.TOz.symm (m.extBut _ _ D.i1z.symm z1)));have k5:∀c o,c≠z->c≠TO->c≠i1->c≠i2->s.heap.get? c=U o->f.get? c=U o:=λc o d n u t e =>
  j.extBut _ _ n (h.extBut _ _ t (g.extBut _ _ n (m.extBut _ _ u (i.extBut _ _ d e))))
 refine c5 ?_;have T:IsZip (f.push {cls:=.type "tuple",data:=.seq #[x,y]}) z TI TO .ellipsis:=s9 _ M;refine c5 (lV T o8 λg7 z7 P=>?_);refine lV z7 o8 λK R S=>?_;have p:∀c o,c≠z->f.get? c=U o->K.get? c=U o:=λc o d e=>S.extBut _ _ d (P.extBut _ _ d (s9 _ e));have L:=bX (q5 M);have H:=S.extBut _ _ L (P.extBut _ _ L (J4 _ rfl));rw[sz]at R H;refine i5 ⟨_,rfl,i5 ?_⟩;rw[sz];exact hQ K R (p _ _ D.TOz q) ((p1.at λo e=>j.extBut _ _ D.TOi1.symm (h.extBut _ _ D.i12 (g.extBut _ _ D.TOi1.symm e))).at λo e=>p _ o D.i1z e) ((Y.at λo e=>j.extBut _ _ D.TOi2.symm e).at λo e=>p _ o D.i2z e) H λc o d n u t e=>p c o d (k5 c o d n u t e)
def PY{k2:Bool}{TI TO P:Addr}{a b:a9}{Q:Option a9->b9->Prop}(L:A.handled=J)(D:eM z TI TO i1 i2 P S)(hz:IsZip s.heap z TI TO .none)(u:L8 s.heap TI (.ref i1) (.ref i2))(B:L8 s.heap TO a b)(h1:qI T s.heap i1 P k xs)(V:qI k2 s.heap i2 S k ys)(n:xs[k]? = J\/ys[k]? = J)(hQ:∀h',(∀c o,c≠z->c≠TO->c≠i1->c≠i2->s.heap.get? c=U o->h'.get? c=U o)->Q J {s with heap:=h'}):
  wpAny (model prog w) A (gK (.ref z)) Q E s:=by
 have N:s.TypeIs (.ref z) "zip":=⟨_,hz,rfl⟩;refine c5 (gR (gI N jy (dN jy N xH ?_ (xK _))));have p:∀g e,(∀c o,c≠z->c≠TO->c≠i1->c≠i2->s.heap.get? c=U o->g.get? c=U o)->(∃o,g.get? e=U o/\o.cls=.type "StopIteration") ->
   wpAny (model prog w) A (do if <- isInstance (.ref e) (.type "StopIteration")then pure J else throw (.ref e)) Q E {s with heap:=g}:=λg e hk ⟨o,ho,f⟩ =>
  c5 (oZ ⟨o,ho,f⟩ xy (i5 (hQ _ hk)))
 show wpAny _ _ (field (.ref z) 2 >>= _) _ _ _;refine c5 (F7 hz rfl rfl ?_);refine c5 (F7 hz rfl rfl (c5 (fg u rfl ?_)));refine c5 ?_;refine c5 (F7 hz rfl rfl (i5 ?_));refine c5 (eO (c5 (F7 hz rfl rfl (c5 (lV hz o8 λg1 H r=>?_)))));refine c5 ?_;refine c5 (c5 (xr ?_));have M:=h1.kept λc o f e=>r.extBut c o (by rcases f with rfl|rfl;exact D.i1z;exact D.l1z) e
 cases hx:xs[k]? with
 |none =>
  refine c5 (mH L M hx λZ e i v=>?_)
  obtain⟨t,d,l⟩:=v;have O:=i _ _ D.i1z.symm H;have ne:e≠z:=λq=>by subst q;rw[O]at d;lia
  refine lV O o8 λI _ j=>p I e (λc o m _ y _ q=>j.extBut _ _ m (i _ _ y (r.extBut _ _ m q))) ⟨t,j.extBut _ _ ne d,l⟩
 |some x =>
  have hy:ys[k]? = J:=by
   rcases n with h|h
   rw[hx]at h;exact nS h;exact h
  refine c5 (ki M D.l1i1 hx λZ p1 i=>i5 ?_);have C:=i.extBut _ _ D.TOi1 (r.extBut _ _ D.TOz B);refine c5 (fg C rfl (c5 (Er C λI t3 j=>?_)))
  refine c5 (xl (i5 ?_));refine c5 (c5 (xr ?_));have q2:=V.kept λc o f e=>by
   have n1:c≠z:=by rcases f with rfl|rfl;exact D.i2z;exact D.l2z
   have n2:c≠i1:=by rcases f with rfl|rfl;exact D.i12.symm;exact D.l2i1
   have Y:c≠TO:=by rcases f with rfl|rfl;exact D.TOi2.symm;exact D.l2TO
   exact j.extBut c o Y (i.extBut c o n2 (r.extBut c o n1 e))
  refine c5 (mH L q2 hy λg4 e K v=>?_)
  obtain⟨t,d,l⟩:=v;have G:=K _ _ D.i2z.symm (j.extBut _ _ D.TOz.symm (i.extBut _ _ D.i1z.symm H));have ne:e≠z:=λq=>by subst q;rw[G]at d;cases d;simp at l
  refine lV G o8 λW _ R=>p W e (λc o m X y c4 q=>R.extBut _ _ m (K _ _ c4 (j.extBut _ _ X (i.extBut _ _ y (r.extBut _ _ m q))))) ⟨t,R.extBut _ _ ne d,l⟩
end
def NV(K:d2)(H:Hp)(a:Addr)(xs:List V):Prop:=D5 K H a xs\/O0 K H a xs
def NV.ne{i:St}{s:b9}{b:Addr}{xs:List V}(I:Inv X pins i H s)(h:NV X.K H a xs)(f:jR X pins H b):a≠b:=by
 have d:∀{u:HO},Rd H a u->a≠b:=λ{u} r=>by
  rcases r with r|⟨o,r⟩
  exact R9 r f.1;exact R9 r f.1
 have c:∀{o:Obj},X.K.lookup a=U o->a≠b:=λ{o} e z=>by
  have g:=I.ok.mod.HF a o e;rcases f.2.2.2.1 with q|q
  exact I.ok.uW a o g (z▸q);exact absurd (C1 (q5 g) (i0 I.ok.qF (by simp_all))) (S5 _)
 rcases h with (r|⟨o,_,_,e,_⟩)|(r|⟨o,_,_,e,_⟩)
 exact d r;exact c e;exact d r;exact c e
def Hn(f:h.IsList a xs)(g:h.IsTuple a ys):False:=by
 obtain⟨o,e,c,_⟩:=f;obtain⟨i,b,d,_⟩:=g;lia
def Inv.QE{b:St}{s:b9}{xs ys:List V}(I:Inv X pins b H s)(h:NV X.K H a xs)(h':NV X.K H a ys):xs=ys:=by
 rcases h with h|h<;>rcases h' with h'|h'
 exact I.uX h h';obtain⟨_,_,p,_⟩:=I.list h;obtain⟨_,_,q,_⟩:=I.tuple h';exact(Hn p.isList q).elim;obtain⟨_,_,p,_⟩:=I.list h';obtain⟨_,_,q,_⟩:=I.tuple h;exact(Hn p.isList q).elim;exact I.zp h h'
def Inv.sV{g:St}{s:b9}{ch:List Addr}(I:Inv X pins g H s)(k:∀b o,b∉ch->s.heap.get? b=U o->h'.get? b=U o)(f:∀b∈ch,jR X pins H b):Inv X pins g H {s with heap:=h',toks:=t'}:=by
 have d:∀b u,H b=U u->b∉ch:=λb u e z=>by rw[(f b z).1]at e;exact nE e
 refine I.step (λb j=>?_) (λb o _ _ a e _=>k b o a e) (λb o _ _ a e _=>⟨o.slots,k b o a e⟩) (λ_ _ _ _ n=>n)
  (λb o a e=>⟨o,k b o a e⟩) (λ_ _ e=>e) (λ_ _ _ e=>e) (λb A e=>⟨#[],by rw[e];simp⟩) (λm i=>?_) (λb u e=>?_) I.bare
 obtain⟨_,x,_,p,l,h⟩:=f b j;exact⟨p,x,l,h⟩;obtain⟨o,y,w,t,r⟩:=i;exact⟨o,y,w,k _ o (λz=>(f _ z).2.1 rfl) t,r⟩
 . refine(I.x5 b u e).uK (λc v a q=>k c v ?_ q) (λ_ q=>q) λ_ _ q=>q
   rcases a with z|z
   rw[z];exact d b u e;exact d c _ z
def dW(kd:Bool)(K:d2)(H:Hp)(a:Addr)(xs:List V):Prop:=match kd with
 |true=>O0 K H a xs
 |false=>D5 K H a xs
def dW.x{b:Bool}{xs:List V}(h:dW b K H a xs):NV K H a xs:=by
 cases b;exact .inl h;exact .inr h
def Inv.GG{f:St}{s:b9}{c:Bool}{i:Addr}{xs:List V}(I:Inv X pins f H s)(h:dW c X.K H a xs)(it:jX c s.heap i a k):∃b:List a9,Vals xs b/\qI c s.heap i a k b.toArray:=by
 cases c;obtain⟨b,d,p,e⟩:=I.list h;exact⟨b,d,it,p.isList⟩;obtain⟨b,d,p,e⟩:=I.tuple h;exact⟨b,d,it,p⟩
def Itz(k1 k2:Bool)(K:d2)(a b:Addr):It :=
 ⟨λi H=>∃xs ys x y,dW k1 K H a xs/\dW k2 K H b ys/\xs[i]? = U x/\ys[i]? = U y,
  λi H v H'=>∃p,v=.ref p/\H p=J/\∃x y,H'=upd H p (.tup [x,y])/\∀xs ys,dW k1 K H a xs->dW k2 K H b ys->xs[i]? = U x/\ys[i]? = U y,
  λi H=>∃xs ys,dW k1 K H a xs/\dW k2 K H b ys/\(xs.length<=i\/ys.length<=i)⟩
structure Vj(k1 k2:Bool)(z TI TO i1 i2 a b:Addr)(i:Nat)(h:Heap):Prop where
 hz:IsZip h z TI TO .none
 zK:L8 h TI (.ref i1) (.ref i2)
 HL:∃x y,L8 h TO x y
 h1:jX k1 h i1 a i
 h2:jX k2 h i2 b i
structure a0U(z TI TO i1 i2:Addr):Prop where
 TIz:TI≠z
 TOz:TO≠z
 i1z:i1≠z
 i2z:i2≠z
 TITO:TI≠TO
 TIi1:TI≠i1
 TIi2:TI≠i2
 TOi1:TO≠i1
 TOi2:TO≠i2
 i12:i1≠i2
def dW.inj{c:St}{s:b9}{b:Bool}{xs ys:List V}(I:Inv X pins c H s)(h:dW b X.K H a xs)(h':dW b X.K H a ys):xs=ys:=I.QE h.x h'.x
def Ql{P:n9}{w:k7}{es:List Expr}{pos:Pos}{k2:Bool}{TI TO b:Addr}(D:a0U z TI TO i1 i2):
  Turn P w K (.Tuple es k pos) (Itz k1 k2 K a b) [z,TI,TO,i1,i2] z (λi h=>Vj k1 k2 z TI TO i1 i2 a b i h) where
 mem:=o8
 obj:=λi h d c f=>by
  have g:c=z\/c=TI\/c=TO\/c=i1\/c=i2:=by simpa using f
  rcases g with rfl|rfl|rfl|rfl|rfl
  exact⟨_,d.hz,λv q=>by cases q⟩;exact⟨_,d.zK,λv q=>by cases q⟩;obtain⟨x,y,e⟩:=d.HL;exact⟨_,e,λv q=>by cases q⟩;exact d.h1.obj;exact d.h2.obj
 keep:=λi h L d C=>by obtain⟨x,y,e⟩:=d.HL;exact⟨C z o8 _ d.hz,C TI o8 _ d.zK,⟨x,y,C TO o8 _ e⟩,d.h1.at λo q=>C i1 o8 o q,d.h2.at λo q=>C i2 o8 o q⟩
 item:=by
  intro X S V hK f i j s Q H E I l d R;subst S V hK;obtain⟨xs,ys,x,y,r,m,ex,ey⟩:=R;obtain⟨us,rx,ox⟩:=I.GG r d.h1;obtain⟨vs,Z,Y⟩:=I.GG m d.h2;obtain⟨u,hu,ru⟩:=rx.get ex;obtain⟨v,hv,rvv⟩:=Z.get ey;obtain⟨x0,y0,B⟩:=d.HL;have A:=l z o8;have t:=l TO o8;have G:=l i1 o8;have M:=l i2 o8;have ZA:eM z TI TO i1 i2 a b:=⟨D.TIz,D.TOz,D.i1z,D.i2z,D.TITO,D.TIi1,D.TIi2,D.TOi1,D.TOi2,D.i12,r.x.ne I A,r.x.ne I t,r.x.ne I G,r.x.ne I M,m.x.ne I A,m.x.ne I t,m.x.ne I G,m.x.ne I M⟩;refine Kj ZA d.hz d.zK B ox Y (by simpa using hu) (by simpa using hv) λL g1 g2 g3 g4 g5 O=>?_
  have hT:=I.x5.fresh o6;have I1:Inv X j Q H {s with heap:=L}:=I.sV (ch:=[z,TO,i1,i2]) (λc o f e=>O c o (λq=>f (by simp[q])) (λq=>f (by simp[q])) (λq=>f (by simp[q])) (λq=>f (by simp[q])) e)
   (λc f=>l c (by
    have g:c=z\/c=TO\/c=i1\/c=i2:=by simpa using f
    rcases g with rfl|rfl|rfl|rfl<;>simp))
  have I2:Inv X j Q (upd H s.heap.objs.size (.tup [x,y])) {s with heap:=L}:=I1.Ir hT (bX I.lt) (.inr I.sz)
   (λn c e q=>by obtain⟨vv,q2⟩:=I.cell n c e;exact absurd q2.lt (by rw[q];exact S5 _))
   (λp hp q=>absurd (q5 (I.pin p hp).1) (by rw[q];exact S5 _))
   ⟨by show 2<=p8;rw[jt];decide,[u,v],.cons ru (.cons rvv .nil),⟨_,g5,rfl,_,rfl⟩⟩
  refine⟨_,rfl,wpAny_letOwnedTupleGo_zip g1 λh2 z2 N=>?_⟩
  have uz:∀c,c∈[z,TI,TO,i1,i2]->(upd H s.heap.objs.size (.tup [x,y])) c=J:=λc f=>by
   have hlt:c<s.heap.objs.size:=by
    have g:c=z\/c=TI\/c=TO\/c=i1\/c=i2:=by simpa using f
    rcases g with rfl|rfl|rfl|rfl|rfl
    exact(q5 d.hz);exact q5 d.zK;exact q5 B;obtain⟨o,e,_⟩:=d.h1.obj;exact q5 e;obtain⟨o,e,_⟩:=d.h2.obj;exact q5 e
   rw[w9 (E9 hlt)];exact(l c f).1
  have I3:Inv X j Q (upd H s.heap.objs.size (.tup [x,y])) {s with heap:=h2}:=Inv.turned (s:={s with heap:=L}) I2 (λc o f e=>N.extBut c o f e) (uz z o8) A.2.1 A.2.2.2.1 A.2.2.2.2.1 A.2.2.2.2.2;refine⟨.ref s.heap.objs.size,_,I3,rfl,⟨_,rfl,hT,x,y,rfl,λxs' ys' T hy'=>?_⟩,⟨z2,N.extBut _ _ D.TIz (O _ _ D.TIz D.TITO D.TIi1 D.TIi2 d.zK),⟨_,_,N.extBut _ _ D.TOz g2⟩,?_,?_⟩,uz⟩;rw[T.inj I r,hy'.inj I m];exact⟨ex,ey⟩;exact g3.at λo q=>N.extBut _ _ D.i1z q;exact g4.at λo q=>N.extBut _ _ D.i2z q
 done:=by
  intro X S V hK f i j s Q H E I l d R;subst S V hK;obtain⟨xs,ys,r,m,F⟩:=R;obtain⟨us,rx,ox⟩:=I.GG r d.h1;obtain⟨vs,Z,Y⟩:=I.GG m d.h2;obtain⟨x0,y0,B⟩:=d.HL;have A:=l z o8;have t:=l TO o8;have G:=l i1 o8;have M:=l i2 o8;have ZA:eM z TI TO i1 i2 a b:=⟨D.TIz,D.TOz,D.i1z,D.i2z,D.TITO,D.TIi1,D.TIi2,D.TOi1,D.TOi2,D.i12,r.x.ne I A,r.x.ne I t,r.x.ne I G,r.x.ne I M,m.x.ne I A,m.x.ne I t,m.x.ne I G,m.x.ne I M⟩;have:=rx.length;have:=Z.length;refine PY (I.ok.hd f) ZA d.hz d.zK B ox Y ?_ λL O=>⟨rfl,?_⟩
  . rcases F with q|q
    exact .inl (by simp;simp_all);exact .inr (by simp;simp_all)
  . exact I.sV (ch:=[z,TO,i1,i2]) (λc o f e=>O c o (λq=>f (by simp[q])) (λq=>f (by simp[q])) (λq=>f (by simp[q])) (λq=>f (by simp[q])) e)
      (λc f=>l c (by
       have g:c=z\/c=TO\/c=i1\/c=i2:=by simpa using f
       rcases g with rfl|rfl|rfl|rfl<;>simp))
 self:=λ_ _ _ _ _ d h=>Eb d.hz h
end
set_option tactic.hygienic true
section
variable{e:Addr}{h h':Heap}
def ExcAt(e C dx:Addr)(h:Heap):Prop:=∃vs,h.get? e=U {cls:=.ref C,dict:=U dx,data:=.fields vs}
def AS(e C:Addr)(dx:Option Addr)(h:Heap):Prop:=∃t,h.get? e=U {cls:=.ref C,dict:=dx,data:=.fields #[.ref t,.none,.none,.none,.bool U',.none]}
def AS.keep{C:Addr}{a:Option Addr}(x:AS e C a h)(k:∀o,h.get? e=U o->h'.get? e=U o):AS e C a h':=let ⟨t,q⟩:=x;⟨t,k _ q⟩
def Tu(C:Addr)(fld:Str)(d:a7):a7:=.dict [(.tuple [.int (C:Nat),.str fld],d)]
def ExcAt.keep{C a:Addr}(x:ExcAt e C a h)(k:∀o,h.get? e=U o->h'.get? e=U o):ExcAt e C a h':=let ⟨b,q⟩:=x;⟨b,k _ q⟩
structure a1a(K:d2)(C:Addr):Prop where
 ga:V8 K (.ref C) "__getattribute__" = U (U (.builtin "BaseException.__getattribute__"))
 gt:V8 K (.ref C) "__getattr__" = U J
 hd:sE K C=Uf
 be:DF K C (.type "BaseException")=U Uf
 cl:V8 K (.ref C) "__class__" = U (U (.builtin "object.__class__"))
 cg:Ef K (.builtin "object.__class__") "__get__" = U (U (.builtin "getset_descriptor.__get__"))
 ct:Oi K (.builtin "object.__class__")=U Uf
 ob:DF K C (.type "object")=U Uf
 n1:sx K (.ref C) (.type "tuple")=U U'
 n2:sx K (.ref C) (.type "list")=U U'
 n3:sx K (.ref C) (.type "bool")=U U'
 n4:sx K (.ref C) (.type "int")=U U'
 n5:sx K (.ref C) (.type "str")=U U'
section
variable{prog:n9}{w:k7}{A:t6}{E:a9->b9->Prop}{s:b9}{K:d2}{x C:Addr}{ox:Obj}{od:Option Obj}{name:Str}
end
end
section
variable{a p:Addr}{xs:List V}{j:Int}{K:d2}
noncomputable def oi(kd:Bool)(l:Addr):Obj:=match kd with
 |true=>{cls:=.type "tuple_iterator",data:=.fields #[.ref l,.int 0 0]}
 |false=>{cls:=.type "list_iterator",data:=.fields #[.ref l,.int 0 0]}
def iF(kd:Bool)(h:Heap)(l:Addr)(xs:Array a9):Prop:=match kd with
 |true=>h.IsTuple l xs
 |false=>h.IsList l xs
theorem iF.push{a:Bool}{h:Heap}{l:Addr}{xs:Array a9}(x:iF a h l xs)(o:Obj):iF a (h.push o) l xs:=by
 cases a;exact Heap.IsList.push (show h.IsList l xs from x) o;exact Heap.IsTuple.push (show h.IsTuple l xs from x) o
def jX.new{a:Bool}{h:Heap}{i l:Addr}(e:h.get? i=U (oi a l)):jX a h i l 0:=by
 cases a;exact⟨_,e,rfl,rfl⟩;exact⟨_,e,rfl,rfl⟩
def tH{prog:n9}{w:k7}{A:t6}{E:a9->b9->Prop}{s:b9}{a:Bool}{l:Addr}{xs:Array a9}{Q:a9->b9->Prop}(x:iF a s.heap l xs)(b:Q (.ref (hz s)) {s with heap:=s.heap.push (oi a l)}):wpAny (model prog w) A (pyIter (.ref l)) Q E s:=by
 cases a;exact wpAny_pyIter_list (show s.heap.IsList l xs from x) b;exact wpAny_pyIter_tuple (show s.heap.IsTuple l xs from x) b
abbrev Ul(k1:Bool)(h:Heap)(a:Addr):Heap:=h.push (oi k1 a)
abbrev Uk(k1 k2:Bool)(h:Heap)(a b:Addr):Heap:=(Ul k1 h a).push (oi k2 b)
noncomputable abbrev Uj(k1 k2:Bool)(h:Heap)(a b:Addr):Heap:=(Uk k1 k2 h a b).push {cls:=.type "tuple",data:=.seq #[.ref h.objs.size,.ref (Ul k1 h a).objs.size]}
noncomputable abbrev Ui(k1 k2:Bool)(h:Heap)(a b:Addr):Heap:=(Uj k1 k2 h a b).push {cls:=.type "tuple",data:=.seq #[.none,.none]}
noncomputable abbrev Gm(k1 k2:Bool)(h:Heap)(a b:Addr):Heap:=(Ui k1 k2 h a b).push {cls:=.type "zip",data:=.fields #[.none,.bool U',.bool U',.ref (Uk k1 k2 h a b).objs.size,.ref (Uj k1 k2 h a b).objs.size]}
def Jp(c k2:Bool)(a b:Addr)(xs ys:Array a9):
  Meets (Builtin.«zip.__new__» ⟨[.type "zip",.ref a,.ref b],[]⟩) (λ_ R s=>iF c s.heap a xs/\iF k2 s.heap b ys /\
   R (.ok (.ret (.ref (Ui c k2 s.heap a b).objs.size))) {s with heap:=Gm c k2 s.heap a b}) :=
 .of_wp λe w A R s h=>by
  obtain⟨m,g,d,k,j⟩:=s;obtain⟨f,i,h⟩:=h;have:=sub_zip;have l:iF k2 (Shared.heap ⟨m.push (oi c a),g,d,k,j⟩) b ys:=iF.push i _
  wp_walk using tH f,tH l
  exact⟨_,rfl,h⟩
section
variable{prog:n9}{w:k7}{A:t6}{E:a9->b9->Prop}{s:b9}
def NO {d k2:Bool} {b:Addr} {xs ys:Array a9} {Q:a9->b9->Prop} (p:iF d s.heap a xs) (q:iF k2 s.heap b ys) (h:∀h',Vj d k2 ((hz s) + 4) ((hz s) + 2) ((hz s) + 3) (hz s) ((hz s) + 1) a b 0 h' ->
   (∀c o,s.heap.get? c=U o->h'.get? c=U o)->Q (.ref ((hz s)+4)) {s with heap:=h'}) :
  wpAny (model prog w) A (call (.type "zip") [.ref a,.ref b]) Q E s:=by
 refine callType_new F.called_zip a6 (F.typeCall_zip_2 _ _) (F.newCall_zip_2 _ _) (λobj=>F.args_object_init_3 obj _ _) F.entry_zip_new (Jp d k2 a b xs ys) ⟨p,q,?_⟩
 have g:(Ul d s.heap a).objs.size=(hz s)+1:=fh ..;have f:(Uk d k2 s.heap a b).objs.size=(hz s)+2:=by rw[fh,g]
 have i:(Uj d k2 s.heap a b).objs.size=(hz s)+3:=by rw[fh,f]
 have j:(Ui d k2 s.heap a b).objs.size=(hz s)+4:=by rw[fh,i]
 have e:(Gm d k2 s.heap a b).get? (Ui d k2 s.heap a b).objs.size=U _:=J4 _ rfl;have l:(Gm d k2 s.heap a b).get? (Uj d k2 s.heap a b).objs.size=U _:=s9 _ (J4 _ rfl);have k:(Gm d k2 s.heap a b).get? (Uk d k2 s.heap a b).objs.size=U _:=s9 _ (s9 _ (J4 _ rfl));have n:(oi k2 b).isFreed=U':=by cases k2<;>rfl
 have t:(oi d a).isFreed=U':=by cases d<;>rfl
 have m:(Gm d k2 s.heap a b).get? (Ul d s.heap a).objs.size=U _:=s9 _ (s9 _ (s9 _ (J4 _ n)));have r:(Gm d k2 s.heap a b).get? (hz s)=U _:=s9 _ (s9 _ (s9 _ (s9 _ (J4 _ t))));rw[f,i,j]at e;rw[g,f]at k;rw[i]at l;rw[g]at m;rw[j];exact⟨⟨_,e,rfl⟩,h _ ⟨e,k,⟨_,_,l⟩,.new r,.new m⟩ λc o x =>
  s9 _ (s9 _ (s9 _ (s9 _ (s9 _ x))))⟩
end
def PZ(n:Nat):a0U (n+4) (n+2) (n+3) n (n+1):=by constructor<;>(show @Ne Nat _ _)<;>simp[*]
section
variable{X:Cx}{es:List Expr}{k:Nat}{tp:Pos}
def Inv.aD{pins:List (Addr×Obj)}{d:St}{H:Hp}{s:b9}{c:Bool}(I:Inv X pins d H s)(h:dW c X.K H a xs):∃b:List a9,iF c s.heap a b.toArray:=by
 cases c;obtain⟨b,_,p,_⟩:=I.list h;exact⟨b,p.isList⟩;obtain⟨b,_,p,_⟩:=I.tuple h;exact⟨b,p⟩
end
section
variable{bs:List Str}{g:TG}{te:TE}{σ:St}{H:Hp}{Q:VK}
end
section
variable{X:Cx}
end
structure Bt(m:Nat)(i:Int):Prop where
 lt:i.natAbs<2 ^ m
def Bt.mono{m n:Nat}{i:Int}(h:Bt m i)(a:m<=n):Bt n i:=⟨C1 h.lt (OV a6 a)⟩
def Bt.of_le{m:Nat}{i:Int}(h:Bt m j)(a:i.natAbs<=j.natAbs):Bt m i:=⟨lU a h.lt⟩
def Bt.neg{m:Nat}{i:Int}(h:Bt m i):Bt m (-i):=h.of_le j1
def Bt.mul{m n:Nat}{i:Int}(h:Bt m i)(h':Bt n j):Bt (m+n) (i*j):=⟨by
 rw[aS,Nat.pow_add];exact Nat.mul_lt_mul'' h.lt h'.lt⟩
def Bt.add{m:Nat}{i:Int}(h:Bt m i)(h':Bt m j):Bt (m+1) (i+j):=⟨by
 have:=h.lt;have:=h'.lt;omega⟩
def Bt.sub{m:Nat}{i:Int}(h:Bt m i)(h':Bt m j):Bt (m+1) (i-j):=by exact h.add h'.neg
theorem Bt.fdiv{m:Nat}{i j:Int}(h:Bt m i):Bt m (i.fdiv j):=h.of_le (OU i j)
def Bt.small{i:Int}(b : -(2 ^ 62)<i)(a:i<2 ^ 62):Bt 62 i:=⟨by omega⟩
def Bt.a1N{m n:Nat}{i:Int}(h:Bt m i)(h':Bt n j)(a:m+n<=134217728):IntMulOk i j:=IntMulOk.of_le (intBits_le_iff.mpr h.lt) (intBits_le_iff.mpr h'.lt) a
section
variable{X:Cx}
def WN:O9 X (Q3 .Mult) (rI (λi j=>Bt 60000 i/\Bt 60000 j) λi j=>.int (i*j)):=LU λi j _ _ _ _ _ a q=>mul_int q (a.1.a1N a.2 a6)
def Si:O9 X (Q3 .FloorDiv) (rI (λ_ j=>j≠0/\Bt 8000 j) λi j=>.int (i.fdiv j)):=LU λi j _ _ _ _ _ a q=>floordiv_int a.1 q (.inl (PyProof.noPylong_of_log2 (by
 have b:j.natAbs≠0:=by have:=a.1;simp[*]
 have:=(Nat.log2_lt b).mpr a.2.lt;exact dS)))
def fnD(nm:Str):a7:=.dict [(.str nm,.none)]
def a3f:Str:=⟨#[0]⟩
def yM(nm:Str)(ns:List Str)(l:List a7):a7:=.dict [(.tuple [.str nm,.list (ns.map .str)],.tuple l)]
def JO(ks:List Str)(l:List a7):a7:=.dict [(.list (ks.map .str),.tuple l)]
noncomputable def Y7:Key->a7
 | .inl i=>.int i
 | .inr x=>.str x
def B3(k:List Key):a7:=.dict [(.list (k.map Y7),.none)]
def vi(ks:List (List Key))(l:List a7):a7:=.dict [(.list (ks.map λk=>.tuple (k.map Y7)),.list l)]
mutual
inductive Dt(K:d2)(H:Hp):V->a7->Prop
 |non:Dt K H .non .none
 |bl (b):Dt K H (.bl b) (.bool b)
 |int (i):Dt K H (.int i) (.int i)
 |str (x):Dt K H (.str x) (.str x)
 |tup {a xs ds}:O0 K H a xs->m7 K H xs ds->Dt K H (.ref a) (.tuple ds)
 |lst {a xs ds}:D5 K H a xs->m7 K H xs ds->Dt K H (.ref a) (.list ds)
 |exc {ea C dx fld v d}:a1a K C->V8 K (.ref C) fld=U J->H ea=U (.ext (ExcAt ea C dx))->H dx=U (.xd [(fld,v)])->Dt K H v d->Dt K H (.ref ea) (Tu C fld d)
 |fn {f nm}:(bM K L0 nm=U (U (.ref f))\/nm=a3f)->Dt K H (.ref f) (fnD nm)
 |ins {a C dx fv nm ns vs l}:bM K L0 nm=U (U (.ref C))->H a=U (.ins C dx fv)->fv=ns.zip vs->m7 K H vs l->Dt K H (.ref a) (yM nm ns l)
 |key {a k}:H a=U (.tup (k.map kV))->Dt K H (.ref a) (B3 k)
 |dtt {a kvs ks vs l}:H a=U (.dT kvs)->ks.length=vs.length->kvs=ks.zip vs->m7 K H vs l->Dt K H (.ref a) (vi ks l)
 |dct {a kvs ks vs l}:H a=U (.dK kvs)->kvs=(ks.map eL).zip vs->m7 K H vs l->Dt K H (.ref a) (JO ks l)
inductive m7(K:d2)(H:Hp):List V->List a7->Prop
 |nil:m7 K H [] []
 |cons {x xs d ds}:Dt K H x d->m7 K H xs ds->m7 K H (x::xs) (d::ds)
end
def d9.cJ{H H':Hp}(e:d9 H H')(h:O0 K H a xs):O0 K H' a xs:=by
 rcases h with (h|⟨o,h⟩)|h
 exact .inl (.inl (e _ _ h));exact .inl (.inr ⟨o,e _ _ h⟩);exact .inr h
def d9.new{H:Hp}{o:HO}(h:H p=J):d9 H (upd H p o):=λb u e=>by rw[w9 (R9 e h)];exact e
mutual
theorem Dt.same{K:d2}{H H':Hp}(e:d9 H H'){x:V}{d:a7}(h:Dt K H x d):Dt K H' x d:=by
 cases h with
 |non=>exact .non
 |bl b=>exact .bl b
 |int i=>exact .int i
 |str x=>exact .str x
 |tup h t=>exact .tup (e.cJ h) (m7.same e t)
 |lst h t=>exact .lst (e.seq h) (m7.same e t)
 |exc c n a f t=>exact .exc c n (e _ _ a) (e _ _ f) (Dt.same e t)
 |fn h=>exact .fn h
 |ins a f g t=>exact .ins a (e _ _ f) g (m7.same e t)
 |dct a f t=>exact .dct (e _ _ a) f (m7.same e t)
 |key h=>exact .key (e _ _ h)
 |dtt a f g t=>exact .dtt (e _ _ a) f g (m7.same e t)
theorem m7.same{K:d2}{H H':Hp}(e:d9 H H'){xs:List V}{ds:List a7}(h:m7 K H xs ds):m7 K H' xs ds:=by
 cases h with
 |nil=>exact .nil
 |cons h t=>exact .cons (Dt.same e h) (m7.same e t)
end
theorem m7.length{K:d2}{H:Hp}{xs:List V}{ds:List a7}(h:m7 K H xs ds):xs.length=ds.length:=by
 induction ds generalizing xs with
 |nil=>cases h;rfl
 |cons _ _ i=>cases h with
  |cons _ t=>exact m2 (· + 1) (i t)
def m7.get{H:Hp}{ds:List a7}{i:Nat}{d:a7}(h:m7 K H xs ds)(e:ds[i]? = U d):∃x,xs[i]? = U x/\Dt K H x d:=by
 induction ds generalizing xs i with
 |nil=>exact nE e
 |cons _ _ j=>cases h with
  |cons a t=>cases i with
   |zero=>cases e;exact⟨_,rfl,a⟩
   |succ i=>exact(j (i:=i) t e :)
mutual
theorem Inv.reads{pins:List (Addr×Obj)}{m:St}{H:Hp}{s:b9}(I:Inv X pins m H s){x:V}{u:a9}{d:a7}(h:Dt X.K H x d)(r:RelV x u)(a:d.canLay0=Uf):∃as,Reads s.heap u d as:=by
 cases h with
 |non=>cases r;exact⟨_,.none⟩
 |bl b=>cases r;exact⟨_,.bool b⟩
 |int i=>obtain⟨t,rfl⟩:=r;exact⟨_,.int i t⟩
 |str y=>obtain⟨t,rfl⟩:=r;exact⟨_,.str y t⟩
 |tup h t =>
  cases r;obtain⟨g,k,⟨o,e,c,n,f⟩,_⟩:=I.tuple h;obtain⟨as,j⟩:=Inv.readsAll I t k (by assumption);exact⟨_,.tuple e c f (by omega)⟩
 |lst h t =>
  cases r;obtain⟨g,k,l,_⟩:=I.list h;obtain⟨o,e,c,n,f⟩:=l.isList;obtain⟨as,j⟩:=Inv.readsAll I t k (by assumption);exact⟨_,.list e c f (by omega)⟩
 |exc _ _ _ _ _=>rw[Tu,df]at a;exact nT a
 |fn _=>rw[fnD,df]at a;exact nT a
 |ins _ _ _ _=>rw[yM,df]at a;exact nT a
 |dct _ _ _=>rw[JO,df]at a;exact nT a
 |key _=>rw[B3,df]at a;exact nT a
 |dtt _ _ _ _=>rw[vi,df]at a;exact nT a
theorem Inv.readsAll{pins:List (Addr×Obj)}{d:St}{H:Hp}{s:b9}(I:Inv X pins d H s){xs:List V}{us:List a9}{ds:List a7}(h:m7 X.K H xs ds)(r:Vals xs us)(a:bN ds=Uf):∃as,ReadsAll s.heap us ds as:=by
 cases h with
 |nil=>cases r;exact⟨_,.nil⟩
 |cons h t =>
  cases r with
  |cons r e =>
   rw[bN,pa]at a;obtain⟨as,b⟩:=Inv.reads I h r a.1;obtain⟨bs,c⟩:=Inv.readsAll I t e a.2;exact⟨_,.cons b c⟩
end
def ZU(g:X.A.units+64<G8):O9 X (V7 .Eq) (λx y H Q=>∃d e,Dt X.K H x d/\Dt X.K H y e/\S3 d=Uf/\S3 e=Uf/\Q (.bl (N6 d e)) H):=by intro b s o H x y v u Q I j i h;obtain⟨d,e,l,m,c,a,q⟩:=h;obtain⟨n,f⟩:=I.reads l j (xU c);obtain⟨bs,k⟩:=I.reads m i (xU a);exact eq_dataH f k c a g ⟨.bl _,H,I,rfl,q⟩
def ZQ(g:X.A.units+64<G8):O9 X (V7 .NotEq) (λx y H Q=>∃d e,Dt X.K H x d/\Dt X.K H y e/\S3 d=Uf/\S3 e=Uf/\Q (.bl (!PyData.eqv d e)) H):=by intro b s o H x y v u Q I j i h;obtain⟨d,e,l,m,c,a,q⟩:=h;obtain⟨n,f⟩:=I.reads l j (xU c);obtain⟨bs,k⟩:=I.reads m i (xU a);exact ne_dataH f k c a g ⟨.bl _,H,I,rfl,q⟩
end
end
section
variable{Q:a9->b9->Prop}
section
variable{X:Cx}
end
section
variable{prog:n9}{w:k7}{A:t6}{E:a9->b9->Prop}{s:b9}
def Az{t e:Addr}{items:Array a9}{g f:a9}{lo i:Option Int}(a:P1 s.heap t items)(hs:s.heap.IsSliceOf e g f .none)(pl:eI g lo)(k:eI f i)(j:HT.D7 items.size 0 lo=0/\HT.D7 items.size items.size i=items.size)(h:Q (.ref t) s):wpAny (model prog w) A (eJ (.ref t) (.ref e)) Q E s:=by
 obtain⟨l,d,c,m⟩:=id hs;have b:s.TypeIs (.ref e) "slice":=⟨l,d,c⟩;delta eJ;try with_reducible refine da ?_
 first|refine c5 (i5 ?_)|skip
 refine c5 (wpAny_sequenceKey a.typeIs a6 ?_);refine c5 (gI a.typeIs yf (dN yf a.typeIs entry_tuple_getitem ?_ (args_tuple_getitem _ _)));show wpAny _ _ (PB (.ref t) >>= _) _ _ s;refine c5 (tupleItemsOf_ a (c5 (oP b ?_)));refine c5 (HT.kR hs pl k ?_);rw[j.1,j.2];show wpAny _ _ (if ((0)==0&&1==1&&(items.size-0)==items.size)=Uf then _ else _) _ _ s
 rw[b3 i9];refine c5 (c5 (oP a.typeIs (i5 ?_)));first
  |exact c5 (eO (c5 (i5 ⟨_,rfl,i5 h⟩)))
  |exact c5 (eO (i5 ⟨_,rfl,i5 h⟩))
  |exact c5 (eO (c5 (i5 (i5 ⟨_,rfl,i5 h⟩))))
def XB{t b:Addr}{vs ws:List a9}(x:P1 s.heap t vs.toArray)(u:P1 s.heap b ws.toArray)(m:vs=[])(h:Q (.ref b) s):wpAny (model prog w) A (Q3 .Add (.ref t) (.ref b)) Q E s:=by
 obtain⟨⟨v,q,k,r⟩,i,l,n,o⟩:=id x;obtain⟨⟨j,e,g,c⟩,a,f,p,d⟩:=id u;subst l o f d;exact xp ⟨_,i,rfl⟩ ⟨_,a,rfl⟩ Ee DE EB EC (EE _ _)
  (tuple_addW0 t b vs.toArray ws.toArray n p q e r c (by simp[m])) ⟨i,a,h⟩
end
section
variable{X:Cx}
end
end
section
variable{o p:Addr}{xs ys vs:List V}{r:R2}{op:CmpOp}{E:XK}
inductive PF where
 |dat (d:a7)
 |own (l:List a7)
 |dct (es:List (Str×a7))
inductive OD where
 |dct (es:List (Str×a7))
 |ins (nm:Str) (fs:List (Str×PF))
 |seq (b:Bool) (fs:List (Str×PF))
inductive PV where
 |dat (d:a7)
 |own (l:List a7)
 |ob (w:Option Addr) (c:OD)
abbrev sd(d:a7):Option PV:=U (.dat d)
noncomputable def PF.d:PF->a7
 | .dat d=>d
 | .own l=>.list l
 | .dct es=>JO (es.map (·.1)) (es.map (·.2))
noncomputable def OD.d:OD->a7
 | .dct es=>JO (es.map (·.1)) (es.map (·.2))
 | .ins nm fs=>yM nm (fs.map (·.1)) (fs.map λf=>f.2.d)
 | .seq Uf fs=>.list (fs.map λf=>f.2.d)
 | .seq U' fs=>.tuple (fs.map λf=>f.2.d)
def PV.d:PV->a7
 | .dat d=>d
 | .own l=>.list l
 | .ob _ c=>c.d
@[simp] theorem PV.tS(d:a7):(PV.dat d).d=d:=rfl
@[simp] theorem PV.JP(l:List a7):(PV.own l).d=.list l:=rfl
abbrev Ds:=List (Option PV)
abbrev DV:=Ds->Option PV
abbrev DB:=Ds->Option Bool
abbrev DL:=Ds->Option (List a7)
abbrev DD:=Ds->Option Ds
abbrev FV:=List a7->Option PV
abbrev As:=List (Option Addr)
def j9(H:Hp)(as:As)(O:List Addr):Hp:=λb=>if b∈O\/U b∈as then J else H b
def p6{H:Hp}{as:As}{O:List Addr}{b:Addr}{o:HO}:j9 H as O b=U o↔(b∉O/\U b∉as/\H b=U o):=by
 delta j9;split;rename_i h;constructor;intro z;exact nE z;rintro⟨a,c,_⟩;exact(h.elim a c).elim;rename_i h;constructor;intro z;exact⟨λq=>h (.inl q),λq=>h (.inr q),z⟩;rintro⟨_,_,z⟩;exact z
def cR{H H':Hp}{as a:As}{O c:List Addr}(e:∀b o,b∉O->U b∉as->H b=U o->b∉c/\U b∉a/\H' b=U o):d9 (j9 H as O) (j9 H' a c):=λb o h=>by obtain⟨d,f,g⟩:=p6.mp h;exact p6.mpr (e b o d f g)
def G6{H H':Hp}{as:As}{O:List Addr}(e:d9 H H'):d9 (j9 H as O) (j9 H' as O):=cR λb o a c d=>⟨a,c,e b o d⟩
def T8{H H':Hp}{as a:As}{O:List Addr}(e:d9 H H')(h:∀b,U b∈a->U b∈as):d9 (j9 H as O) (j9 H' a O):=cR λb o c d f=>⟨c,λz=>d (h b z),e b o f⟩
def l8{H:Hp}{as:As}{O:List Addr}:d9 (j9 H as O) H:=λb o h=>(p6.mp h).2.2
def oq{H:Hp}{as bs:As}{O:List Addr}:j9 H (bs++as) O=j9 H bs (O++as.filterMap id):=by
 funext b
 delta j9;have:(b∈O\/U b∈bs++as)↔(b∈O++as.filterMap id\/U b∈bs):=by
  simp only[gT,El];constructor;rintro(h|h|h);exact .inl (.inl h);exact .inr h;exact .inl (.inr ⟨_,h,rfl⟩);rintro((h|⟨x,h,e⟩)|h);exact .inl h;subst e;exact .inr (.inr h);exact .inr (.inl h)
 by_cases c:b∈O\/U b∈bs++as;rw[b3 c,b3 (this.mp c)];rw[b0 c,b0 (λz=>c (this.mpr z))]
def Cell(u:HO):Prop:=(∃xs,u=.lst xs)\/(∃kvs,u=.dK kvs)\/∃C dx fv,u=.ins C dx fv
abbrev Cl:={u:HO // Cell u}
def Cl.l(xs:List V):Cl:=⟨.lst xs,.inl ⟨xs,rfl⟩⟩
def Cl.d(kvs:List (Key×V)):Cl:=⟨.dK kvs,.inr (.inl ⟨kvs,rfl⟩)⟩
def Cl.i(C dx:Addr)(fv:List (Str×V)):Cl:=⟨.ins C dx fv,.inr (.inr ⟨C,dx,fv,rfl⟩)⟩
def EI(K:d2)(Hv:Hp):List (Key×V)->List (Str×a7)->Prop:=Paired λ(p:Key×V) (q:Str×a7)=>p.1=.inr q.1/\Dt K Hv p.2 q.2
theorem EI.same{K:d2}{H H':Hp}{a:List (Key×V)}{es:List (Str×a7)}(e:d9 H H')(h:EI K H a es):EI K H' a es:=by
 induction h with
 |nil=>exact .nil
 |cons h t b=>exact .cons ⟨h.1,h.2.same e⟩ b
inductive F9(K:d2)(Hv H:Hp):List (Str×V)->List (Str×PF)->List Addr->Prop
 |nil:F9 K Hv H [] [] []
 |dat {n x d fv fs R}:Dt K Hv x d->F9 K Hv H fv fs R->F9 K Hv H ((n,x)::fv) ((n,.dat d)::fs) R
 |own {n a xs l fv fs R}:H a=U (.lst xs)->m7 K Hv xs l->a∉R->F9 K Hv H fv fs R->F9 K Hv H ((n,.ref a)::fv) ((n,.own l)::fs) (a::R)
 |dct {n a kvs es fv fs R}:H a=U (.dK kvs)->EI K Hv kvs es->a∉R->F9 K Hv H fv fs R->F9 K Hv H ((n,.ref a)::fv) ((n,.dct es)::fs) (a::R)
def jQ(K:d2)(Hv H:Hp)(v:Addr)(R:List Addr):OD->Prop
 | .dct es=>∃kvs,R=[v]/\H v=U (.dK kvs)/\EI K Hv kvs es
 | .ins nm fs=>∃C dx fv R',R=v::R'/\bM K L0 nm=U (U (.ref C))/\H v=U (.ins C dx fv)/\F9 K Hv H fv fs R'
 | .seq Uf fs=>∃fv R',R=v::R'/\v∉R'/\H v=U (.lst (fv.map (·.2)))/\F9 K Hv H fv fs R'
 | .seq U' fs=>∃fv,Hv v=U (.tup (fv.map (·.2)))/\F9 K Hv H fv fs R
section
variable{K:d2}{Hv Hv' H H':Hp}{v:Addr}{R:List Addr}{c:OD}{fv:List (Str×V)}{fs:List (Str×PF)}
theorem F9.same(e:d9 Hv Hv')(h:F9 K Hv H fv fs R):(∀b∈R,∀o,H b=U o->H' b=U o)->F9 K Hv' H' fv fs R:=by
 induction h with
 |nil=>exact λ_=>.nil
 |dat j t c=>exact λa=>.dat (j.same e) (c a)
 |own f g i t c=>exact λa=>.own (a _ m8 _ f) (g.same e) i (c λb d=>a b (m5 _ d))
 |dct f g i t c=>exact λa=>.dct (a _ m8 _ f) (g.same e) i (c λb d=>a b (m5 _ d))
def F9.at(h:F9 K Hv H fv fs R):∀b∈R,∃u:HO,((∃xs,u=.lst xs)\/∃e,u=.dK e)/\H b=U u:=by
 induction h with
 |nil=>exact λb a=>absurd a i9
 |dat i t c=>exact c
 |own d f g t c =>
  intro b a;rcases List.mem_cons.mp a with rfl|a
  exact⟨_,.inl ⟨_,rfl⟩,d⟩;exact c b a
 |dct d f g t c =>
  intro b a;rcases List.mem_cons.mp a with rfl|a
  exact⟨_,.inr ⟨_,rfl⟩,d⟩;exact c b a
theorem jQ.same(e:d9 Hv Hv')(f:∀b∈R,∀o,H b=U o->H' b=U o)(h:jQ K Hv H v R c):jQ K Hv' H' v R c:=by
 cases c with
 |dct n=>obtain⟨k,rfl,a,d⟩:=h;exact⟨k,rfl,f _ m8 _ a,d.same e⟩
 |ins p fs =>
  obtain⟨C,m,g,l,rfl,j,a,d⟩:=h;exact⟨C,m,g,l,rfl,j,f _ m8 _ a,d.same e λb i=>f b (m5 _ i)⟩
 |seq b fs =>
  cases b with
  |true =>
   obtain⟨g,l,rfl,j,a,d⟩:=h;exact⟨g,l,rfl,j,f _ m8 _ a,d.same e λb i=>f b (m5 _ i)⟩
  |false=>obtain⟨g,a,d⟩:=h;exact⟨g,e _ _ a,d.same e f⟩
theorem jQ.at(h:jQ K Hv H v R c):∀b∈R,∃u:Cl,H b=U u.1:=by
 cases c with
 |dct q =>
  obtain⟨n,rfl,j,f⟩:=h;intro b a;rw[mem_singleton.mp a];exact⟨Cl.d n,j⟩
 |ins r fs =>
  obtain⟨C,o,k,m,rfl,p,j,f⟩:=h;intro b a;rcases List.mem_cons.mp a with rfl|a
  exact⟨Cl.i C o k,j⟩;obtain⟨u,h|h,e⟩:=f.at b a;exact⟨⟨u,.inl h⟩,e⟩;exact⟨⟨u,.inr (.inl h)⟩,e⟩
 |seq t fs =>
  have g:∀{k m},F9 K Hv H k fs m->∀b∈m,∃u:Cl,H b=U u.1:=λf b a=>by
   obtain⟨u,h|h,e⟩:=f.at b a;exact⟨⟨u,.inl h⟩,e⟩;exact⟨⟨u,.inr (.inl h)⟩,e⟩
  cases t with
  |true =>
   obtain⟨k,m,rfl,p,j,f⟩:=h;intro b a;rcases List.mem_cons.mp a with rfl|a
   exact⟨Cl.l _,j⟩;exact g f b a
  |false=>obtain⟨k,j,f⟩:=h;exact g f
def HE{a:List (Key×V)}{es:List (Str×a7)}(h:EI K Hv a es):a=((es.map (·.1)).map eL).zip (a.map (·.2))/\m7 K Hv (a.map (·.2)) (es.map (·.2)):=by
 induction h with
 |nil=>exact⟨rfl,.nil⟩
 | @cons p q c d h t b =>
  refine⟨?_,.cons h.2 b.2⟩;rw[m6,m6,m6,iM,<-b.1,<-h.1]
def F9.dts(h:F9 K Hv H fv fs R)(e:d9 Hv Hv')(a:∀b∈R,∀o,H b=U o->Hv' b=U o):fv=(fs.map (·.1)).zip (fv.map (·.2))/\m7 K Hv' (fv.map (·.2)) (fs.map λf=>f.2.d):=by
 induction h with
 |nil=>exact⟨rfl,.nil⟩
 |dat p t c =>
  obtain⟨g,i⟩:=c a;refine⟨?_,.cons (p.same e) i⟩;rw[m6,m6,iM,<-g]
 |own l j n t c =>
  obtain⟨g,i⟩:=c λb k=>a b (m5 _ k);refine⟨?_,.cons (.lst (D5.of (a _ m8 _ l)) (j.same e)) i⟩;rw[m6,m6,iM,<-g]
 |dct l j n t c =>
  obtain⟨g,i⟩:=c λb k=>a b (m5 _ k);obtain⟨m,k2⟩:=HE j;refine⟨?_,.cons (.dct (a _ m8 _ l) m (k2.same e)) i⟩;rw[m6,m6,iM,<-g]
def jQ.dt(h:jQ K Hv H v R c)(e:d9 Hv Hv')(g:∀b∈R,∀o,H b=U o->Hv' b=U o):Dt K Hv' (.ref v) c.d:=by
 cases c with
 |dct q =>
  obtain⟨m,rfl,a,f⟩:=h;obtain⟨i,k2⟩:=HE f;exact .dct (g _ m8 _ a) i (k2.same e)
 |ins r fs =>
  obtain⟨C,p,k,n,rfl,l,a,f⟩:=h;obtain⟨i,k2⟩:=f.dts e λb j=>g b (m5 _ j);exact .ins l (g _ m8 _ a) i k2
 |seq b fs =>
  cases b with
  |true =>
   obtain⟨k,n,rfl,l,a,f⟩:=h;obtain⟨i,k2⟩:=f.dts e λb j=>g b (m5 _ j);exact .lst (D5.of (g _ m8 _ a)) k2
  |false =>
   obtain⟨k,a,f⟩:=h;obtain⟨i,k2⟩:=f.dts e g;exact .tup (O0.of (e _ _ a)) k2
end
def av(K:d2)(O:List Addr)(as:As)(H:Hp)(si:Option (Option V))(rg:List Addr):PV->Prop
 | .dat d=>∃v,si=U (U v)/\Dt K (j9 H as O) v d
 | .own l=>∃a xs,si=U (U (.ref a))/\a∈rg/\H a=U (.lst xs)/\m7 K (j9 H as O) xs l
 | .ob w c=>∃v R,si=U (U (.ref v))/\(w=J\/w=U v)/\(∀b∈R,b∈rg)/\jQ K (j9 H as O) H v R c
structure DS(K:d2)(O:List Addr)(i7:Hp)(as:As)(σ:St)(H:Hp)(ds:Ds):Prop where
 ls:σ.length=ds.length
 same:d9 i7 H
 new:∀a,U a∈as->i7 a=J/\∃u:Cl,H a=U u.1
 cy:∀a∈O,∃o,i7 a=U o
 fL:∃rg:Nat->List Addr,(∀i b,b∈rg i->U b∈as)/\(∀i j b,b∈rg i->b∈rg j->i=j)/\∀(i:Nat) (pv:PV),ds[i]? = U (U pv)->av K O as H σ[i]? (rg i) pv
def Kd(K:d2)(O:List Addr)(as:As)(H:Hp)(si:Option (Option V)):PV->Prop
 | .dat d=>∃v,si=U (U v)/\Dt K (j9 H as O) v d
 | .own l=>∃a xs,si=U (U (.ref a))/\U a∈as/\H a=U (.lst xs)/\m7 K (j9 H as O) xs l
 | .ob w c=>∃v R,si=U (U (.ref v))/\(w=J\/w=U v)/\(∀b∈R,U b∈as)/\jQ K (j9 H as O) H v R c
def DS.slot{K:d2}{O:List Addr}{i7 H:Hp}{as:As}{k:St}{ds:Ds}(S:DS K O i7 as k H ds)(i:Nat)(pv:PV)(h:ds[i]? = U (U pv)):Kd K O as H k[i]? pv:=by
 obtain⟨r,j,q,n⟩:=S.fL;have z:=n i pv h;cases pv with
 |dat d=>exact z
 |own l=>obtain⟨a,m,e,g,f⟩:=z;exact⟨a,m,e,j i a g,f⟩
 |ob w c=>obtain⟨v,R,e,g,f,p⟩:=z;exact⟨v,R,e,g,λb o=>j i b (f b o),p⟩
def av.zu{K:d2}{O:List Addr}{as bs:As}{H H':Hp}{p:Option (Option V)}{k g:List Addr}{pv:PV}(h:av K O as H p k pv)(e:d9 (j9 H as O) (j9 H' bs O))(n:∀b∈k,∀o,H b=U o->H' b=U o)(q:∀b∈k,b∈g):av K O bs H' p g pv:=by
 cases pv with
 |dat d=>obtain⟨v,f,z⟩:=h;exact⟨v,f,z.same e⟩
 |own l=>obtain⟨a,r,f,j,i,z⟩:=h;exact⟨a,r,f,q a j,n a j _ i,z.same e⟩
 |ob w c=>obtain⟨v,R,f,j,i,z⟩:=h;exact⟨v,R,f,j,λb m=>q b (i b m),z.same e λb m=>n b (i b m)⟩
def S6(fr:Bool)(as:As):As:=if fr=Uf then as else[]
def nK{fr:Bool}{as:As}{b:Addr}(h:U b∈S6 fr as):U b∈as:=by
 unfold S6 at h
 simp_all
def RX(K:d2)(O:List Addr)(va:As)(H H':Hp)(v:V):PV->Prop
 | .dat d=>Dt K (j9 H' va O) v d
 | .own l=>∃a xs,v=.ref a/\H a=J/\H' a=U (.lst xs)/\m7 K (j9 H' (U a::va) O) xs l
 | .ob w c=>∃o R,v=.ref o/\(w=J\/w=U o)/\(∀b∈R,H b=J)/\jQ K (j9 H' (R.map U++va) O) H' o R c
structure pC(H:Hp)(va:As)(O:List Addr):Prop where
 o:∀a∈O,∃u,H a=U u
 a:∀a,U a∈va->∃u,H a=U u
section
variable{K:d2}{O:List Addr}{i7 H H' H2:Hp}{as va:As}{σ:St}{ds:Ds}{v:V}{pv:PV}{fr:Bool}
def pC.same(D:pC H va O)(e:d9 H H'):pC H' va O:=⟨λa h=>let ⟨u,z⟩:=D.o a h;⟨u,e _ _ z⟩,λa h=>let ⟨u,z⟩:=D.a a h;⟨u,e _ _ z⟩⟩
def DS.dm(S:DS K O i7 as σ H ds):pC H (S6 fr as) O:=⟨λa h=>let ⟨u,z⟩:=S.cy a h;⟨u,S.same _ _ z⟩,λa h=>let ⟨_,z⟩:=(S.new a (nK h)).2;⟨_,z⟩⟩
def DS.nO(S:DS K O i7 as σ H ds){a:Addr}(h:U a∈as):a∉O:=λz=>by obtain⟨o,e⟩:=S.cy a z;rw[(S.new a h).1]at e;exact nE e
def DS.grow(S:DS K O i7 as σ H ds)(e:d9 H H'):DS K O i7 as σ H' ds :=
 ⟨S.ls,S.same.trans e,λa h=>⟨(S.new a h).1,let ⟨o,z⟩:=(S.new a h).2;⟨o,e _ _ z⟩⟩,S.cy,let ⟨d,g,c,f⟩:=S.fL;⟨d,g,c,λi pv h=>(f i pv h).zu (G6 e) (λb _ o z=>e _ _ z) λ_ z=>z⟩⟩
def RX.grow(h:RX K O va H H' v pv)(e:d9 H' H2):RX K O va H H2 v pv:=by
 cases pv with
 |dat d=>exact Dt.same (G6 e) h
 |own l=>obtain⟨a,j,g,f,i,h⟩:=h;exact⟨a,j,g,f,e _ _ i,h.same (G6 e)⟩
 |ob w c=>obtain⟨o,R,g,f,i,h⟩:=h;exact⟨o,R,g,f,i,h.same (G6 e) λb _ u z=>e _ _ z⟩
def RX.back(h:RX K O va H H' v pv)(e:d9 H2 H):RX K O va H2 H' v pv:=by
 cases pv with
 |dat d=>exact h
 |own l=>obtain⟨a,j,g,f,i,h⟩:=h;exact⟨a,j,g,e.free f,i,h⟩
 |ob w c=>obtain⟨o,R,g,f,i,h⟩:=h;exact⟨o,R,g,f,λb k=>e.free (i b k),h⟩
def jQ.S6{R:List Addr}{c:OD}(h:jQ K (j9 H' (R.map U++va) O) H' o R c)(n:∀b∈R,b∉O/\U b∉va):Dt K (j9 H' va O) (.ref o) c.d :=
 h.dt (T8 (d9.refl _) λb z=>A3 _ z) λb a u z=>p6.mpr ⟨(n b a).1,(n b a).2,z⟩
def RX.dt(h:RX K O va H H' v pv)(D:pC H va O):Dt K (j9 H' va O) v pv.d:=by
 have f:∀a,H a=J->a∉O/\U a∉va:=λa e=>by
  refine⟨λz=>?_,λz=>?_⟩;obtain⟨u,z⟩:=D.o a z;lia;obtain⟨u,z⟩:=D.a a z;lia
 cases pv with
 |dat d=>exact h
 |ob w c=>obtain⟨o,R,rfl,_,g,h⟩:=h;exact h.S6 λb i=>f b (g b i)
 |own l =>
  obtain⟨a,j,rfl,e,g,h⟩:=h;exact .lst (D5.of (p6.mpr ⟨(f a e).1,(f a e).2,g⟩)) (h.same (T8 (d9.refl _) λb z=>m5 _ z))
def RX.less{g:As}(h:RX K O va H H' v pv)(s:∀b,U b∈g->U b∈va):RX K O g H H' v pv:=by
 cases pv with
 |dat d=>exact Dt.same (T8 (d9.refl _) s) h
 |ob w c =>
  obtain⟨o,R,rfl,e,f,h⟩:=h;refine⟨o,R,rfl,e,f,h.same (T8 (d9.refl _) λb z=>?_) (λ_ _ _ z=>z)⟩
  rcases List.mem_append.mp z with z|z
  exact L3 _ z;exact A3 _ (s b z)
 |own l =>
  obtain⟨a,i,rfl,e,f,h⟩:=h;refine⟨a,i,rfl,e,f,h.same (T8 (d9.refl _) λb z=>?_)⟩
  rcases List.mem_cons.mp z with z|z
  rw[z];exact m8;exact m5 _ (s b z)
def fS:d9 (j9 H as O) (j9 H (S6 fr as) O):=T8 (d9.refl _) λ_ h=>nK h
def m7.append{ds es:List a7}(h:m7 K H xs ds)(k:m7 K H ys es):m7 K H (xs++ys) (ds++es):=by
 induction ds generalizing xs with
 |nil=>cases h;exact k
 |cons _ _ i=>cases h with
  |cons a t=>exact .cons a (i t)
def m7.get'{ds:List a7}{i:Nat}{x:V}(h:m7 K H xs ds)(e:xs[i]? = U x):∃d,ds[i]? = U d/\Dt K H x d:=by
 induction ds generalizing xs i with
 |nil=>cases h;exact nE e
 |cons _ _ j=>cases h with
  |cons a t=>cases i with
   |zero=>cases e;exact⟨_,rfl,a⟩
   |succ i=>exact j t e
theorem m7.take:∀{xs:List V} {ds:List a7} (n:Nat),m7 K H xs ds->m7 K H (xs.take n) (ds.take n)
 |_,_,0,_=>by simp;exact .nil
 |_,_,_+1,.nil=>by simp;exact .nil
 |_,_,n+1,.cons h t=>by simp only[List.take_succ_cons];exact .cons h (m7.take n t)
theorem m7.drop:∀{xs:List V} {ds:List a7} (n:Nat),m7 K H xs ds->m7 K H (xs.drop n) (ds.drop n)
 |_,_,0,h=>by simpa using h
 |_,_,_+1,.nil=>by simp;exact .nil
 |_,_,n+1,.cons h t=>by simp only[List.drop_succ_cons];exact m7.drop n t
theorem m7.reverse{xs:List V}{ds:List a7}(h:m7 K H xs ds):m7 K H xs.reverse ds.reverse:=by
 induction ds generalizing xs with
 |nil=>cases h;exact .nil
 |cons _ _ i=>cases h with
  |cons a t =>
   rw[xM,xM];exact(i t).append (.cons a .nil)
theorem m7.set{xs:List V}{ds:List a7}(i:Nat){x:V}{d:a7}(h:m7 K H xs ds)(k:Dt K H x d):m7 K H (xs.set i x) (ds.set i d):=by
 induction ds generalizing xs i with
 |nil=>cases h;exact .nil
 |cons _ _ j=>cases h with
  |cons a t=>cases i with
   |zero=>exact .cons k t
   |succ i=>exact .cons a (j i t)
end
def TX(K:d2)(fr:Bool)(te:TE)(F:DV):Prop :=
 ∀(O:List Addr) (i7:Hp) (as:As) (σ:St) (H:Hp) (ds:Ds) (pv:PV) (Q:VK),DS K O i7 as σ H ds->F ds=U pv->(∀v H',d9 H H'->RX K O (S6 fr as) H H' v pv->Q v H')->te σ H Q
structure PX(X:Cx)(fr:Bool)(e:Expr)(te:TE)(F:DV):Prop where
 p:PE X e te
 t:TX X.K fr te F
def qG(K:d2)(tt:TT)(F:DB):Prop :=
 ∀(O:List Addr) (i7:Hp) (as:As) (σ:St) (H:Hp) (ds:Ds) (b:Bool) (Q:Bool->Hp->Prop),DS K O i7 as σ H ds->F ds=U b->(∀H',d9 H H'->Q b H')->tt σ H Q
structure bV(X:Cx)(e:Expr)(tt:TT)(F:DB):Prop where
 p:PT X e tt
 t:qG X.K tt F
structure mT(X:Cx)(e:Expr)(tt:TT)(F:DB):Prop where
 p:PW X e tt
 t:qG X.K tt F
def TAX(K:d2)(fr:Bool)(t:TA)(F:DL):Prop :=
 ∀(O:List Addr) (i7:Hp) (as:As) (σ:St) (H:Hp) (ds:Ds) (l:List a7) (Q:List V->Hp->Prop),DS K O i7 as σ H ds->F ds=U l->(∀vs H',d9 H H'->m7 K (j9 H' (S6 fr as) O) vs l->Q vs H')->t σ H Q
structure aY(X:Cx)(fr:Bool)(es:List Expr)(t:TA)(F:DL):Prop where
 p:PA X es t
 t:TAX X.K fr t F
def cz(K:d2)(r:R2)(f:a7->a7->Option PV):Prop :=
 ∀(O:List Addr) (va:As) (H:Hp) (x y:V) (d e:a7) (pv:PV) (Q:VK),pC H va O->Dt K (j9 H va O) x d->Dt K (j9 H va O) y e->f d e=U pv->(∀v H',d9 H H'->RX K O va H H' v pv->Q v H')->r x y H Q
def R1X(K:d2)(r:V->Hp->VK->Prop)(f:a7->Option PV):Prop :=
 ∀(O:List Addr) (va:As) (H:Hp) (x:V) (d:a7) (pv:PV) (Q:VK),pC H va O->Dt K (j9 H va O) x d->f d=U pv->(∀v H',d9 H H'->RX K O va H H' v pv->Q v H')->r x H Q
def uw(K:d2)(r:List V->Hp->VK->Prop)(f:FV):Prop :=
 ∀(O:List Addr) (va:As) (H:Hp) (xs:List V) (ds:List a7) (pv:PV) (Q:VK),pC H va O->m7 K (j9 H va O) xs ds->f ds=U pv->(∀v H',d9 H H'->RX K O va H H' v pv->Q v H')->r xs H Q
noncomputable def b7(i:Nat):DV:=λds=>match ds[i]? with
 |some (U (.dat d))=>U (.dat d)
 |_=>J
noncomputable def K9(i:Nat):DV:=λds=>match ds[i]? with
 |some (U pv)=>U (.dat pv.d)
 |_=>J
noncomputable def fC(d:a7):DV:=λ_=>U (.dat d)
section
variable{X:Cx}{fr:Bool}{e a b c:Expr}{es rest:List Expr}{te ta tb tc:TE}{tt tu:TT}{t:TA}{Fa Fb Fc F:DV}{Ft Fu:DB}{Fl:DL}{pos:Pos}
def Zc(i:Nat)(h:PE X e (C7 i)):PX X fr e (C7 i) (b7 i):=⟨h,by
 intro O b k j H g pv Q S a q;unfold b7 at a;split at a;rename_i d f;cases a;obtain⟨v,c,h⟩:=S.slot i _ f;exact⟨v,c,q v H (d9.refl H) (h.same fS)⟩
 . exact nE a⟩
def VW(i:Nat)(h:PE X e (C7 i)):PX X U' e (C7 i) (K9 i):=⟨h,by
 intro O m x y H t pv Q S g q;unfold K9 at g;split at g
 . rename_i d n;cases g;have k:=S.slot i _ n;cases d with
   |dat d =>
    obtain⟨v,f,h⟩:=k;exact⟨v,f,q v H (d9.refl H) (h.same fS)⟩
   |own l =>
    obtain⟨a,s,f,j,r,h⟩:=k;exact⟨_,f,q _ H (d9.refl H) (Dt.lst (D5.of (p6.mpr ⟨S.nO j,by simp[S6],r⟩)) (h.same fS))⟩
   |ob w c =>
    obtain⟨o,R,f,_,j,h⟩:=k;exact⟨_,f,q _ H (d9.refl H) (h.dt fS λb p u z=>p6.mpr ⟨S.nO (j b p),by simp[S6],z⟩)⟩
 . exact nE g⟩
def BA{v:V}{d:a7}(h:PE X e (tC v))(hd:∀H,Dt X.K H v d):PX X fr e (tC v) (fC d):=⟨h,by intro O a g f H c pv Q S b q;cases b;exact q v H (d9.refl H) (hd _)⟩
def Zl{i:Int}{j}:PX X fr (.Constant (.int i) j pos) (tC (.int i)) (fC (.int i)):=BA ZI λ_=>.int i
def a1A{i:Bool}{j}:PX X fr (.Constant (.bool i) j pos) (tC (.bl i)) (fC (.bool i)):=BA a1F λ_=>.bl i
def Ze{i:Str}{j}:PX X fr (.Constant (.str i) j pos) (tC (.str i)) (fC (.str i)):=BA ZD λ_=>.str i
def Zi{j}:PX X fr (.Constant .none j pos) (tC .non) (fC .none):=BA ZG λ_=>.non
noncomputable def b8(f:a7->a7->Option PV)(Fa Fb:DV):DV:=λds=>(Fa ds).bind λx=>(Fb ds).bind λy=>f x.d y.d
def AE{f:a7->a7->Option PV}(p:cz X.K r f)(s:PX X fr a ta Fa)(z:PX X fr b tb Fb):TX X.K fr (mw r ta tb) (b8 f Fa Fb):=by
 intro O c j k H i pv Q S e q;unfold b8 at e;obtain⟨x,h1,e⟩:=b5 e;obtain⟨y,h2,e⟩:=b5 e;refine s.t O c j k H i x _ S h1 λv B g m=>?_;refine z.t O c j k B i y _ (S.grow g) h2 λu n h l=>?_;refine p O (S6 fr j) n v u x.d y.d pv Q ((S.grow g).grow h).dm ((m.grow h).dt S.dm) (l.dt (S.grow g).dm) e λw C A o=>?_;exact q w C ((g.trans h).trans A) (o.back (g.trans h))
def mE{op:Operator}{f:a7->a7->Option PV}(g:O9 X (Q3 op) r)(e:cz X.K r f)(d:PX X fr a ta Fa)(c:PX X fr b tb Fb):PX X fr (.BinOp a op b pos) (mw r ta tb) (b8 f Fa Fb) :=
 ⟨a1E g d.p c.p,AE e d c⟩
def Ln{f:a7->a7->Option PV}(e:O9 X (V7 op) r)(h:cz X.K r f)(g:oR op b=U')(d:PX X fr a ta Fa)(c:PX X fr b tb Fb):PX X fr (.Compare a [op] [b] pos) (mw r ta tb) (b8 f Fa Fb) :=
 ⟨WI e d.p c.p g,AE h d c⟩
def a1y{f:a7->a7->Option PV}(g:uB X r)(e:cz X.K r f)(d:PX X fr a ta Fa)(c:PX X fr b tb Fb)(hs:iG b):PX X fr (.Subscript a b pos) (mw r ta tb) (b8 f Fa Fb) :=
 ⟨AL g d.p c.p hs,AE e d c⟩
noncomputable def dU(f:a7->Option PV)(Fa:DV):DV:=λds=>(Fa ds).bind λx=>f x.d
def a1w{op:UnaryOp}{r:V->Hp->VK->Prop}{f:a7->Option PV}(n:Vl X (unaryOp op) r)(l:R1X X.K r f)(g:PX X fr a ta Fa):PX X fr (.UnaryOp op a pos) (tUn r ta) (dU f Fa):=⟨a1C n g.p,by
 intro O b i s H h pv Q S c q;unfold dU at c;obtain⟨x,h1,c⟩:=b5 c;refine g.t O b i s H h x _ S h1 λv o e j=>?_;refine l O (S6 fr i) o v x.d pv Q (S.grow e).dm (j.dt S.dm) c λw u m k=>?_
 exact q w u (e.trans m) (k.back e)⟩
def Vh:a7->Option Bool
 | .bool b=>U b
 |_=>J
noncomputable def k9(F:DV):DB:=λds=>(F ds).bind λx=>Vh x.d
def vC{te:TE}(h:TX X.K fr te F):qG X.K (tB te) (k9 F):=by
 intro O e j k H f b Q S a q;unfold k9 at a;obtain⟨x,h1,a⟩:=b5 a;refine h O e j k H f x _ S h1 λv i g l=>?_
 have d:=l.dt S.dm;generalize x.d=z at d a;cases z with
 |bool c=>cases a;cases d;exact⟨_,rfl,q i g⟩
 |_=>exact nE a
def Wh(h:PX X fr e te F)(b:autoParam (∀a,isTrue e X.env a=(do let v <- a;ba e.pos;holding [v] (truthy v))) U0._auto_1):bV X e (tB te) (k9 F):=⟨Zq h.p b,vC h.t⟩
def fM{f:a7->a7->Option PV}(e:O9 X (V7 op) r)(h:cz X.K r f)(g:oR op b=U')(d:PX X fr a ta Fa)(c:PX X fr b tb Fb):bV X (.Compare a [op] [b] pos) (Uv (mw r ta tb)) (k9 (b8 f Fa Fb)) :=
 ⟨Wm e d.p c.p g,vC (AE h d c)⟩
noncomputable def JY(F:DB):DB:=λds=>(F ds).bind λb=>U (!b)
noncomputable def qo(F G:DB):DB:=λds=>(F ds).bind λb=>if b=Uf then G ds else U U'
noncomputable def wW(F G:DB):DB:=λds=>(F ds).bind λb=>if b=Uf then U Uf else G ds
def VA(h:qG X.K tt Ft):qG X.K (Qu tt) (JY Ft):=by intro O a f e H d b Q S c q;unfold JY at c;obtain⟨x,h1,c⟩:=b5 c;cases c;exact h O a f e H d x _ S h1 q
def VB(h:qG X.K tt Ft)(k:qG X.K tu Fu):qG X.K (Qw tt tu) (qo Ft Fu):=by
 intro O a i g H e b Q S c q;unfold qo at c;obtain⟨x,h1,c⟩:=b5 c;refine h O a i g H e x _ S h1 λf d=>?_
 cases x with
 |true=>exact k O a i g f e b Q (S.grow d) c λl j=>q l (d.trans j)
 |false=>cases c;exact q f d
def Ym(h:qG X.K tt Ft)(k:qG X.K tu Fu):qG X.K (Ys tt tu) (wW Ft Fu):=by
 intro O a i g H e b Q S c q;unfold wW at c;obtain⟨x,h1,c⟩:=b5 c;refine h O a i g H e x _ S h1 λf d=>?_
 cases x with
 |false=>exact k O a i g f e b Q (S.grow d) c λl j=>q l (d.trans j)
 |true=>cases c;exact q f d
def Wi(h:bV X a tt Ft):bV X (.UnaryOp .Not a pos) (Qu tt) (JY Ft):=⟨Zr h.p,VA h.t⟩
def Rn(h:bV X a tt Ft):mT X (.BoolOp .And [a] pos) tt Ft:=⟨pw_and1 h.p,h.t⟩
def Wf(h:bV X a tt Ft):mT X (.BoolOp .Or [a] pos) tt Ft:=⟨pw_or1 h.p,h.t⟩
def Wg(h:bV X a tt Ft)(k:mT X (.BoolOp .And (b::rest) pos) tu Fu):mT X (.BoolOp .And (a::b::rest) pos) (Qw tt tu) (qo Ft Fu):=⟨pw_and h.p k.p,VB h.t k.t⟩
def Zp(h:bV X a tt Ft)(k:mT X (.BoolOp .Or (b::rest) pos) tu Fu):mT X (.BoolOp .Or (a::b::rest) pos) (Ys tt tu) (wW Ft Fu):=⟨pw_or h.p k.p,Ym h.t k.t⟩
theorem mT.pt(h:mT X a tt Ft):bV X a tt Ft:=⟨PW.pt h.p,h.t⟩
noncomputable def CA(Fa Fb:DV):DV:=λds=>(k9 Fa ds).bind λb=>if b=Uf then Fb ds else U (.dat (.bool U'))
noncomputable def NA(Fa Fb:DV):DV:=λds=>(k9 Fa ds).bind λb=>if b=Uf then U (.dat (.bool Uf))else Fb ds
noncomputable def yV(Fa:DV):DV:=λds=>(k9 Fa ds).bind λb=>U (.dat (.bool !b))
def Zf{op}(h:PX X fr a ta Fa):PX X fr (.BoolOp op [a] pos) ta Fa:=⟨ZE h.p,h.t⟩
def Zo(h:PX X fr a ta Fa)(k:PX X fr (.BoolOp .And (b::rest) pos) tb Fb):PX X fr (.BoolOp .And (a::b::rest) pos) (UC ta tb) (CA Fa Fb):=⟨ZK h.p k.p,by
 intro O c j i H f pv Q S d q;unfold CA at d;obtain⟨x,h1,d⟩:=b5 d;refine vC h.t O c j i H f x _ S h1 λg e=>?_
 cases x with
 |true=>exact k.t O c j i g f pv Q (S.grow e) d λv m l r=>q v m (e.trans l) (r.back e)
 |false=>cases d;exact q _ g e (Dt.bl _)⟩
def a1x(h:PX X fr a ta Fa)(k:PX X fr (.BoolOp .Or (b::rest) pos) tb Fb):PX X fr (.BoolOp .Or (a::b::rest) pos) (Yr ta tb) (NA Fa Fb):=⟨a1D h.p k.p,by
 intro O c j i H f pv Q S d q;unfold NA at d;obtain⟨x,h1,d⟩:=b5 d;refine vC h.t O c j i H f x _ S h1 λg e=>?_
 cases x with
 |false=>exact k.t O c j i g f pv Q (S.grow e) d λv m l r=>q v m (e.trans l) (r.back e)
 |true=>cases d;exact q _ g e (Dt.bl _)⟩
def Zh(h:PX X fr a ta Fa):PX X fr (.UnaryOp .Not a pos) (Uy ta) (yV Fa):=⟨ZF h.p,by intro O b i g H d pv Q S c q;unfold yV at c;obtain⟨x,h1,c⟩:=b5 c;cases c;exact vC h.t O b i g H d x _ S h1 λe f=>q _ e f (Dt.bl _)⟩
noncomputable def eG(Ft:DB)(Fa Fb:DV):DV:=λds=>(Ft ds).bind λb=>if b=Uf then Fa ds else Fb ds
def a1z(n:bV X c tt Ft)(h:PX X fr a ta Fa)(k:PX X fr b tb Fb):PX X fr (.IfExp c a b pos) (tIf tt ta tb) (eG Ft Fa Fb):=⟨RU n.p h.p k.p,by
 intro O d m l H g pv Q S f q;unfold eG at f;obtain⟨x,h1,f⟩:=b5 f;refine n.t O d m l H g x _ S h1 λo e=>?_
 cases x with
 |true=>exact h.t O d m l o g pv Q (S.grow e) f λv j i r=>q v j (e.trans i) (r.back e)
 |false=>exact k.t O d m l o g pv Q (S.grow e) f λv j i r=>q v j (e.trans i) (r.back e)⟩
noncomputable def d6:DL:=λ_=>U []
noncomputable def a8(F:DV)(G:DL):DL:=λds=>(F ds).bind λx=>(G ds).bind λl=>U (x.d::l)
def Hf:aY X fr [] pH d6:=⟨rj,by intro O a d e H c l Q S b q;cases b;exact q [] H (d9.refl H) .nil⟩
def RZ(h:PX X fr e te F)(k:aY X fr es t Fl)(hs:autoParam (e8 (e::es) X.env=(U',eval e X.env)::e8 es X.env) d3._auto_1):aY X fr (e::es) (pJ te t) (a8 F Fl):=⟨kE h.p k.p hs,by
 intro O a i g H c l Q S b q;unfold a8 at b;cases h1:F c with
 |none=>simp_all
 |some x =>
  cases h2:Fl c with
  |none=>rw[h1,h2]at b;exact nE b
  |some m =>
   rw[h1,h2]at b;cases b;refine h.t O a i g H c x _ S h1 λv s f n=>?_;refine k.t O a i g s c m _ (S.grow f) h2 λr o d j=>?_
   exact q (v::r) o (f.trans d) (.cons ((n.grow d).dt S.dm) j)⟩
def pC.fresh{H:Hp}{va:As}{O:List Addr}(D:pC H va O)(h:H p=J):p∉O/\U p∉va:=by
 refine⟨λz=>?_,λz=>?_⟩;obtain⟨u,z⟩:=D.o p z;lia;obtain⟨u,z⟩:=D.a p z;lia
def vN{K:d2}{H:Hp}{va:As}{O:List Addr}{l:List a7}(D:pC H va O)(h:H p=J)(hd:m7 K (j9 H va O) vs l):RX K O va H (upd H p (.tup vs)) (.ref p) (.dat (.tuple l)):=by obtain⟨a,b⟩:=D.fresh h;exact Dt.tup (O0.of (p6.mpr ⟨a,b,E1⟩)) (hd.same (G6 (d9.new h)))
def jc{K:d2}{H:Hp}{va:As}{O:List Addr}{l:List a7}(h:H p=J)(hd:m7 K (j9 H va O) vs l):RX K O va H (upd H p (.lst vs)) (.ref p) (.own l):=by
 refine⟨p,vs,rfl,h,E1,hd.same (cR λb o c d a=>⟨c,λz=>?_,?_⟩)⟩
 . simp_all
 exact d9.new h _ _ a
noncomputable def f9(Fl:DL):DV:=λds=>(Fl ds).bind λl=>if l.length<=1000000 then U (.dat (.tuple l))else J
noncomputable def D6(Fl:DL):DV:=λds=>(Fl ds).bind λl=>if l.length<=1000000 then U (.own l)else J
def my{n:Nat}(h:n<=1000000):n<=p8:=i0 h (by rw[jt];decide)
def Zd{x1}(h:aY X fr es t Fl):PX X fr (.Tuple es x1 pos) (Qs t) (f9 Fl):=⟨LM h.p,by
 intro O b j i H f pv Q S a q;unfold f9 at a;obtain⟨l,h1,a⟩:=b5 a;obtain⟨g,a⟩:=v8 a;cases a;refine h.t O b j i H f l _ S h1 λk m c d=>⟨by rw[d.length];exact my g,λp e=>?_⟩
 exact q _ _ (c.trans (d9.new e)) (RX.back (vN (S.grow c).dm e d) c)⟩
def Zj(h:aY X fr es t Fl):PX X fr (.List es pos) (Yt t) (D6 Fl):=⟨ZH h.p,by
 intro O b j i H f pv Q S a q;unfold D6 at a;obtain⟨l,h1,a⟩:=b5 a;obtain⟨g,a⟩:=v8 a;cases a;refine h.t O b j i H f l _ S h1 λk m e c=>⟨by rw[c.length];exact my g,λp d=>?_⟩
 exact q _ _ (e.trans (d9.new d)) (RX.back (jc d c) e)⟩
noncomputable def b4(F:FV)(Fl:DL):DV:=λds=>(Fl ds).bind F
def Ur{r:List V->Hp->VK->Prop}{f:FV}(j:uw X.K r f)(h:aY X fr es t Fl):TX X.K fr (vG r t) (b4 f Fl):=by
 intro O a e o H d pv Q S b q;unfold b4 at b;obtain⟨l,h1,b⟩:=b5 b;refine h.t O a e o H d l _ S h1 λk n c g=>?_;refine j O (S6 fr e) n k l pv Q (S.grow c).dm g b λw p m i=>?_;exact q w p (c.trans m) (i.back c)
def uO{id:String}{x:Str}{p:Pos}{r:List V->Hp->VK->Prop}{f:FV}(l:bQ X (.builtin id) r)(k:uw X.K r f)(g:Gl X x)(h:X.mg x=J)(i:cC x=U (.builtin id))(c:aY X fr (e::es) t Fl)(d:autoParam (x ≠ "__name__") a6._auto_1)(b:autoParam ((x==("__debug__" : Str))=U') a6._auto_1)(j:autoParam (e8 (e::es) X.env=(U',eval e X.env)::e8 es X.env) d3._auto_1)(a:autoParam ((p5 pos (e8 es X.env)).any (·.1)=U') d3._auto_1):PX X fr (.Call (.Name x p) (e::es) [] pos) (vG r t) (b4 f Fl):=⟨RY l g h i c.p d b j a,Ur k c⟩
def zw{T:String}{x:Str}{p:Pos}{r:List V->Hp->VK->Prop}{f:FV}(l:bQ X (.type T) r)(k:uw X.K r f)(g:Gl X x)(h:X.mg x=J)(i:cC x=U (.type T))(c:aY X fr (e::es) t Fl)(d:autoParam (x ≠ "__name__") a6._auto_1)(b:autoParam ((x==("__debug__" : Str))=U') a6._auto_1)(j:autoParam (e8 (e::es) X.env=(U',eval e X.env)::e8 es X.env) d3._auto_1)(a:autoParam ((p5 pos (e8 es X.env)).any (·.1)=U') d3._auto_1):PX X fr (.Call (.Name x p) (e::es) [] pos) (vG r t) (b4 f Fl):=⟨LN l g h i c.p d b j a,Ur k c⟩
def t7(K:d2)(F:FV):Sp:=λvs H Q _=>∃(O:List Addr) (ds:List a7) (pv:PV),(∀a∈O,∃u,H a=U u)/\m7 K (j9 H [] O) vs ds/\F ds=U pv/\∀v H',d9 H H'->RX K O [] H H' v pv->Q v H'
def Vy{f:FV}(h:aY X fr es t Fl):TX X.K fr (pK (t7 X.K f) [] E t) (b4 f Fl):=by
 intro O k g M H A pv Q S m q;unfold b4 at m;obtain⟨l,h1,m⟩:=b5 m;refine h.t O k g M H A l _ S h1 λN P p I=>?_;have D:=(S.grow p).dm (fr:=fr);rw[Z9];have z:∀H,j9 H (S6 fr g) O=j9 H [] (O++(S6 fr g).filterMap id):=λH=>oq (bs:=[]);refine⟨O++(S6 fr g).filterMap id,l,pv,λa i=>?_,by rw[<-z];exact I,m,λv B C r=>q v B (p.trans C) ?_⟩
 . rcases List.mem_append.mp i with i|i
   exact D.o a i;obtain⟨x,G,e⟩:=List.mem_filterMap.mp i;subst e;exact D.a a G
 . cases pv with
   |dat d =>
    have j:Dt X.K (j9 B [] (O++(S6 fr g).filterMap id)) v d:=r;rw[<-z]at j;exact j
   |own l =>
    obtain⟨a,F,u,y,s,n⟩:=r;refine⟨a,F,u,p.free y,s,?_⟩;rw[show(U a::S6 fr g)=[U a]++S6 fr g from rfl,oq];exact n
   |ob w c =>
    obtain⟨o,R,u,y,s,n⟩:=r;refine⟨o,R,u,y,λb L=>p.free (s b L),?_⟩;rw[oq];rw[Z9]at n;exact n
def We{CX:mn}{k:Nat}{f:Addr}{fd:B4}{d:List Str}{x:Str}{p:Pos}{c:FV}(G:W4 X.prog X.w X.K X.mg X.base CX k f fd d (t7 X.K c))(i:D1 k X.A)(l:Gl X x)(m:X.mg x=U (.ref f))(n:eT X.K (.ref f)=Uf)(j:Binds X.K fd d [])(o:Passes CX X E)(g:aY X fr (e::es) t Fl)(b:autoParam ((x==("__debug__" : Str))=U') a6._auto_1)(h:autoParam (e8 (e::es) X.env=(U',eval e X.env)::e8 es X.env) d3._auto_1)(a:autoParam ((p5 pos (e8 es X.env)).any (·.1)=U') d3._auto_1):
  PX X fr (.Call (.Name x p) (e::es) [] pos) (pK (t7 X.K c) [] E t) (b4 c Fl):=⟨He G i l m n j .nil o g.p b h a,Vy g⟩
end
end
section
variable{k:Nat}{va:As}{es A:List Expr}{tp:Pos}{xs vs:List V}
def bU(ds:Ds):Ds:=ds.map (Option.map λpv=>.dat pv.d)
def kD{b:Addr}{n:Nat}:U b∉(o1 n J:As):=λz=>by simp_all
def Xu{H:Hp}{n:Nat}{O:List Addr}:j9 H (o1 n J) O=j9 H [] O:=by
 funext b
 delta j9;simp
section
variable{K:d2}{O:List Addr}{i7 H H':Hp}{as:As}{σ:St}{ds:Ds}{v:V}{pv:PV}{fr:Bool}
def Kd.bU{i:Option (Option V)}{k:List Addr}{bs:As}(S:DS K O i7 as σ H ds)(h:Kd K O as H i pv)(e:∀b,U b∈bs->U b∈as)(j:∀b,(match pv with | .own _=>i=U (U (.ref b)) | .ob _ _=>U b∈as|_=>False)->U b∉bs):av K O bs H i k (.dat pv.d):=by
 cases pv with
 |dat d=>obtain⟨v,f,h⟩:=h;exact⟨v,f,h.same (T8 (d9.refl _) e)⟩
 |own l =>
  obtain⟨a,n,f,g,m,h⟩:=h;exact⟨_,f,.lst (D5.of (p6.mpr ⟨S.nO g,j a f,m⟩)) (h.same (T8 (d9.refl _) e))⟩
 |ob w c=>obtain⟨v,R,f,_,g,h⟩:=h;exact⟨_,f,h.dt (T8 (d9.refl _) e) λb e u z=>p6.mpr ⟨S.nO (g b e),j b (g b e),z⟩⟩
theorem DS.bU(S:DS K O i7 as σ H ds):DS K O i7 (o1 ds.length J) σ H (bU ds) where
 ls:=by simp[L2.bU,S.ls]
 same:=S.same
 new:=λa h=>absurd h kD
 cy:=S.cy
 fL:=⟨λ_=>[],λi b z=>absurd z i9,λi j b z=>absurd z i9,λi pv h=>by
  unfold L2.bU at h;rw[C5]at h;cases hd:ds[i]? with
  |none=>simp_all
  |some x =>
   cases x with
   |none=>simp_all
   |some w =>
    rw[hd]at h;cases h;exact(S.slot i w hd).bU S (λb z=>absurd z kD) (λa _=>kD)⟩
noncomputable def yT(i:Nat)(ds:Ds):Ds:=match ds[i]? with
 |some (U (.own l))=>ds.set i (U (.dat (.list l)))
 |_=>ds
theorem DS.yT(S:DS K O i7 as σ H ds)(i:Nat):∃n,DS K O i7 n σ H (yT i ds):=by
 delta L2.yT;split
 . rename_i l A;obtain⟨f,t,s,p⟩:=S.fL;refine⟨as.filter λx=>decide (∀b∈f i,x≠U b),?_⟩
   have sub:∀b,U b∈as.filter (λx=>decide (∀b∈f i,x≠U b))->U b∈as/\b∉f i:=λb z=>by obtain⟨y,u⟩:=List.mem_filter.mp z;exact⟨y,λq=>lR u b q rfl⟩
   have sm:d9 (j9 H as O) (j9 H (as.filter λx=>decide (∀b∈f i,x≠U b)) O):=T8 (d9.refl _) λb z=>(sub b z).1;refine⟨by simp[S.ls],S.same,λa h=>S.new a (sub a h).1,S.cy,λj=>if j=i then[]else f j,λj b d=>?_,λj k b m g=>?_,λj pv h=>?_⟩;dsimp only at d;split at d;simp at d;rename_i v;exact List.mem_filter.mpr ⟨t j b d,dg λC q e=>v (s j i b d (by cases e;exact q))⟩;dsimp only at m g;split at m;simp at m;split at g;simp at g;exact s j k b m g;rw[xJ]at h;by_cases c:i=j;subst c;rw[b3 rfl]at h;obtain⟨_,h⟩:=v8 h;cases h;obtain⟨a,D,w,r,B,h⟩:=p i _ A;exact⟨_,w,.lst (D5.of (p6.mpr ⟨S.nO (t i a r),λz=>(sub a z).2 r,B⟩)) (h.same sm)⟩;rw[b0 c]at h;dsimp only;rw[b0 (λz=>c z.symm)];exact(p j pv h).zu sm (λb _ o z=>z) λb z=>z
 exact⟨as,S⟩
end
section
variable{X:Cx}{fr:Bool}{e:Expr}{te:TE}{F:DV}
noncomputable def nA(F:DV):DV:=λds=>F (bU ds)
def Zn(h:PX X Uf e te F):PX X U' e te (nA F):=⟨h.p,by
 intro O a g d H i pv Q S f q;refine h.t O a _ d H _ pv Q S.bU f λv c e r=>q v c e ?_
 exact r.less λb z=>by simp[S6]at z⟩
end
def a0Z(K:d2)(O:List Addr)(Hb:Hp)(Jff:It)(items:List a7):Prop :=
 ∀H',d9 Hb H'->∀i,(i<items.length->Jff.go i H')/\(items.length<=i->Jff.stop i H') /\
  ∀x H'',Jff.Um i H' x H''->i<items.length->d9 H' H''/\∃d,items[i]? = U d/\∀vb:As,(∀b,U b∈vb->Hb b=J/\∃o,H' b=U o)->(∀b∈O,∃o,Hb b=U o)->Dt K (j9 H'' vb O) x d
def TIX(K:d2)(fr:Bool)(wi:TI)(Fi:DL):Prop :=
 ∀(O:List Addr) (i7:Hp) (as:As) (σ:St) (H:Hp) (ds:Ds) (items:List a7) (R:It->Hp->Prop),DS K O i7 as σ H ds->Fi ds=U items->(∀Jff H1,d9 H H1->a0Z K O (j9 H1 (S6 fr as) []) Jff items->R Jff H1)->wi σ H R
structure cW(X:Cx)(fr:Bool)(tg e:Expr)(wi:TI)(Fi:DL):Prop where
 p:PI X tg e wi
 t:TIX X.K fr wi Fi
def a0w(K:d2)(tl:TE):TI:=λσ H R=>tl σ H λx H1=>∃a,x=.ref a/\(((∃xs,D5 K H1 a xs)/\R (Itl K a) H1)\/((∃xs,O0 K H1 a xs)/\R (Itt K a) H1))
def Zx{X:Cx}{w l:Expr}{m:TE}(u:PE X l m):PI X w l (a0w X.K m):=by
 intro g s r H R I h;refine t9 (u g s r H _ I h) λv d ⟨x,j,c,k,t⟩=>?_;obtain⟨a,e,(⟨⟨y,hq⟩,q⟩|⟨⟨y,hq⟩,q⟩)⟩:=t
 . subst e;cases k;obtain⟨f,z,p,n⟩:=c.list hq;refine wpAny_pyIter_list p.isList ?_;refine⟨d.heap.objs.size,[d.heap.objs.size],_,_,j,rfl,c.kept λb o e=>s9 _ e,Kx a _,⟨_,J4 _ rfl,rfl,rfl⟩,λb i=>?_,q⟩
   have e:b=d.heap.objs.size:=by simpa using i
   subst e;exact c.yU o6 (c.x5.fresh o6)
 . subst e;cases k;obtain⟨f,z,p,n⟩:=c.tuple hq;refine wpAny_pyIter_tuple (show d.heap.IsTuple a f.toArray from p) ?_;refine⟨d.heap.objs.size,[d.heap.objs.size],_,_,j,rfl,c.kept λb o e=>s9 _ e,Ip a _,⟨_,J4 _ rfl,rfl,rfl⟩,λb i=>?_,q⟩
   have e:b=d.heap.objs.size:=by simpa using i
   subst e;exact c.yU o6 (c.x5.fresh o6)
noncomputable def ke:a7->Option (List a7)
 | .list l=>U l
 | .tuple l=>U l
 |_=>J
noncomputable def D8(F:DV):DL:=λds=>(F ds).bind λpv=>ke pv.d
def oh{K:d2}{O:List Addr}{c H' a:Hp}{g:As}{x:V}{d:a7}(h:Dt K (j9 c va O) x d)(e:d9 (j9 c va []) H')(k:d9 H' a)(j:∀b,U b∈g->j9 c va [] b=J/\∃o,H' b=U o):Dt K (j9 a g O) x d :=
 h.same (cR λb o m l i=>by
  have f:j9 c va [] b=U o:=p6.mpr ⟨by simp,l,i⟩;refine⟨m,λz=>?_,k _ _ (e _ _ f)⟩
  simp_all)
def tK{a:Hp}{O:List Addr}:d9 (j9 a va O) (j9 a va []):=cR λb o _ d c=>⟨by simp,d,c⟩
section
variable{X:Cx}{fr:Bool}{tg e a b:Expr}{te:TE}{ta:TA}{F:DV}{Fl:DL}{p pos:Pos}
def WA(h:PX X fr e te F):cW X fr tg e (a0w X.K te) (D8 F):=⟨Zx h.p,by
 intro O g G I H B w R S f q;unfold D8 at f;obtain⟨pv,h1,f⟩:=b5 f;refine h.t O g G I H B pv _ S h1 λv D C M=>?_
 have d:=M.dt S.dm;generalize pv.d=z at d f;cases d with
 |lst n k =>
  rename_i a c l;cases f;have:=k.length;refine⟨a,rfl,.inl ⟨⟨c,l8.seq n⟩,q _ D C λE j i=>?_⟩⟩;have b:=j.seq (tK.seq n);refine⟨λm=>⟨c,c[i]'b6,b,y4 _⟩,λm=>⟨c,b,by simp[*]⟩,λx o y m=>?_⟩;obtain⟨u,y⟩:=y;subst u;obtain⟨d,r,A⟩:=k.get' (y c b);exact⟨d9.refl _,d,r,λL s _=>oh A j (d9.refl _) s⟩
 |tup n k =>
  rename_i a c l;cases f;have:=k.length;refine⟨a,rfl,.inr ⟨⟨c,l8.cJ n⟩,q _ D C λE j i=>?_⟩⟩;have b:=j.cJ (tK.cJ n);refine⟨λm=>⟨c,c[i]'b6,b,y4 _⟩,λm=>⟨c,b,by simp[*]⟩,λx o y m=>?_⟩;obtain⟨u,y⟩:=y;subst u;obtain⟨d,r,A⟩:=k.get' (y c b);exact⟨d9.refl _,d,r,λL s _=>oh A j (d9.refl _) s⟩
 |_=>exact nE f⟩
def U8(lo:Int)(n:Nat):List a7:=(p9 n).map λk=>.int (lo+(k:Nat))
def Nj{K:d2}{O:List Addr}{Hb:Hp}{lo:Int}{n:Nat}:a0Z K O Hb (PQ lo n) (U8 lo n):=by
 intro g e i;have b:(U8 lo n).length=n:=by simp[U8]
 refine⟨λa=>(by rw[b]at a;exact a),λa=>(by rw[b]at a;exact a),λx d y a=>?_⟩;obtain⟨f,c⟩:=y;subst f;subst c;rw[b]at a;refine⟨d9.refl _,.int (lo+i),?_,λh _ _=>.int _⟩;simp[U8,lW a]
def E2:List a7->Option (List a7)
 | [.int j]=>@ite _ (-(4611686018427387904)<=j/\j<4611686018427387904) (xW _) (U (U8 0 j.toNat)) J
 |_=>J
def ic:List a7->Option (List a7)
 | [.int i,.int j]=>@ite _ ((-(4611686018427387904)<=i/\i<4611686018427387904)/\-(4611686018427387904)<=j/\j<4611686018427387904) (xW _) (U (U8 i (j-i).toNat)) J
 |_=>J
noncomputable def t2(f:List a7->Option (List a7))(Fl:DL):DL:=λds=>(Fl ds).bind f
def IT(i:Gl X "range")(n:X.mg "range" = J)(e:aY X fr [a] ta Fl)(hs:autoParam (e8 [a] X.env=[(U',eval a X.env)]) d3._auto_1):cW X fr tg (.Call (.Name "range" p) [a] [] pos) (UX ta) (t2 E2 Fl):=⟨LL i n e.p hs,by
 intro O c k m H f d R S b q;unfold t2 at b;obtain⟨l,h1,b⟩:=b5 b;refine e.t O c k m H f l _ S h1 λv h s u=>?_;unfold E2 at b;split at b
 . rename_i j;split at b
   . rename_i g;cases b;cases u with
     |cons r o =>
      cases r;cases o;exact⟨j,rfl,g.1,g.2,q _ h s Nj⟩
   exact nE b
 . exact nE b⟩
def IS(o:Gl X "range")(v:X.mg "range" = J)(k:aY X fr [a,b] ta Fl)(hs:autoParam (e8 [a,b] X.env=[(U',eval a X.env),(U',eval b X.env)]) d3._auto_1)(h:autoParam (e8 [b] X.env=[(U',eval b X.env)]) d3._auto_1):cW X fr tg (.Call (.Name "range" p) [a,b] [] pos) (UW ta) (t2 ic Fl):=⟨LK o v k.p hs h,by
 intro O d s u H m g R S c q;unfold t2 at c;obtain⟨l,h1,c⟩:=b5 c;refine k.t O d s u H m l _ S h1 λy n w x=>?_;unfold ic at c;split at c
 . rename_i i j;split at c
   . rename_i e;cases c;cases x with
     |cons r f =>
      cases r;cases f with
      |cons r f =>
       cases r;cases f;exact⟨i,j,rfl,⟨e.1.1,e.1.2,e.2.1,e.2.2⟩,q _ n w Nj⟩
   exact nE c
 . exact nE c⟩
def UU(K:d2)(ta:TA):TI:=λσ H R=>ta σ H λvs H1=>∃a b k1 k2,vs=[.ref a,.ref b]/\(∃xs,dW k1 K H1 a xs)/\(∃ys,dW k2 K H1 b ys)/\R (Itz k1 k2 K a b) H1
def WC(D:Gl X "zip")(F:X.mg "zip" = J)(t:PA X [a,b] ta)(hs:autoParam (e8 [a,b] X.env=[(U',eval a X.env),(U',eval b X.env)]) d3._auto_1)(i:autoParam (e8 [b] X.env=[(U',eval b X.env)]) d3._auto_1):
  PI X (.Tuple es k tp) (.Call (.Name "zip" p) [a,b] [] pos) (UU X.K ta):=by
 intro d s m H R I h;refine Call_ (cP I D F boot_zip (iN (t9 (t pos d s m H _ I h) λz c ⟨L,l,g,O,E⟩=>?_) (by rw[hs,i]) (by rw[i];rfl)));obtain⟨x,y,Q,k2,e,⟨S,N⟩,⟨P,C⟩,q⟩:=E;subst e;obtain⟨u,v,e,G,B⟩:=vals2 O;subst e;cases G;cases B;obtain⟨z,A⟩:=g.aD N;obtain⟨L,w⟩:=g.aD C;refine NO A w λM Z n=>?_;refine Eb Z.hz ?_;have r:Inv X d m l {c with heap:=M}:=g.kept n;refine⟨(hz c)+4,_,_,_,l,rfl,r,Ql (PZ _),Z,λb o=>?_,q⟩
 have j:b=(hz c)+4\/b=(hz c)+2\/b=(hz c)+3\/b=(hz c)\/b=(hz c)+1:=by simpa using o
 have f:(hz c)<=b:=by
  rcases j with e|e|e|e|e<;>rw[e]
  exact U5 _ _;exact U5 _ _;exact U5 _ _;exact Z6 _;exact U5 _ _
 exact g.yU f (g.x5.fresh f)
def d9.aD{b:Bool}{K:d2}{H H':Hp}{a:Addr}(e:d9 H H')(h:dW b K H a xs):dW b K H' a xs:=by
 cases b;exact e.seq h;exact e.cJ h
def Dt.aD{K:d2}{H:Hp}{v:V}{d:a7}{l:List a7}(h:Dt K H v d)(hd:ke d=U l):∃a e xs,v=.ref a/\dW e K H a xs/\m7 K H xs l:=by
 cases h with
 |lst b c=>cases hd;exact⟨_,U',_,rfl,b,c⟩
 |tup b c=>cases hd;exact⟨_,Uf,_,rfl,b,c⟩
 |_=>exact nE hd
noncomputable def aT:List a7->Option (List a7)
 | [d,e]=>(ke d).bind λl=>(ke e).bind λm=>U (oN (λx y=>.tuple [x,y]) l m)
 |_=>J
def Wz(hg:Gl X "zip")(W:X.mg "zip" = J)(w:aY X fr [a,b] ta Fl)(hs:autoParam (e8 [a,b] X.env=[(U',eval a X.env),(U',eval b X.env)]) d3._auto_1)(v:autoParam (e8 [b] X.env=[(U',eval b X.env)]) d3._auto_1):
  cW X fr (.Tuple es k tp) (.Call (.Name "zip" p) [a,b] [] pos) (UU X.K ta) (t2 aT Fl):=⟨WC hg W w.p hs v,by
 intro O j as V H D u R S c q;unfold t2 at c;obtain⟨l,h1,c⟩:=b5 c;refine w.t O j as V H D l _ S h1 λvs Q N r1=>?_;unfold aT at c;split at c
 . rename_i d1 T;obtain⟨l1,hl,c⟩:=b5 c;obtain⟨l2,hl2,c⟩:=b5 c;cases c;cases r1 with
   |cons r s =>
    cases s with
    |cons r' s =>
     cases s;obtain⟨a,k1,m,rfl,A,E⟩:=r.aD hl;obtain⟨b,k2,h,rfl,B,C⟩:=r'.aD hl2;refine⟨a,b,k1,k2,rfl,⟨m,l8.aD A⟩,⟨h,l8.aD B⟩,q _ Q N λH' g i=>?_⟩;have e:=g.aD (tK.aD A);have f:=g.aD (tK.aD B);have:=E.length;have:=C.length;rw[OM];refine⟨λF=>⟨m,h,m[i]'b6,h[i]'b6,e,f,y4 _,y4 _⟩,λF=>⟨m,h,e,f,by lia⟩,λx L y F=>?_⟩;obtain⟨pp,z1,d,x',y',z3,I⟩:=y;obtain⟨z5,G⟩:=I m h e f;subst z1;subst z3;obtain⟨dx,ex,Z⟩:=E.get' z5;obtain⟨P,M,hy⟩:=C.get' G;refine⟨d9.new d,.tuple [dx,P],by rw[List.getElem?_zipWith,ex,M],λvb n Y=>?_⟩;refine .tup (O0.of (p6.mpr ⟨λz=>?_,λz=>?_,E1⟩)) (.cons (oh Z g (d9.new d) n) (.cons (oh hy g (d9.new d) n) .nil));obtain⟨o,z⟩:=Y _ z;rw[g _ _ z]at d;exact nS d;obtain⟨_,o,z⟩:=n _ z;rw[z]at d;exact nS d
 . exact nE c⟩
end
def rT(K:d2)(n:Nat)(g:TG)(gt:a7->Option (List a7)):Prop :=
 ∀(O:List Addr) (va:As) (H:Hp) (v:V) (d:a7) (σ:St) (bs:List a7) (Q:St->Hp->Prop),Dt K (j9 H va O) v d->gt d=U bs->(∀vs,m7 K (j9 H va O) vs bs->vs.length=n->Q (vs.map U++σ) H)->g v (o1 n J++σ) H Q
def j8:a7->Option (List a7):=λd=>U [d]
noncomputable def G5(n:Nat):a7->Option (List a7)
 | .tuple l=>if l.length=n then U l else J
 |_=>J
def Qr{K:d2}:rT K 1 (V5 0) j8:=by intro O e H v d c bs Q a b q;cases b;exact q [v] (.cons a .nil) rfl
def a3c{a:Type}:∀{l:List a},l.length=2->∃x y,l=[x,y]
 | [x,y],_=>⟨x,y,rfl⟩
def Qq{K:d2}:rT K 2 (Co K 2 (tN (V5 0) (tN (V5 1) JK))) (G5 2):=by
 intro O k H v d i bs Q h e q;cases h with
 |tup g c =>
  rename_i a j l;have b:(if l.length=2 then U l else J)=U bs:=e;obtain⟨f,b⟩:=v8 b;rw[(L1 b)]at c f;obtain⟨x,y,rfl⟩:=a3c (c.length.trans f);exact⟨a,[x,y],rfl,l8.cJ g,rfl,x,[y],rfl,y,[],rfl,rfl,q [x,y] c rfl⟩
 |_=>exact nE e
def L7(l:List a7):Ds:=l.map λd=>U (.dat d)
@[simp] theorem qf:L7 []=[]:=rfl
@[simp] theorem mR(d:a7)(l:List a7):L7 (d::l)=sd d::L7 l:=rfl
def m7.slots{K:d2}{H:Hp}{l:List a7}(h:m7 K H vs l){i:Nat}{pv:PV}(e:(L7 l)[i]? = U (U pv)):∃d v,pv=.dat d/\vs[i]? = U v/\Dt K H v d:=by
 unfold L7 at e;rw[C5]at e;cases hd:l[i]? with
 |none=>simp_all
 |some d =>
  rw[hd]at e;cases e;obtain⟨x,b,a⟩:=h.get hd;exact⟨d,x,rfl,b,a⟩
def yP{H:Hp}{n:Nat}{as:As}{O:List Addr}:j9 H (o1 n J++as) O=j9 H as O:=by
 funext b
 delta j9;simp
def DS.pre{K:d2}{O:List Addr}{i7 H:Hp}{as:As}{k:St}{ds:Ds}{l:List a7}(S:DS K O i7 as k H ds)(h:m7 K (j9 H as O) vs l):
  DS K O i7 (o1 l.length J++as) (vs.map U++k) H (L7 l++ds) where
 ls:=by simp[L7,S.ls,h.length]
 same:=S.same
 new:=λa z=>S.new a ((List.mem_append.mp z).elim (λz=>absurd z kD) id)
 cy:=S.cy
 fL:=by
  obtain⟨m,s,q,p⟩:=S.fL;have n:=h.length;have r:(L7 l).length=l.length:=by simp[L7]
  refine⟨λi=>if i<l.length then[]else m (i-l.length),λi b z=>?_,λi j b f c=>?_,λi pv e=>?_⟩;dsimp only at z;split at z;simp at z;exact A3 _ (s _ b z)
  . dsimp only at f c;split at f;simp at f;split at c;simp at c;have:=q _ _ b f c;lia
  rw[OT]at e;split at e;rename_i g;obtain⟨d,v,rfl,f,c⟩:=h.slots e;refine⟨v,?_,by rw[yP];exact c⟩;rw[fm (by simp;simp_all),C5,f];rfl;rename_i g;rw[r]at g e;dsimp only;rw[b0 g,kx (by simp;simp_all)];simp only[o9,n];exact(p _ pv e).zu (by rw[yP];exact d9.refl _) (λb _ o z=>z) λb z=>z
noncomputable def D4(gt:a7->Option (List a7))(Fc:DB)(Fe:DV)(ds:Ds):List a7->Option (List a7)
 | []=>U []
 |x::r=>(gt x).bind λbs=>(Fc (L7 bs++ds)).bind λb=>if b=Uf then(Fe (L7 bs++ds)).bind λy=>(D4 gt Fc Fe ds r).bind λl=>U (y.d::l)else D4 gt Fc Fe ds r
noncomputable def j5(Fi:DL)(gt:a7->Option (List a7))(Fc:DB)(Fe:DV):DV:=λds=>(Fi ds).bind λitems=>if items.length<=1000000 then(D4 gt Fc Fe ds items).bind λl=>U (.own l)else J
structure ko(X:Cx)(ifs:List Expr)(t:TT)(F:DB):Prop where
 p:zg X ifs t
 t:qG X.K t F
noncomputable def j6:DB:=λ_=>U Uf
def LJ{X:Cx}:ko X [] vF j6:=⟨uR,by intro O a d e H f b Q S c q;cases c;exact q H (d9.refl H)⟩
def LI{X:Cx}{c:Expr}{t:TT}{F:DB}(h:bV X c t F):ko X [c] t F:=⟨RM h.p,h.t⟩
def yn{X:Cx}{bs nb:List Str}{E Y j:Expr}{scope:F8}{pos:Pos}{wi:TI}{g:TG}{tt:TT}{te:TE}{Z:DL}{gt:a7->Option (List a7)}{Fc:DB}{Fe:DV}(hc:X.calm=Uf)(B:hU X bs nb scope)(hi:cW X Uf Y j wi Z)(go:hC bs.length g)(hg:∀cl C fp s H pins,PG (N9 X bs nb scope cl C fp s H pins) Y g)(T:rT X.K bs.length g gt)(ht:∀cl C fp s H pins,ko (N9 X bs nb scope cl C fp s H pins) A tt Fc)(he:∀cl C fp s H pins,PX (N9 X bs nb scope cl C fp s H pins) Uf E te Fe)(hs:autoParam (∀x,bO j X.env x=pure x) U0._auto_1):PX X Uf (.ListComp E [⟨Y,j,A,0⟩] scope pos) (eX bs wi g tt te) (j5 Z gt Fc Fe):=⟨Hd hc B hi.p go hg (λ_ _ _ _ _ _=>(ht _ _ _ _ _ _).p) (λ_ _ _ _ _ _=>(he _ _ _ _ _ _).p) hs,by
 intro O h v σ H n pv Q S f q;unfold j5 at f;obtain⟨a,h1,f⟩:=b5 f;obtain⟨hn,f⟩:=v8 f;obtain⟨l,h2,f⟩:=b5 f;cases f;refine hi.t O h v σ H n a _ S h1 λJff H1 N it=>?_;have S1:=S.grow N;refine⟨a.length,λi ys L=>i<=a.length/\d9 H1 L/\∃F M,m7 X.K (j9 L v O) ys F/\D4 gt Fc Fe n (a.drop i)=U M/\F++M=l,my hn,⟨cY _,d9.refl _,[],l,.nil,h2,rfl⟩,?_⟩;rintro i ys L ⟨hi',r,F,M,d1,c,I⟩;have S2:=S1.grow r;obtain⟨R,st',V⟩:=it L (l8.trans r) i;by_cases e:i<a.length
 . refine .inr ⟨R e,e,λx m y=>?_⟩
   obtain⟨D,d,ed,dt⟩:=V x m y e;have dx:=dt v (λb G=>⟨by delta j9;rw[b3 (.inr G)],let ⟨_,z⟩:=(S2.new b G).2;⟨_,z⟩⟩) λb G=>by
    obtain⟨o,z⟩:=S.cy b G;refine⟨o,p6.mpr ⟨by simp,λz2=>?_,S1.same _ _ z⟩⟩;rw[(S.new b z2).1]at z;exact nE z
   have P:a.drop i=d::a.drop (i+1):=by
    rw[pz e];have:a[i]=d:=by have z:=y4 e;rw[ed]at z;exact(L1 z).symm
    rw[this]
   rw[P]at c;unfold D4 at c;obtain⟨k,h3,c⟩:=b5 c;obtain⟨b,h4,c⟩:=b5 c;refine T O v m x d σ k _ dx h3 λvs dv lv=>?_;have W:=(S2.grow D).pre dv;refine((ht [] 0 [] X.M6 X.i7 []).t) O h _ _ m _ b _ W h4 λH5 w=>?_
   cases b with
   |false =>
    exact⟨e,(r.trans D).trans w,F,M,d1.same (G6 (D.trans w)),c,I⟩
   |true =>
    obtain⟨yv,h5,c⟩:=b5 c;obtain⟨l3,h6,c⟩:=b5 c;cases c;refine((he [] 0 [] X.M6 X.i7 []).t) O h _ _ H5 _ yv _ (W.grow w) h5 λu H6 e6 r6=>?_
    have d7:Dt X.K (j9 H6 v O) u yv.d:=by have z:Dt X.K (j9 H6 (o1 k.length J++v) O) u yv.d:=(r6.dt (W.grow w).dm);rw[yP]at z;exact z
    exact⟨e,((r.trans D).trans w).trans e6,F++[yv.d],l3,(d1.same (G6 ((D.trans w).trans e6))).append (.cons d7 .nil),h6,by rw[<-I];simp⟩
 . have hi2:i=a.length:=by lia
   subst hi2;rw[Ea]at c;cases c;rw[Z9]at I;subst I;exact .inl ⟨st' o6,λp hp=>q _ _ ((N.trans r).trans (d9.new hp)) (RX.back (jc hp d1) (N.trans r))⟩⟩
end
section
variable{H i7 Hb:Hp}{as:As}{O R:List Addr}{ds:Ds}{a:Addr}{r:List a7->DD}
inductive Out where
 |next (ds:Ds)
 |ret (pv:PV)
 |brk (ds:Ds)
 |cont (ds:Ds)
 |up (x:a7)
 |retO (pv:PV) (ds:Ds)
abbrev DO:=Ds->Option Out
def a3j(K:d2)(O:List Addr)(H:Hp)(ea:Addr)(x:a7):Prop:=∃C dx fld v d,x=Tu C fld d/\a1a K C/\V8 K (.ref C) fld=U J/\H ea=U (.ext (AS ea C (U dx)))/\H dx=U (.xd [(fld,v)])/\dx∉O/\Dt K (j9 H [] (ea::O)) v d
def yg(X:Cx)(O:List Addr)(i7:Hp)(D:Ends):Out->Prop
 | .next ds=>∀as σ H,DS X.K O i7 as σ H ds->D.nx σ H
 | .brk ds=>∀as σ H,DS X.K O i7 as σ H ds->D.bk σ H
 | .cont ds=>∀as σ H,DS X.K O i7 as σ H ds->D.ct σ H
 | .ret pv=>∀v H,d9 i7 H->RX X.K O [] i7 H v pv->D.rt v H
 | .up x=>∀ea H,d9 i7 H->i7 ea=J->a3j X.K O H ea x->∀pins σ s,Inv X pins σ H s->X.xe (.ref ea) s
 | .retO pv ds=>∀as σ Hm H v,DS X.K O i7 as σ Hm ds->d9 Hm H->RX X.K O as Hm H v pv->D.rt v H
def TSX(X:Cx)(t:TS)(G:DO):Prop :=
 ∀(O:List Addr) (i7:Hp) (as:As) (σ:St) (H:Hp) (ds:Ds) (D:Ends) (o:Out),DS X.K O i7 as σ H ds->G ds=U o->yg X O i7 D o->t D σ H
structure D9(X:Cx)(st:Stmt)(t:TS)(G:DO):Prop where
 p:PS X st t
 t:TSX X t G
structure gF(X:Cx)(st:List Stmt)(t:TS)(G:DO):Prop where
 p:mU X st t
 t:TSX X t G
noncomputable def A4:DO:=λds=>U (.next ds)
noncomputable def c8(G1 G2:DO):DO:=λds=>(G1 ds).bind λo=>match o with
 | .next ds'=>G2 ds'
 |o=>U o
section
variable{X:Cx}{st:Stmt}{rest sa sb:List Stmt}{t u:TS}{G G1 G2:DO}{fr:Bool}{e c:Expr}{te:TE}{tt:TT}{F:DV}{Ft:DB}{pos:Pos}
def RA:gF X [] Uz A4:=⟨Wu,by intro O a c b H e D o S d q;cases d;exact q c b H S⟩
def Rz(h:D9 X st t G):gF X [st] t G:=⟨Wt h.p,h.t⟩
def Lz(g:D9 X st t G1)(h:gF X rest u G2):gF X (st::rest) (Yq t u) (c8 G1 G2):=⟨RB g.p h.p,by
 intro O c k j H i D o S a q;unfold c8 at a;obtain⟨f,e1,a⟩:=b5 a;refine g.t O c k j H i {D with nx:=u D} f S e1 ?_
 cases f with
 |next b=>exact λd e l m=>h.t O c d e l b D o m a q
 |ret pv=>cases a;exact q
 |brk b=>cases a;exact q
 |cont b=>cases a;exact q
 |up x=>cases a;exact q
 |retO pv b=>cases a;exact q⟩
noncomputable def wD(i:Nat)(G:DO):DO:=λds=>G (yT i ds)
def Rx(i:Nat)(h:D9 X st t G):D9 X st t (wD i G):=⟨h.p,by intro O a f c H g D o S e q;obtain⟨b,d⟩:=S.yT i;exact h.t O a b c H _ D o d e q⟩
theorem DS.set{K:d2}{O:List Addr}{i7 H:Hp}{as:As}{c:St}{ds:Ds}{v:V}{d:a7}(S:DS K O i7 as c H ds)(i:Nat)(h:Dt K (j9 H as O) v d):DS K O i7 as (c.set i (U v)) H (ds.set i (sd d)):=by
 obtain⟨f,l,e,k⟩:=S.fL;refine⟨by simp[S.ls],S.same,S.new,S.cy,f,l,e,λj pv a=>?_⟩;by_cases b:i=j;subst b;rw[xJ]at a;rw[b3 rfl]at a;obtain⟨g,a⟩:=v8 a;cases a;exact⟨v,by rw[sJ (by rw[S.ls];exact g)],h⟩;rw[fk b]at a;rw[fk b];exact k j pv a
def jg{c:Hp}(h:d9 H c)(f:∀b∈R,H b=J):d9 (j9 H as O) (j9 c (R.map U++as) O):=cR λb o i g a=>⟨i,λz=>by
 rcases List.mem_append.mp z with z|z
 obtain⟨j,e,d⟩:=mem_map.mp z;cases d;rw[f b e]at a;exact nE a
 . exact g z,h _ _ a⟩
def DS.store{K:d2}{f:Hp}{B:St}{v:V}{pv:PV}(S:DS K O i7 as B H ds)(t:d9 H f)(i:Nat)(r:RX K O as H f v pv):∃n,DS K O i7 n (B.set i (U v)) f (ds.set i (U pv)):=by
 have D:=S.grow t;have Z:∀R:List Addr,(∀b∈R,H b=J)->(∀b∈R,∃u:Cl,f b=U u.1)->DS K O i7 (R.map U++as) B f ds/\∀b∈R,i7 b=J/\U b∉as/\∃u:Cl,f b=U u.1:=λR p G=>by
  have X:∀b∈R,U b∉as:=λb e z=>by obtain⟨_,o,z⟩:=S.new b z;rw[p b e]at z;exact nE z
  have q:∀b∈R,i7 b=J/\U b∉as/\∃u:Cl,f b=U u.1:=λb e=>⟨S.same.free (p b e),X b e,G b e⟩;obtain⟨F,y,M,I⟩:=S.fL;refine⟨⟨S.ls,D.same,λb e=>?_,S.cy,F,λi b z=>A3 _ (y i b z),M,λj pv g=>(I j pv g).zu (jg t p) (λb _ o z=>t _ _ z) λb z=>z⟩,q⟩
  rcases List.mem_append.mp e with z|z
  obtain⟨b',A,E⟩:=mem_map.mp z;cases E;exact⟨(q b A).1,(q b A).2.2⟩;exact D.new b z
 have N:∀R:List Addr,(∀b∈R,H b=J)->(∀b∈R,∃u:Cl,f b=U u.1)->av K O (R.map U++as) f (U (U v)) R pv->∃n,DS K O i7 n (B.set i (U v)) f (ds.set i (U pv)):=λR p G Y=>by
  obtain⟨T,q⟩:=Z R p G;obtain⟨F,y,M,I⟩:=S.fL;refine⟨_,by simp[S.ls],D.same,T.new,S.cy,λj=>if j=i then R else F j,λj b e=>?_,λj k b x s=>?_,λj pv g=>?_⟩;dsimp only at e;split at e;exact L3 _ (mem_map.mpr ⟨b,e,rfl⟩);exact A3 _ (y j b e);dsimp only at x s;split at x;split at s;rename_i A E;rw[A,E];exact absurd (y k b s) (q b x).2.1;split at s;exact absurd (y j b x) (q b s).2.1;exact M j k b x s;by_cases m:i=j;subst m;rw[xJ]at g;rw[b3 rfl]at g;obtain⟨Q,g⟩:=v8 g;cases g;dsimp only;rw[b3 rfl,sJ (by rw[S.ls];exact Q)];exact Y;rw[fk m]at g;dsimp only;rw[b0 (λz=>m z.symm),fk m];exact(I j pv g).zu (jg t p) (λb _ o z=>t _ _ z) λb z=>z
 cases pv with
 |dat d=>exact⟨_,D.set i r⟩
 |ob w c =>
  obtain⟨o,R,rfl,L,C,h⟩:=r;exact N R C h.at ⟨o,R,rfl,L,λb z=>z,h⟩
 |own l =>
  obtain⟨a,P,rfl,L,C,h⟩:=r;refine N [a] (λb e=>?_) (λb e=>?_) ⟨a,P,rfl,m8,C,h⟩;rw[mem_singleton.mp e];exact L;rw[mem_singleton.mp e];exact⟨Cl.l P,C⟩
noncomputable def I0(i:Nat)(F:DV):DO:=λds=>(F ds).bind λpv=>U (.next (ds.set i (U pv)))
noncomputable def d8(i:Nat)(F:DV):DO:=λds=>(F ds).bind λpv=>U (.next (ds.set i (U (.dat pv.d))))
def Wn{i:Nat}{x:Str}{a:Pos}(r:X.N.Nodup)(l:X.N[i]? = U x)(k:Loc X.env.scope x)(d:PX X Uf e te F)(hs:autoParam (Q4 e (U (.Name x a)) pos.line X.env=pure U') d3._auto_1)(n:autoParam (X.fn x=Uf\/X.env.scope.names.lookup x=U .local) dG._auto_1):
  D9 X (.Assign [.Name x a] e pos) (gj te (V5 i)) (I0 i F):=⟨LA r l k d.p hs n,by
 intro O b j g H f D o S h q;unfold I0 at h;obtain⟨pv,e1,h⟩:=b5 h;cases h;refine d.t O b j g H f pv _ S e1 λv w m s=>?_
 obtain⟨c,u⟩:=S.store m i s;exact q c _ _ u⟩
def Rp{i:Nat}{x:Str}{a:Pos}(n:X.N.Nodup)(k:X.N[i]? = U x)(j:Loc X.env.scope x)(c:PX X Uf e te F)(hs:autoParam (Q4 e (U (.Name x a)) pos.line X.env=pure U') d3._auto_1)(m:autoParam (X.fn x=Uf\/X.env.scope.names.lookup x=U .local) dG._auto_1):
  D9 X (.Assign [.Name x a] e pos) (gj te (V5 i)) (d8 i F):=⟨LA n k j c.p hs m,by
 intro O b g f H d D o S h q;unfold d8 at h;obtain⟨pv,e1,h⟩:=b5 h;cases h;refine c.t O b g f H d pv _ S e1 λv s l r=>?_
 exact q _ _ _ ((S.grow l).set i (r.dt S.dm))⟩
noncomputable def p4(F:DV):DO:=λds=>(F ds).bind λpv=>U (.ret pv)
def GY(c:PX X fr e te F):D9 X (.Return (U e) pos) (Qt te) (p4 F):=⟨LB c.p,by
 intro O a g f H d D o S h q;unfold p4 at h;obtain⟨pv,e1,h⟩:=b5 h;cases h;refine c.t O a g f H d pv _ S e1 λv k i j=>?_
 exact q v k (S.same.trans i) ((j.back S.same).less λb z=>by simp at z)⟩
noncomputable def V4(i:Nat):DO:=λds=>match ds[i]? with
 |some (U pv)=>U (.ret pv)
 |_=>J
def Rr(i:Nat)(h:PE X e (C7 i)):D9 X (.Return (U e) pos) (Qt (C7 i)) (V4 i):=⟨LB h,by
 intro O j B A H E D o S h q;unfold V4 at h;split at h
 . rename_i pv n;cases h;have g:=S.slot i pv n;cases pv with
   |dat d =>
    obtain⟨v,f,h⟩:=g;exact⟨v,f,q v H S.same (Dt.same (T8 (d9.refl _) λb z=>by simp at z) h)⟩
   |own l =>
    obtain⟨a,u,f,k,s,h⟩:=g;refine⟨_,f,q _ H S.same ⟨a,u,rfl,(S.new a k).1,s,h.same (T8 (d9.refl _) λb z=>?_)⟩⟩
    simp_all
   |ob w c =>
    obtain⟨o,R,f,y,m,h⟩:=g;refine⟨_,f,q _ H S.same ⟨o,R,rfl,y,λb t=>(S.new b (m b t)).1,h.same (T8 (d9.refl _) λb z=>?_) (λ_ _ _ z=>z)⟩⟩;rw[Z9]at z;obtain⟨C,r,p⟩:=mem_map.mp z;cases p;exact m b r
 . exact nE h⟩
noncomputable def G3(Ft:DB)(G1 G2:DO):DO:=λds=>(Ft ds).bind λb=>if b=Uf then G1 ds else G2 ds
def Zt(g:bV X c tt Ft)(k:gF X sa t G1)(i:gF X sb u G2):D9 X (.If c sa sb pos) (Yu tt t u) (G3 Ft G1 G2):=⟨a1B g.p k.p i.p,by
 intro O a f e H d D o S h q;unfold G3 at h;obtain⟨b,e1,h⟩:=b5 h;refine g.t O a f e H d b _ S e1 λl j=>?_
 cases b with
 |true=>exact k.t O a f e l d D o (S.grow j) h q
 |false=>exact i.t O a f e l d D o (S.grow j) h q⟩
noncomputable def wC:DO:=λ_=>J
def Lx:D9 X st KH wC:=⟨RD,by intro O a c b H d D o S h q;exact nE h⟩
end
def DS.AF{K:d2}{f:St}{pv e:PV}{u:Cl}{i:Nat}{c:Nat->List Addr}(S:DS K O i7 as f H ds)(hd:ds[i]? = U (U pv))(m:∀i b,b∈c i->U b∈as)(n:∀i j b,b∈c i->b∈c j->i=j)(s:∀(i:Nat) (pv:PV),ds[i]? = U (U pv)->av K O as H f[i]? (c i) pv)(l:a∈c i)(r:d9 (j9 H as O) (j9 (upd H a u.1) as O)->av K O as (upd H a u.1) f[i]? (c i) e):DS K O i7 as f (upd H a u.1) (ds.set i (U e)):=by
 have sm:d9 (j9 H as O) (j9 (upd H a u.1) as O):=cR λb o t p v=>⟨t,p,by rw[w9 (λz=>p (by rw[z];exact m i a l))];exact v⟩;have q:=(List.getElem?_eq_some_iff.mp hd).1;refine⟨by simp[S.ls],λb o h=>?_,λb g=>⟨(S.new b g).1,?_⟩,S.cy,c,m,n,λj pv k=>?_⟩;rw[w9 (λz=>?_)];exact S.same _ _ h;rw[z,(S.new a (m i a l)).1]at h;exact nE h;by_cases z:b=a;exact⟨u,by rw[z];exact E1⟩;obtain⟨_,o,h⟩:=S.new b g;exact⟨o,by rw[w9 z];exact h⟩;by_cases d:i=j;subst d;rw[sJ q]at k;cases k;exact r sm;rw[fk d]at k;refine(s j pv k).zu sm (λb g o z=>?_) λb z=>z;rw[w9 (λw=>d (n i j a l (by rw[<-w];exact g)))];exact z
def DS.turn{K:d2}{c:St}{l h:List a7}{b:List V}{i:Nat}(S:DS K O i7 as c H ds)(hd:ds[i]? = U (U (.own l)))(f:c[i]? = U (U (.ref a)))(k:m7 K (j9 H as O) b h):
  DS K O i7 as c (upd H a (.lst b)) (ds.set i (U (.own h))):=by obtain⟨n,m,j,g⟩:=S.fL;obtain⟨r,p,e,d,o,q⟩:=g i _ hd;rw[f]at e;cases e;exact S.AF (u:=Cl.l b) hd m j g d λsm=>⟨a,b,f,d,E1,k.same sm⟩
noncomputable def cU(i:Nat)(F:DV):DO:=λds=>(F ds).bind λpv=>match ds[i]? with
 |some (U (.own l))=>if l.length<1000000 then U (.next (ds.set i (U (.own (l++[pv.d])))))else J
 |_=>J
section
variable{X:Cx}{e o:Expr}{te:TE}{F:DV}{pos cpos apos:Pos}
def Ws (i:Nat) (C:PE X o (C7 i)) (w:PX X Uf e te F) (f:autoParam (e8 [e] X.env=(U',eval e X.env)::e8 [] X.env) d3._auto_1) (c:autoParam (U3 o "append" X.env (eval o X.env)=eval o X.env) d3._auto_1) (j:autoParam (((p5 cpos (e8 [e] X.env)).all (λx=>!x.1)&&(Z0 cpos (bL [] X.env)).all (λx=>x.1.isSome)
   && decide ([e].length+([]:List T3).length+(if ([]:List T3).isEmpty then 0 else 1)<30))=Uf) d3._auto_1)
  (d:autoParam ((apos.endLine==cpos.line)=Uf) d3._auto_1) (b:autoParam ((p5 cpos (e8 [] X.env)).any (·.1)=U') d3._auto_1)
  (hs:autoParam (Q4 (.Call (.Attribute o "append" apos) [e] [] cpos) J pos.line X.env=pure U') d3._auto_1) :
  D9 X (.Expr (.Call (.Attribute o "append" apos) [e] [] cpos) pos) (sX (GA X.K "list" yl (C7 i) (pJ te pH))) (cU i F) :=
 ⟨nU (vT px Pt Pr zA C (kE w.p rj f) c j d f b) hs,by
 intro O g u n H z D o S h q;unfold cU at h;obtain⟨pv,e1,h⟩:=b5 h;split at h;rename_i l m;obtain⟨G,h⟩:=v8 h;cases h;obtain⟨a,A,r,E,s,y⟩:=S.slot i _ m;refine⟨_,r,.inl ⟨rfl,A,D5.of s⟩,?_⟩;refine w.t O g u n H z pv _ S e1 λv I k B=>?_;have:=y.length;refine⟨a,A,v,rfl,rfl,k _ _ s,C1 j1 (my o6),q u n _ ?_⟩;exact(S.grow k).turn m r ((y.same (G6 k)).append (.cons (B.dt S.dm) .nil))
 . exact nE h⟩
end
def DS.rebase{K:d2}{b:St}(S:DS K O i7 as b H ds):DS K O (j9 H as []) as b H ds where
 ls:=S.ls
 same:=l8
 new:=λa h=>⟨by delta j9;rw[b3 (.inr h)],(S.new a h).2⟩
 cy:=λa h=>by
  obtain⟨o,z⟩:=S.cy a h;refine⟨o,p6.mpr ⟨by simp,λq=>?_,S.same _ _ z⟩⟩;rw[(S.new a q).1]at z;exact nE z
 fL:=S.fL
def DS.nL{K:d2}{b:St}(S:DS K O Hb as b H ds)(e:d9 i7 Hb)(hd:∀a∈O,∃o,i7 a=U o):DS K O i7 as b H ds :=
 ⟨S.ls,e.trans S.same,λa h=>⟨e.free (S.new a h).1,(S.new a h).2⟩,hd,S.fL⟩
def DS.Yn{K:d2}{a:St}(S:DS K O i7 as a H ds):d9 i7 (j9 H as []):=λb o h=>by
 refine p6.mpr ⟨by simp,λq=>?_,S.same _ _ h⟩;rw[(S.new b q).1]at h;exact nE h
theorem yg.nL{X:Cx}{O:List Addr}{i7 Hb:Hp}{D:Ends}{o:Out}(h:yg X O i7 D o)(e:d9 i7 Hb)(hd:∀a∈O,∃u,i7 a=U u):yg X O Hb D o:=by
 cases o with
 |next d=>exact λc b H S=>h c b H (S.nL e hd)
 |brk d=>exact λc b H S=>h c b H (S.nL e hd)
 |cont d=>exact λc b H S=>h c b H (S.nL e hd)
 |ret pv=>exact λv H s r=>h v H (e.trans s) (r.back e)
 |up x=>exact λf H s n u=>h f H (e.trans s) (e.free n) u
 |retO pv d=>exact λc b g H v S s r=>h c b g H v (S.nL e hd) s r
def Vm(K:d2)(g:TG)(gt:a7->DD):Prop :=
 ∀(O:List Addr) (i7:Hp) (as:As) (σ:St) (H:Hp) (ds ds':Ds) (v:V) (d:a7) (Q:St->Hp->Prop),DS K O i7 as σ H ds->Dt K (j9 H as O) v d->gt d ds=U ds'->(∀as' σ',DS K O i7 as' σ' H ds'->Q σ' H)->g v σ H Q
def A1(i:Nat):a7->DD:=λd ds=>U (ds.set i (U (.dat d)))
def Qo{K:d2}{i:Nat}:Vm K (V5 i) (A1 i):=by intro O a f c H g b v d Q S h e q;cases e;exact q _ _ (S.set i h)
def Kc(K:d2)(g:oE)(gt:List a7->DD):Prop :=
 ∀(O:List Addr) (i7:Hp) (as:As) (σ:St) (H:Hp) (ds ds':Ds) (vs:List V) (l:List a7) (Q:St->Hp->Prop),DS K O i7 as σ H ds->m7 K (j9 H as O) vs l->gt l ds=U ds'->(∀as' σ',DS K O i7 as' σ' H ds'->Q σ' H)->g vs σ H Q
def bF:List a7->DD
 | [],ds=>U ds
 |_,_=>J
def A7(i:Nat)(r:List a7->DD):List a7->DD
 |d::l,ds=>r l (ds.set i (U (.dat d)))
 | [],_=>J
def bE(n:Nat)(r:List a7->DD):a7->DD
 | .tuple l,ds=>if l.length=n then r l ds else J
 |_,_=>J
def Qp{K:d2}:Kc K JK bF:=by
 intro O a d c H f b g l Q S h e q;cases h with
 |nil=>cases e;exact⟨rfl,q _ _ S⟩
 |cons _ _=>exact nE e
def KD{K:d2}{i:Nat}{g:oE}(c:Kc K g r):Kc K (tN (V5 i) g) (A7 i r):=by
 intro O a f d H j b k l Q S h e q;cases h with
 |nil=>exact nE e
 |cons h t =>
  exact⟨_,_,rfl,c O a _ _ H _ b _ _ Q (S.set i h) t e q⟩
def VC{K:d2}{n:Nat}{g:oE}(t:Kc K g r):Vm K (Co K n g) (bE n r):=by
 intro O b p m H k ds' v d Q S h e q;cases h with
 |tup s i =>
  rename_i a j l;have f:(if l.length=n then r l k else J)=U ds':=e;obtain⟨o,f⟩:=v8 f;exact⟨a,j,rfl,l8.cJ s,by rw[i.length];exact o,t O b p m H k ds' j l Q S i f q⟩
 |_=>exact nE e
noncomputable def V1(gt:a7->DD)(G:DO):List a7->DO
 | [],ds=>U (.next ds)
 |x::r,ds=>(gt x ds).bind λds1=>(G ds1).bind λo=>match o with
  | .next ds2=>V1 gt G r ds2
  | .cont ds2=>V1 gt G r ds2
  | .brk ds2=>U (.next ds2)
  | .ret pv=>U (.ret pv)
  | .up x=>U (.up x)
  | .retO pv ds2=>U (.retO pv ds2)
noncomputable def A8(Fi:DL)(gt:a7->DD)(G:DO):DO:=λds=>(Fi ds).bind λitems=>V1 gt G items ds
section
variable{X:Cx}{tg iter c:Expr}{body:List Stmt}{wi:TI}{g:TG}{tb:TS}{tt:TT}{pos:Pos}{Fi:DL}{gt:a7->DD}{G:DO}{Fc:DB}
def Wq(hp:se (model X.prog X.w) X.A X.env X.xe)(hc:X.calm=Uf)(hi:cW X Uf tg iter wi Fi)(hg:PG X tg g)(Z:Vm X.K g gt)(C:gF X body tb G)(hs:autoParam (∀x,bO iter X.env x=pure x) U0._auto_1):D9 X (.For tg iter body [] pos) (Qv wi g tb) (A8 Fi gt G):=⟨Zu hp hc hi.p hg C.p hs,by
 intro O M N σ H W D o S h q;unfold A8 at h;obtain⟨a,e1,h⟩:=b5 h;refine hi.t O M N σ H W a _ S e1 λJff H1 s1 it=>?_;have S1:=S.grow s1;have L:=q.nL S1.Yn S.cy;refine⟨λi m l n=>i<=a.length/\m=a.length-i/\∃r k,DS X.K O (j9 H1 N []) r l n k/\V1 gt G (a.drop i) k=U o,⟨_,cY _,rfl,N,W,S1.rebase,h⟩,?_⟩;rintro i m I H2 ⟨hi',em,s,E,B,c⟩;obtain⟨R,st',V⟩:=it H2 B.same i;by_cases e:i<a.length
 . have ed':=pz e;rw[ed']at c;unfold V1 at c;obtain⟨v,e3,c⟩:=b5 c;obtain⟨o4,e4,c⟩:=b5 c;refine .inr ⟨R e,λl n=>∃r k,DS X.K O (j9 H1 N []) r l n k/\V1 gt G (a.drop (i+1)) k=U o,λl n z=>⟨a.length-(i+1),by lia,e,rfl,z⟩,λx n y=>?_⟩
   obtain⟨e5,d,ed,dt⟩:=V x n y e;have Q:a[i]=d:=by rw[y4 e]at ed;exact L1 ed
   rw[Q]at e3;refine Z O _ s I n E v x d _ (B.grow e5) (dt s (λb C=>⟨(B.new b C).1,let ⟨_,z⟩:=(B.new b C).2;⟨_,z⟩⟩) B.cy) e3 λY σ4 S4=>?_
   refine C.t O _ Y σ4 n v _ o4 S4 e4 ?_;cases o4 with
   |next j=>exact λf u P F=>⟨f,j,F,c⟩
   |cont j=>exact λf u P F=>⟨f,j,F,c⟩
   |brk j=>cases c;assumption
   |ret pv=>cases c;exact L
   |up x=>cases c;exact L
   |retO pv j=>cases c;exact L
 . have T:i=a.length:=by lia
   subst T;rw[Ea]at c;cases c;exact .inl ⟨st' o6,L s I H2 B⟩⟩
noncomputable def C2(Fc:DB)(G:DO):Nat->DO
 | 0,_=>J
 |n+1,ds=>(Fc ds).bind λb=>if b=Uf then(G ds).bind λo=>match o with
   | .next ds2=>C2 Fc G n ds2
   | .cont ds2=>C2 Fc G n ds2
   | .brk ds2=>U (.next ds2)
   | .ret pv=>U (.ret pv)
   | .up x=>U (.up x)
   | .retO pv ds2=>U (.retO pv ds2)
  else U (.next ds)
noncomputable def jh(μ:Ds->Nat)(Fc:DB)(G:DO):DO:=λds=>C2 Fc G (μ ds) ds
def Lr(μ:Ds->Nat)(P:se (model X.prog X.w) X.A X.env X.xe)(C:bV X c tt Fc)(y:gF X body tb G):D9 X (.While c body [] pos) (KG tt tb) (jh μ Fc G):=⟨RC P C.p y.p,by
 intro O d M Q H N D o S h q;refine⟨λm i r=>∃k f,DS X.K O d k i r f/\C2 Fc G m f=U o,⟨_,M,N,S,h⟩,?_⟩
 rintro m j I ⟨l,g,s,a⟩;cases m with
 |zero=>exact nE a
 |succ m =>
  unfold C2 at a;obtain⟨b,e1,a⟩:=b5 a;refine C.t O d l j I g b _ s e1 λF E=>?_
  cases b with
  |false =>
   cases a;exact q l j F (s.grow E)
  |true =>
   obtain⟨B,e4,a⟩:=b5 a;refine⟨λi r=>∃k f,DS X.K O d k i r f/\C2 Fc G m f=U o,λi r z=>⟨m,sA _,z⟩,?_⟩
   refine y.t O d l j F g _ B (s.grow E) e4 ?_;cases B with
   |next e=>exact λn u L v=>⟨n,e,v,a⟩
   |cont e=>exact λn u L v=>⟨n,e,v,a⟩
   |brk e=>cases a;exact q
   |ret pv=>cases a;exact q
   |up x=>cases a;exact q
   |retO pv e=>cases a;exact q⟩
end
def IW:Out->Option PV
 | .ret pv=>U pv
 | .next _=>U (.dat .none)
 |_=>J
noncomputable def w5(n N:Nat)(G:DO):FV:=λl=>if l.length=n then(G (L7 l++o1 (N-n) J)).bind IW else J
section
variable{P:n9}{w:k7}{K:d2}{mg:Str->Option a9}{base:Heap}
theorem DS.start{O:List Addr}{H:Hp}{vs:List V}{l:List a7}{N:List Str}(c:∀a∈O,∃u,H a=U u)(h:m7 K (j9 H [] O) vs l):DS K O H (o1 (L7 l++o1 (N.length-l.length) J).length J) (start N vs) H (L7 l++o1 (N.length-l.length) J):=by
 have d:DS K O H (o1 (N.length-l.length) J) (o1 (N.length-l.length) J) H (o1 (N.length-l.length) J) :=
  ⟨by simp,d9.refl H,λa z=>absurd z kD,c,λ_=>[],λi b z=>absurd z i9,λi j b z=>absurd z i9,λi pv z=>by have:=lZ z;simp[OI]at this⟩
 have e:(o1 (L7 l++o1 (N.length-l.length) J).length J:As)=o1 l.length J++o1 (N.length-l.length) J:=by
  congr 1
  simp[L7]
 rw[e];delta L2.start;rw[h.length];exact(d.pre (by rw[Xu];exact h))
def sQ.okF {x b:Str} {i:Stmt} {f:Addr} {fd:B4} {N g:List Str} {k:Nat} {G:DO} (F:sQ K x b i f fd) (S:iH N g (B6 i)) (R:g.length<=N.length) (d:∀(c:a9) (A:t6) (outer:List Env) (s:b9) (H:Hp) (E:XK),D1 k (A.deeper (cX b (B6 i) (hz s) f c)) ->
   ∃t,gF (nB qP P w K mg base N b (B6 i) f c A outer s H E).zz (aj i) t G):W4 P w K mg base qP (k+1) f fd g (t7 K (w5 g.length N.length G)):=by
 have D:∀j H Q E,t7 K (w5 g.length N.length G) j H Q E->j.length=g.length:=λj H Q E h=>by obtain⟨O,n,pv,z,u,a,q⟩:=h;unfold w5 at a;obtain⟨l,a⟩:=v8 a;rw[u.length];exact l
 refine F.ok S D λc A outer s H j Q E B h=>?_
 obtain⟨O,n,pv,z,u,a,q⟩:=h;obtain⟨t,y⟩:=d c A outer s H E B;refine⟨t,y.p,?_⟩;unfold w5 at a;obtain⟨l,a⟩:=v8 a;rw[<-l]at a;obtain⟨o,e1,a⟩:=b5 a;refine y.t O H _ (L2.start N j) H _ _ o (DS.start z u) e1 ?_;cases o with
 |next e=>cases a;exact λM L m I=>q _ m I.same Dt.non
 |ret C=>cases a;assumption
 |brk e=>exact nE a
 |cont e=>exact nE a
 |up x=>exact nE a
 |retO pv e=>exact nE a
end
end
section
variable{g:Int->Int->V}{g':Int->Int->a7}{H:Hp}{xs:List V}
instance {m:Nat} {i:Int}:Decidable (Bt m i):=decidable_of_iff (i.natAbs<2 ^ m) ⟨λh=>⟨h⟩,λh=>h.lt⟩
instance {i j:Int}:Decidable (zi i j):=by delta zi;infer_instance
noncomputable def Nn(g:Int->Int->a7):a7->a7->Option PV
 | .int i,.int j=>U (.dat (g i j))
 |_,_=>J
noncomputable def rJ(C:Int->Int->Prop)[∀i j,Decidable (C i j)](g:Int->Int->a7):a7->a7->Option PV
 | .int i,.int j=>if C i j then U (.dat (g i j))else J
 |_,_=>J
section
variable{K:d2}
def vR(b:∀i j H,Dt K H (g i j) (g' i j)):cz K (mD g) (Nn g'):=by
 intro O h H x y d e pv Q D c f a q;cases c with
 |int i =>
  cases f with
  |int j =>
   cases a;exact⟨i,j,rfl,rfl,q _ H (d9.refl H) (b i j _)⟩
  |_=>exact nE a
 |_=>exact nE a
def ra{C c:Int->Int->Prop}[∀i j,Decidable (C i j)](k:∀i j,C i j->c i j)(f:∀i j H,Dt K H (g i j) (g' i j)):cz K (rI c g) (rJ C g'):=by
 intro O n H x y d e pv Q D h l b q;cases h with
 |int i =>
  cases l with
  |int j =>
   have a:(if C i j then U (PV.dat (g' i j))else J)=U pv:=b;obtain⟨m,a⟩:=v8 a;cases a;exact⟨i,j,rfl,rfl,k i j m,q _ H (d9.refl H) (f i j _)⟩
  |_=>exact nE b
 |_=>exact nE b
def gk:=Nn λi j=>.int (i-j)
noncomputable def C8:=rJ (λi j=>Bt 60000 i/\Bt 60000 j) λi j=>.int (i*j)
def O7:=rJ (λ_ j=>j≠0/\Bt 8000 j) λi j=>.int (i.fdiv j)
def bH:=rJ (λ_ j=>j≠0) λi j=>.int (i.fmod j)
def IP:=rJ zi λi j=>.int (i ^ j.toNat)
def Iy:=rJ (λ_ j=>0<=j) λi j=>.int (i/2 ^ j.toNat)
def ug:=Nn λi j=>.bool (decide (i<j))
def wx:=Nn λi j=>.bool (decide (j<i))
def UY:=Nn λi j=>.bool (decide (j<=i))
def a1e:cz K (mD λi j=>.int (i-j)) gk:=vR λi j H=>.int _
def a1i:cz K (rI (λi j=>Bt 60000 i/\Bt 60000 j) λi j=>.int (i*j)) C8:=ra (λ_ _ h=>h) λi j H=>.int _
def Ya:cz K (rI (λ_ j=>j≠0/\Bt 8000 j) λi j=>.int (i.fdiv j)) O7:=ra (λ_ _ h=>h) λi j H=>.int _
def a1j:cz K (rI (λ_ j=>j≠0) λi j=>.int (i.fmod j)) bH:=ra (λ_ _ h=>h) λi j H=>.int _
def a1g:cz K (rI zi λi j=>.int (i ^ j.toNat)) IP:=ra (λ_ _ h=>h) λi j H=>.int _
def a1f:cz K (rI (λ_ j=>0<=j) λi j=>.int (i/2 ^ j.toNat)) Iy:=ra (λ_ _ h=>h) λi j H=>.int _
def XX:cz K (mD λi j=>.bl (decide (i<j))) ug:=vR λi j H=>.bl _
def a2T:cz K (mD λi j=>.bl (decide (j<i))) wx:=vR λi j H=>.bl _
def a2U:cz K (mD λi j=>.bl (decide (j<=i))) UY:=vR λi j H=>.bl _
def aG:a7->Option PV
 | .int i=>U (.dat (.int (-i)))
 |_=>J
def a1h:R1X K (rU λi=>.int (-i)) aG:=by
 intro O c H x d pv Q D b a q;cases b with
 |int i=>cases a;exact⟨i,rfl,q _ H (d9.refl H) (Dt.int _)⟩
 |_=>exact nE a
noncomputable def F3:a7->a7->Option PV
 | .str i,.str j=>U (.dat (.bool (decide (i=j))))
 |d,e=>if S3 d=Uf/\S3 e=Uf then U (.dat (.bool (N6 d e)))else J
noncomputable def pR:a7->a7->Option PV
 | .str i,.str j=>U (.dat (.bool (!decide (i=j))))
 |d,e=>if S3 d=Uf/\S3 e=Uf then U (.dat (.bool (!PyData.eqv d e)))else J
def IE(K:d2):R2:=λx y H Q=>rEq x y H Q\/∃d e,Dt K H x d/\Dt K H y e/\S3 d=Uf/\S3 e=Uf/\Q (.bl (N6 d e)) H
def QV(K:d2):R2:=λx y H Q=>rNe x y H Q\/∃d e,Dt K H x d/\Dt K H y e/\S3 d=Uf/\S3 e=Uf/\Q (.bl (!PyData.eqv d e)) H
def LS{X:Cx}(a:X.A.units+64<G8):O9 X (V7 .Eq) (IE X.K):=a1K.or (ZU a)
def ZP{X:Cx}(a:X.A.units+64<G8):O9 X (V7 .NotEq) (QV X.K):=a1H.or (ZQ a)
def Yb:cz K (IE K) F3:=by
 intro O g H x y d e pv Q D b f a q;unfold F3 at a;split at a;cases a;cases b;cases f;rename_i i j;exact .inl ⟨rfl,q _ H (d9.refl H) (by rw[show decide (V.str i=V.str j)=decide (i=j) by simp];exact Dt.bl _)⟩;obtain⟨c,a⟩:=v8 a;cases a;exact .inr ⟨d,e,b.same l8,f.same l8,c.1,c.2,q _ H (d9.refl H) (Dt.bl _)⟩
def a2R:cz K (QV K) pR:=by
 intro O g H x y d e pv Q D b f a q;unfold pR at a;split at a;cases a;cases b;cases f;rename_i i j;exact .inl ⟨rfl,q _ H (d9.refl H) (by rw[show decide (V.str i=V.str j)=decide (i=j) by simp];exact Dt.bl _)⟩;obtain⟨c,a⟩:=v8 a;cases a;exact .inr ⟨d,e,b.same l8,f.same l8,c.1,c.2,q _ H (d9.refl H) (Dt.bl _)⟩
def kF:a7->Bool
 | .none=>Uf
 |_=>U'
def Dt.Ho{x:V}{d:a7}(h:Dt K H x d):decide (x=.non)=kF d:=by cases h<;>rfl
def lj:a7->a7->Option PV
 |d,.none=>U (.dat (.bool (kF d)))
 |_,_=>J
def cQ:a7->a7->Option PV
 |d,.none=>U (.dat (.bool (!kF d)))
 |_,_=>J
def a2S:cz K (λx y H Q=>y=.non/\Q (.bl (decide (x=.non))) H) lj:=by
 intro O f H x y d e pv Q D b c a q;cases c with
 |non=>cases a;exact⟨rfl,q _ H (d9.refl H) (by rw[b.Ho];exact Dt.bl _)⟩
 |_=>exact nE a
def Vp:cz K (λx y H Q=>y=.non/\Q (.bl (!decide (x=.non))) H) cQ:=by
 intro O f H x y d e pv Q D b c a q;cases c with
 |non=>cases a;exact⟨rfl,q _ H (d9.refl H) (by rw[b.Ho];exact Dt.bl _)⟩
 |_=>exact nE a
noncomputable def l7(d:a7):a7->Option PV
 | .int i=>match d with
  | .list l=>(R7 l i).bind λd=>U (.dat d)
  | .tuple l=>(R7 l i).bind λd=>U (.dat d)
  | .str z=>if z.length<=1000000 then(R7 z.cps.toList i).bind λc=>U (.dat (.str ⟨#[c]⟩))else J
  |_=>J
 |_=>J
theorem m7.R7{H:Hp}{xs:List V}{l:List a7}{i:Int}{d:a7}(h:m7 K H xs l)(e:L2.R7 l i=U d):∃x,L2.R7 xs i=U x/\Dt K H x d:=by
 unfold L2.R7 at e ⊢;rw[h.length];cases hi:gy l.length i with
 |none=>simp_all
 |some j =>
  rw[hi]at e;exact h.get e
def XZ:cz K (zv K) l7:=by
 intro O r H x y d e pv Q D p m f q;cases m with
 |int i=>cases p with
  |lst j n =>
   obtain⟨d,a,b⟩:=b5 f;cases b;obtain⟨v,h,k⟩:=n.R7 a;exact .inl ⟨_,_,i,v,rfl,rfl,l8.seq j,h,q v H (d9.refl H) k⟩
  |tup j n =>
   obtain⟨d,a,b⟩:=b5 f;cases b;obtain⟨v,h,k⟩:=n.R7 a;exact .inr (.inl ⟨_,_,i,v,rfl,rfl,l8.cJ j,h,q v H (d9.refl H) k⟩)
  |str z =>
   obtain⟨o,b⟩:=v8 f;obtain⟨c,a,b⟩:=b5 b;cases b;exact .inr (.inr ⟨z,i,c,rfl,rfl,my o,a,q _ H (d9.refl H) (Dt.str _)⟩)
  |_=>exact nE f
 |_=>exact nE f
end
def UN(K:d2):R2:=λx y H Q=>∃a b xs ys,x=.ref a/\y=.ref b/\O0 K H a xs/\O0 K H b ys/\xs.length+ys.length<=p8 /\
 (xs=[]->Q (.ref b) H)/\(xs≠[]->ys=[]->Q (.ref a) H)/\(xs≠[]->ys≠[]->∀p,H p=J->Q (.ref p) (upd H p (.tup (xs++ys))))
def UO(K:d2):R2:=λx y H Q=>∃a b xs ys,x=.ref a/\y=.ref b/\D5 K H a xs/\D5 K H b ys/\xs.length+ys.length<=p8/\∀p,H p=J->Q (.ref p) (upd H p (.lst (xs++ys)))
section
variable{X:Cx}
def WQ:O9 X (Q3 .Add) (UN X.K):=by
 intro c s q H x y v u Q I f l h;obtain⟨a,b,g,w,rfl,rfl,i,j,t,n,q2,B⟩:=h;by_cases d:g=[];subst d;cases f;cases l;obtain⟨A,o,z,_⟩:=I.tuple i;obtain⟨k,C,r,_⟩:=I.tuple j;exact XB z r (o.tw.mpr rfl) ⟨.ref b,H,I,rfl,n rfl⟩;exact WR c s q H (.ref a) (.ref b) v u Q I f l ⟨a,b,g,w,rfl,rfl,i,j,d,t,λe=>q2 d e,λe p m=>B d e p m⟩
def WT:O9 X (Q3 .Add) (UO X.K):=by
 intro w s V H x y v u Q I A P h;obtain⟨l,b,R,Y,rfl,rfl,G,B,W,q⟩:=h;cases A;cases P;obtain⟨c,r,L,S⟩:=I.list G;obtain⟨a,m,E,T⟩:=I.list B;obtain⟨⟨N,M,o,C⟩,t,D,n,O⟩:=L.isList;obtain⟨⟨p,f,g,i⟩,d,k,z,j⟩:=E.isList;subst D O k j;have e:c.toArray++a.toArray=(c++a).toArray:=by simp
 have:=r.length;have:=m.length;refine xp ⟨_,t,rfl⟩ ⟨_,d,rfl⟩ noFill_list_add seq_list_add PySem.F.slot_list_add PySem.F.entry_list_add (PySem.F.args_list_add_2 _ _) (list_addW l b c.toArray a.toArray n z M f C i (by simp;simp_all)) ⟨t,d,?_⟩;rw[e];exact⟨.ref _,_,I.a0i (r.append m) (by rw[U6];subst_vars;assumption),rfl,q _ I.fresh⟩
def IF(K:d2):R2:=λx y H Q=>(mD λi j=>.int (i+j)) x y H Q\/(∃i j,x=.str i/\y=.str j/\i.length+j.length<=p8/\Q (.str (i++j)) H)\/UN K x y H Q\/UO K x y H Q
def WU:O9 X (Q3 .Add) (IF X.K):=ZV.or (IY.or (WQ.or WT))
end
noncomputable def n8:a7->a7->Option PV
 | .int i,.int j=>U (.dat (.int (i+j)))
 | .str i,.str j=>if i.length+j.length<=1000000 then U (.dat (.str (i++j)))else J
 | .tuple l,.tuple m=>if l.length+m.length<=1000000 then U (.dat (.tuple (l++m)))else J
 | .list l,.list m=>if l.length+m.length<=1000000 then U (.own (l++m))else J
 |_,_=>J
def a1m{K:d2}:cz K (IF K) n8:=by
 intro O A H x y d e pv Q D w r g q;cases w with
 |int i =>
  cases r with
  |int j=>cases g;exact .inl ⟨i,j,rfl,rfl,q _ H (d9.refl H) (Dt.int _)⟩
  |_=>exact nE g
 |str i =>
  cases r with
  |str j =>
   have c:(if i.length+j.length<=1000000 then U (PV.dat (.str (i++j)))else J)=U pv:=g;obtain⟨o,c⟩:=v8 c;cases c;exact .inr (.inl ⟨i,j,rfl,rfl,my o,q _ H (d9.refl H) (Dt.str _)⟩)
  |_=>exact nE g
 |tup s k =>
  cases r with
  |tup h f =>
   rename_i a t l b u m;have c:(if l.length+m.length<=1000000 then U (PV.dat (.tuple (l++m)))else J)=U pv:=g;obtain⟨o,c⟩:=v8 c;cases c;refine .inr (.inr (.inl ⟨a,b,t,u,rfl,rfl,l8.cJ s,l8.cJ h,by rw[k.length,f.length];exact my o,λe=>?_,λz v=>?_,λz v p n=>?_⟩));subst e;cases k;exact q _ H (d9.refl H) (Dt.tup h f);subst v;cases f;rw[Z9]at q;exact q _ H (d9.refl H) (Dt.tup s k);exact q _ _ (d9.new n) (vN D n (k.append f))
  |_=>exact nE g
 |lst s k =>
  cases r with
  |lst h f =>
   rename_i a t l b u m;have c:(if l.length+m.length<=1000000 then U (PV.own (l++m))else J)=U pv:=g;obtain⟨o,c⟩:=v8 c;cases c;exact .inr (.inr (.inr ⟨a,b,t,u,rfl,rfl,l8.seq s,l8.seq h,by rw[k.length,f.length];exact my o,λp n=>q _ _ (d9.new n) (jc n (k.append f))⟩))
  |_=>exact nE g
 |_=>exact nE g
noncomputable def cutD{α:Type}(xs:List α)(lo hi:Option Int):List α:=(xs.drop (HT.D7 xs.length 0 lo)).take (HT.D7 xs.length xs.length hi-HT.D7 xs.length 0 lo)
def m7.cut{K:d2}{l:List a7}(h:m7 K H xs l)(lo a:Option Int):m7 K H (qg xs lo a) (cutD l lo a):=by delta qg cutD;rw[h.length];exact(h.drop _).take _
def YR(K:d2):V->Option Int->Option Int->Hp->VK->Prop:=λx lo hi H Q=>∃a xs,x=.ref a/\O0 K H a xs/\(qg xs lo hi=xs->Q (.ref a) H)/\∀p,H p=J->Q (.ref p) (upd H p (.tup (qg xs lo hi)))
section
variable{X:Cx}
def VH:uu X (YR X.K):=by
 intro d s u H x v p q o j w Q I g m k l h;obtain⟨a,b,rfl,i,t,q2⟩:=h;by_cases e:HT.D7 b.length 0 o=0/\HT.D7 b.length b.length j=b.length
 . cases g;obtain⟨f,r,n,y⟩:=I.tuple i;have c:f.toArray.size=b.length:=by rw[M3];exact r.length.symm
   refine⟨"tuple",_,PyProof.Rows.slot_tuple_getitem.lookup,n.typeIs,?_⟩;refine Az n m k l (by rw[c];exact e) ⟨.ref a,H,I,rfl,t ?_⟩
   delta qg;simp_all
 exact Yz d s u H (.ref a) v p q o j w Q I g m k l ⟨a,b,rfl,i,e,q2⟩
end
def YT(K:d2):V->Option Int->Option Int->Hp->VK->Prop:=λx lo hi H Q=>YR K x lo hi H Q\/YS K x lo hi H Q
def YA{X:Cx}:uu X (YT X.K):=VH.or VI
noncomputable def mB:a7->Option Int->Option Int->Option PV
 | .tuple l,lo,hi=>U (.dat (.tuple (cutD l lo hi)))
 | .list l,lo,hi=>U (.own (cutD l lo hi))
 |_,_,_=>J
def R3X(K:d2)(r:V->Option Int->Option Int->Hp->VK->Prop)(f:a7->Option Int->Option Int->Option PV):Prop :=
 ∀(O:List Addr) (va:As) (H:Hp) (x:V) (lo hi:Option Int) (d:a7) (pv:PV) (Q:VK),pC H va O->Dt K (j9 H va O) x d->f d lo hi=U pv->(∀v H',d9 H H'->RX K O va H H' v pv->Q v H')->r x lo hi H Q
def a2Q{K:d2}:R3X K (YT K) mB:=by
 intro O k H x h f d pv Q D j g q;cases j with
 |tup b c =>
  cases g;refine .inl ⟨_,_,rfl,l8.cJ b,λe=>?_,λp a=>q _ _ (d9.new a) (vN D a (c.cut h f))⟩;have i:=c.cut h f;rw[e]at i;exact q _ H (d9.refl H) (Dt.tup b i)
 |lst b c =>
  cases g;exact .inr ⟨_,_,rfl,l8.seq b,λp a=>q _ _ (d9.new a) (jc a (c.cut h f))⟩
 |_=>exact nE g
def TOX(K:d2)(to:TO)(F:Ds->Option (Option Int)):Prop :=
 ∀(O:List Addr) (i7:Hp) (as:As) (σ:St) (H:Hp) (ds:Ds) (b:Option Int) (Q:Option Int->Hp->Prop),DS K O i7 as σ H ds->F ds=U b->(∀H',d9 H H'->Q b H')->to σ H Q
structure NX(X:Cx)(e:Option Expr)(to:TO)(F:Ds->Option (Option Int)):Prop where
 p:PO X e to
 t:TOX X.K to F
noncomputable def kh:Ds->Option (Option Int):=λ_=>U J
def asI:a7->Option Int
 | .int i=>U i
 |_=>J
noncomputable def N4(F:DV):Ds->Option (Option Int):=λds=>(F ds).bind λpv=>(asI pv.d).bind λi=>U (U i)
section
variable{X:Cx}{fr:Bool}{e:Expr}{te:TE}{F:DV}{p2 pos:Pos}
def RG:NX X J Gz kh:=⟨Wx,by intro O a e f H d b Q S c q;cases c;exact q H (d9.refl H)⟩
def RF(h:PX X fr e te F):NX X (U e) (Ux te) (N4 F):=⟨Ww h.p,by
 intro O c k l H f b Q S a q;unfold N4 at a;obtain⟨pv,h1,a⟩:=b5 a;refine h.t O c k l H f pv _ S h1 λv g m j=>?_
 have d:=j.dt S.dm;generalize pv.d=z at d a;cases d with
 |int i=>cases a;exact⟨i,rfl,q g m⟩
 |_=>exact nE a⟩
noncomputable def gC(f:a7->Option Int->Option Int->Option PV)(F:DV)(Fl Fh:Ds->Option (Option Int)):DV:=λds=>(F ds).bind λx=>(Fl ds).bind λlo=>(Fh ds).bind λhi=>f x.d lo hi
def Ra{r:V->Option Int->Option Int->Hp->VK->Prop}{f:a7->Option Int->Option Int->Option PV}{lo A:Option Expr}{z u:TO}{n o:Ds->Option (Option Int)}(N:uu X r)(C:R3X X.K r f)(s:PX X fr e te F)(y:NX X lo z n)(B:NX X A u o):
  PX X fr (.Subscript e (.Slice lo A J p2) pos) (tSl r te z u) (gC f F n o):=⟨RR N s.p y.p B.p,by
 intro O a k m H c pv Q S b q;unfold gC at b;cases h1:F c with
 |none=>simp_all
 |some x =>
  cases h2:n c with
  |none=>rw[h1,h2]at b;exact nE b
  |some l =>
   cases h3:o c with
   |none=>rw[h1,h2,h3]at b;exact nE b
   |some h =>
    rw[h1,h2,h3]at b;refine s.t O a k m H c x _ S h1 λv L g D=>?_;refine y.t O a k m L c l _ (S.grow g) h2 λM i=>?_;refine B.t O a k m M c h _ ((S.grow g).grow i) h3 λG j=>?_;refine C O (S6 fr k) G v l h x.d pv Q (((S.grow g).grow i).grow j).dm ((D.grow (i.trans j)).dt S.dm) b λw P E I=>?_
    exact q w P (((g.trans i).trans j).trans E) (I.back ((g.trans i).trans j))⟩
end
section
variable{X:Cx}
def d1(f:a7->Option PV):FV
 | [d]=>f d
 |_=>J
def uw.one{K:d2}{r:List V->Hp->VK->Prop}{f:a7->Option PV}(h:R1X K (λx=>r [x]) f):uw K r (d1 f):=by
 intro O c H g i pv Q D b a q;cases b with
 |nil=>exact nE a
 |cons e t =>
  cases t with
  |nil=>exact h O c H _ _ pv Q D e a q
  |cons _ _=>exact nE a
def QX(K:d2):List V->Hp->VK->Prop:=λxs H Q=>(∃p ys,xs=[.ref p]/\(D5 K H p ys\/O0 K H p ys)/\Q (.int ys.length) H)\/(∃z,xs=[.str z]/\z.length<=p8/\Q (.int z.length) H)
def NQ:bQ X (.builtin "len") (QX X.K):=CW.or CV
noncomputable def u9:FV:=d1 fun
 | .list l=>U (.dat (.int (l.length:Nat)))
 | .tuple l=>U (.dat (.int (l.length:Nat)))
 | .str z=>if z.length<=1000000 then U (.dat (.int (z.length:Nat)))else J
 |_=>J
def m7.inv1{K:d2}{d:a7}(h:m7 K H xs [d]):∃x,xs=[x]/\Dt K H x d:=by
 cases h with
 |cons h t=>cases t;exact⟨_,rfl,h⟩
def a1l{K:d2}:uw K (QX K) u9:=.one λO g H x i pv Q D b a q=>by
 cases b with
 |lst c d=>cases a;exact .inl ⟨_,_,rfl,.inl (l8.seq c),q _ H (d9.refl H) (by rw[d.length];exact Dt.int _)⟩
 |tup c d=>cases a;exact .inl ⟨_,_,rfl,.inr (l8.cJ c),q _ H (d9.refl H) (by rw[d.length];exact Dt.int _)⟩
 |str =>
  obtain⟨e,a⟩:=v8 a;cases a;exact .inr ⟨_,rfl,my e,q _ H (d9.refl H) (Dt.int _)⟩
 |_=>exact nE a
noncomputable def nG:FV:=d1 fun
 | .int i=>U (.dat (.int (if i<0 then -i else i)))
 |_=>J
def a1n{K:d2}:uw K (λxs H Q=>∃i,xs=[.int i]/\Q (.int (if i<0 then -i else i)) H) nG:=.one λO c H x d pv Q D b a q=>by
 cases b with
 |int=>cases a;exact⟨_,rfl,q _ H (d9.refl H) (Dt.int _)⟩
 |_=>exact nE a
noncomputable def X9:FV:=d1 fun
 | .list l=>U (.dat (.tuple l))
 | .tuple l=>U (.dat (.tuple l))
 |_=>J
def Vo{K:d2}:uw K (λxs H Q=>∃p ys,xs=[.ref p]/\((D5 K H p ys/\∀l,H l=J->Q (.ref l) (upd H l (.tup ys)))\/(O0 K H p ys/\Q (.ref p) H))) X9:=.one λO f H x g pv Q D d a q=>by
 cases d with
 |lst b c=>cases a;exact⟨_,_,rfl,.inl ⟨l8.seq b,λp e=>q _ _ (d9.new e) (vN D e c)⟩⟩
 |tup b c=>cases a;exact⟨_,_,rfl,.inr ⟨l8.cJ b,q _ H (d9.refl H) (Dt.tup b c)⟩⟩
 |_=>exact nE a
noncomputable def wg:FV:=d1 fun
 | .list l=>U (.own l)
 | .tuple l=>U (.own l)
 |_=>J
def XY{K:d2}:uw K (λxs H Q=>∃p ys,xs=[.ref p]/\(D5 K H p ys\/O0 K H p ys)/\∀l,H l=J->Q (.ref l) (upd H l (.lst ys))) wg:=.one λO f H x g pv Q D e b q=>by
 cases e with
 |lst c d=>cases b;exact⟨_,_,rfl,.inl (l8.seq c),λp a=>q _ _ (d9.new a) (jc a d)⟩
 |tup c d=>cases b;exact⟨_,_,rfl,.inr (l8.cJ c),λp a=>q _ _ (d9.new a) (jc a d)⟩
 |_=>exact nE b
end
abbrev a1u(K:d2):List V->Hp->VK->Prop:=λxs H Q=>∃p ys,xs=[.ref p]/\((D5 K H p ys/\∀l,H l=J->Q (.ref l) (upd H l (.tup ys)))\/(O0 K H p ys/\Q (.ref p) H))
abbrev YV(K:d2):List V->Hp->VK->Prop:=λxs H Q=>∃p ys,xs=[.ref p]/\(D5 K H p ys\/O0 K H p ys)/\∀l,H l=J->Q (.ref l) (upd H l (.lst ys))
def Rm{X:Cx}{K':d2}{fr:Bool}{e:Expr}{es:List Expr}{t:TA}{g:DL}{pos:Pos}{CX:mn}{E:XK}{k:Nat}{f:Addr}{fd:B4}{d:List Str}{x:Str}{p:Pos}{c:FV}(i:X.K=K')(G:W4 X.prog X.w K' X.mg X.base CX k f fd d (t7 K' c))(n:D1 k X.A)(h:Gl X x)(r:X.mg x=U (.ref f))(o:eT K' (.ref f)=Uf)(j:Binds K' fd d [])(l:Passes CX X E)(q:aY X fr (e::es) t g)(a:autoParam ((x==("__debug__" : Str))=U') a6._auto_1)(m:autoParam (e8 (e::es) X.env=(U',eval e X.env)::e8 es X.env) d3._auto_1)(b:autoParam ((p5 pos (e8 es X.env)).any (·.1)=U') d3._auto_1):
  PX X fr (.Call (.Name x p) (e::es) [] pos) (pK (t7 K' c) [] E t) (b4 c g):=by subst i;exact We G n h r o j l q a m b
noncomputable def wa(i:Nat)(ds:Ds):Nat:=match ds[i]? with
 |some (U (.dat (.int k)))=>k.natAbs+1
 |_=>0
end
section
variable{K:d2}{H H':Hp}
def VG{a:Addr}{xs:List V}(h:D5 K H a xs):D5 K (j9 H [] []) a xs:=by assumption
theorem CI{K:d2}{H:Hp}:∀ns:List Int,m7 K H (ns.map V.int) (ns.map P0)
 | []=>.nil
 |n::r=>.cons (.int n) (CI r)
def Xy{v:V}(r:RX K [] [] H H' v (.dat (.bool Uf))):v=.bl Uf:=by cases r;rfl
end
section
variable{ds ds2:Ds}{a:Type}{j lo:Int}{gt:a7->DD}{G:DO}{Fc:DB}
def aD(o:Option Out)(G:DO):Option Out:=o.bind λo=>match o with
 | .next ds'=>G ds'
 |o=>U o
def k6(a G2:DO)(ds:Ds):c8 a G2 ds=aD (a ds) G2:=rfl
def j0(ds:Ds)(G:DO):aD (U (.next ds)) G=G ds:=rfl
def QF(pv:PV)(G:DO):aD (U (.ret pv)) G=U (.ret pv):=rfl
def TV(b:Bool):Vh (.bool b)=U b:=rfl
def IA(l:List a7):ke (.list l)=U l:=rfl
def KZ(l:List a7):ke (.tuple l)=U l:=rfl
def Sg(pv:PV):IW (.ret pv)=U pv:=rfl
def LQ(ds:Ds):IW (.next ds)=sd .none:=rfl
noncomputable def a0m(o:Option PV)(i:Nat)(ds:Ds):Option Out:=o.bind λpv=>U (.next (ds.set i (U (.dat pv.d))))
def bI(i:Nat)(F:DV)(ds:Ds):d8 i F ds=a0m (F ds) i ds:=rfl
def rz(pv:PV)(i:Nat)(ds:Ds):a0m (U pv) i ds=U (.next (ds.set i (sd pv.d))):=rfl
def Jy(o:Option PV)(i:Nat)(ds:Ds):Option Out:=o.bind λpv=>U (.next (ds.set i (U pv)))
def yS(i:Nat)(F:DV)(ds:Ds):I0 i F ds=Jy (F ds) i ds:=rfl
def MD(pv:PV)(i:Nat)(ds:Ds):Jy (U pv) i ds=U (.next (ds.set i (U pv))):=rfl
noncomputable def zf(o:Option PV)(i:Nat)(ds:Ds):Option Out:=o.bind λpv=>match ds[i]? with
 |some (U (.own l))=>if l.length<1000000 then U (.next (ds.set i (U (.own (l++[pv.d])))))else J
 |_=>J
def kH(i:Nat)(F:DV)(ds:Ds):cU i F ds=zf (F ds) i ds:=rfl
def fW{i:Nat}{l:List a7}(pv:PV)(h:ds[i]? = U (U (.own l)))(a:l.length<1000000):zf (U pv) i ds=U (.next (ds.set i (U (.own (l++[pv.d]))))):=by
 delta zf
 simp_all
abbrev iD(n:Int):Option PV:=U (.dat (.int n))
def a2g(x:a)(l:List a):R7 (x::l) 0=U x:=by delta R7 gy;rw[b3 a6,b3 i9];rfl
def ck{b:Type}{l:List b}{i:Int}{n:Nat}(a:i=(n:Int))(h:n<l.length):R7 l i=l[n]?:=by subst a;delta R7 gy;rw[b3 j1,b3 j1];simp
def a2f(x y:a)(l:List a):R7 (x::y::l) 1=U y:=ck rfl i9
def a2e(x y z:a)(l:List a):R7 (x::y::z::l) 2=U z:=ck rfl i9
def a2d(x y z u:a)(l:List a):R7 (x::y::z::u::l) 3=U u:=ck rfl i9
def a2c(x y z u v:a)(l:List a):R7 (x::y::z::u::v::l) 4=U v:=ck rfl i9
def a2b(x y z u v w:a)(l:List a):R7 (x::y::z::u::v::w::l) 5=U w:=ck rfl i9
def Ua(i j:Int):n8 (.int i) (.int j)=sd (.int (i+j)):=rfl
def Qy(i j:Int):gk (.int i) (.int j)=sd (.int (i-j)):=rfl
def l9{i:Int}(h:Bt 60000 i)(k:Bt 60000 j):C8 (.int i) (.int j)=sd (.int (i*j)):=by
 delta C8 rJ
 simp_all
def C4{i:Int}(h:j≠0)(k:Bt 8000 j):O7 (.int i) (.int j)=sd (.int (i.fdiv j)):=by
 delta O7 rJ
 simp_all
def Y3{i:Int}(h:j≠0):bH (.int i) (.int j)=sd (.int (i.fmod j)):=b3 h
def RH{i:Int}(h:zi i j):IP (.int i) (.int j)=sd (.int (i ^ j.toNat)):=b3 h
def QC{i:Int}(h:0<=j):Iy (.int i) (.int j)=sd (.int (i/2 ^ j.toNat)):=b3 h
def Xf(i j:Int):ug (.int i) (.int j)=sd (.bool (decide (i<j))):=rfl
def Xv(i j:Int):wx (.int i) (.int j)=sd (.bool (decide (j<i))):=rfl
def Xw(i j:Int):UY (.int i) (.int j)=sd (.bool (decide (j<=i))):=rfl
def vg(i j:Int):F3 (.int i) (.int j)=sd (.bool (decide (i=j))):=by rfl
def SF(i j:Int):pR (.int i) (.int j)=sd (.bool (!decide (i=j))):=by rfl
def og(l:List a7)(i:Int):l7 (.tuple l) (.int i)=(R7 l i).bind λd=>sd d:=rfl
def Tc(l:List a7)(i:Int):l7 (.list l) (.int i)=(R7 l i).bind λd=>sd d:=rfl
def Ub(i:Int):nG [.int i]=sd (.int (if i<0 then -i else i)):=rfl
def SE(i:Int):aG (.int i)=sd (.int (-i)):=rfl
def ME(l:List a7):u9 [.list l]=sd (.int (l.length:Nat)):=rfl
def Cc(l:List a7):u9 [.tuple l]=sd (.int (l.length:Nat)):=rfl
def Kz(l:List a7):X9 [.list l]=sd (.tuple l):=rfl
def Qn(l:List a7):X9 [.tuple l]=sd (.tuple l):=rfl
def Jv(l:List a7):wg [.list l]=U (.own l):=rfl
def MB(l:List a7):wg [.tuple l]=U (.own l):=rfl
def TY{l m:List a7}(h:l.length+m.length<=1000000):n8 (.tuple l) (.tuple m)=sd (.tuple (l++m)):=b3 h
def NU{l m:List a7}(h:l.length+m.length<=1000000):n8 (.list l) (.list m)=U (.own (l++m)):=b3 h
def TZ{l m:Str}(h:l.length+m.length<=1000000):n8 (.str l) (.str m)=sd (.str (l++m)):=b3 h
def VJ(l:List a7)(lo a:Option Int):mB (.tuple l) lo a=sd (.tuple (cutD l lo a)):=rfl
def Td(d:a7):lj d .none=sd (.bool (kF d)):=rfl
def Gf(d:a7):cQ d .none=sd (.bool (!kF d)):=rfl
def O3(h : -(4611686018427387904)<=j/\j<4611686018427387904):E2 [.int j]=U (U8 0 j.toNat):=@if_pos _ (xW _) h _ _ _
def Bu{i:Int}(h:(-(4611686018427387904)<=i/\i<4611686018427387904)/\-(4611686018427387904)<=j/\j<4611686018427387904):ic [.int i,.int j]=U (U8 i (j-i).toNat):=@if_pos _ (xW _) h _ _ _
theorem CN{gt:a7->Option (List a7)}{Fe:DV}{ds:Ds}{f:a7->a7}:∀{items:List a7},(∀x∈items,∃bs pv,gt x=U bs/\Fe (L7 bs++ds)=U pv/\pv.d=f x)->D4 gt j6 Fe ds items=U (items.map f)
 | [],_=>rfl
 |x::r,h=>by
  obtain⟨bs,pv,b,e,c⟩:=h x m8;unfold D4;rw[b];simp only[g8,j6];rw[e];rw[CN (λy a=>h y (m5 _ a))];simp[c]
def qi{Fe:DV}{f:Nat->a7}{n:Nat}(h:∀i,i<n->∃pv,Fe (sd (.int (lo+(i:Nat)))::ds)=U pv/\pv.d=f i):D4 j8 j6 Fe ds (U8 lo n)=U ((p9 n).map f):=by
 have a:∀(l:List Nat),(∀i∈l,i<n)->D4 j8 j6 Fe ds (l.map λk=>P0 (lo+(k:Nat)))=U (l.map f):=by
  intro l;induction l with
  |nil=>intro _;rfl
  |cons i r o =>
   intro b;obtain⟨pv,g,c⟩:=h i (b i m8);rw[m6];unfold D4;simp only[j8,g8,j6,mR,qf,W0,Z8];rw[g];rw[o (λj m=>b j (m5 _ m))];simp[c]
 exact a _ (λi e=>mem_range.mp e)
def iw{n:Nat}(I:Nat->Ds->Prop)(l:I 0 ds)(hs:∀i ds,i<n->I i ds->∃ds1 ds2,gt (.int (lo+(i:Nat))) ds=U ds1/\(G ds1=U (.next ds2)\/G ds1=U (.cont ds2))/\I (i+1) ds2):∃ds',V1 gt G (U8 lo n) ds=U (.next ds')/\I n ds':=by
 have c:∀(k i) ds,i+k=n->I i ds->∃ds',V1 gt G ((List.range' i k).map λk=>P0 (lo+(k:Nat))) ds=U (.next ds')/\I n ds':=by
  intro k;induction k with
  |zero =>
   intro i ds e b;have d:i=n:=by lia
   subst d;exact⟨ds,rfl,b⟩
  |succ k o =>
   intro i ds e b;obtain⟨ds1,ds2,h,a,g⟩:=hs i ds b6 b;rw[Oq,m6];unfold V1;rw[h];simp only[g8];obtain⟨ds',j,f⟩:=o (i+1) ds2 b6 g;refine⟨ds',?_,f⟩;rcases a with a|a<;>rw[a]<;>exact j
 obtain⟨ds',m,d⟩:=c n 0 ds (oM _ _) l;refine⟨ds',?_,d⟩;unfold U8;rw[OS];exact m
def bJ{items:List a7}(I:Nat->Ds->Prop)(m:I 0 ds)(hs:∀i d ds,items[i]? = U d->I i ds->∃ds1 ds2,gt d ds=U ds1/\(G ds1=U (.next ds2)\/G ds1=U (.cont ds2))/\I (i+1) ds2):∃ds',V1 gt G items ds=U (.next ds')/\I items.length ds':=by
 have g:∀r i ds,items.drop i=r->i<=items.length->I i ds->∃ds',V1 gt G r ds=U (.next ds')/\I items.length ds':=by
  intro r;induction r with
  |nil =>
   intro i ds e n f;have:=List.drop_eq_nil_iff.mp e;have o:i=items.length:=by lia
   subst o;exact⟨ds,rfl,f⟩
  |cons x r p =>
   intro i ds e n f;have a:i<items.length:=by
    by_cases c:i<items.length;exact c;rw[List.drop_eq_nil_of_le (lO c6)]at e;cases e
   rw[pz a]at e;injection e with ea eb
   obtain⟨ds1,ds2,j,b,h⟩:=hs i x ds (by rw[y4 a,ea]) f
   unfold V1;rw[j];simp only[g8];obtain⟨ds',k,l⟩:=p (i+1) ds2 eb c6 h;refine⟨ds',?_,l⟩;rcases b with b|b<;>rw[b]<;>exact k
 exact g items 0 ds rfl (cY _) m
def AX{n:Nat}(h:Fc ds=U U'):C2 Fc G (n+1) ds=U (.next ds):=by unfold C2;rw[h];rfl
def EN{n:Nat}(h:Fc ds=U Uf)(k:G ds=U (.next ds2)):C2 Fc G (n+1) ds=C2 Fc G n ds2:=by rw[C2,h];rw[k];rfl
def zk(I:Ds->Prop)(μ:Ds->Nat)(hs:∀ds,I ds->Fc ds=U U'\/(Fc ds=U Uf/\∃ds2,G ds=U (.next ds2)/\I ds2/\μ ds2<μ ds)):
  ∀(n:Nat) (ds:Ds),I ds->μ ds<n->∃ds',C2 Fc G n ds=U (.next ds')/\I ds'/\Fc ds'=U U':=by
 intro n;induction n with
 |zero=>intro ds _ h;exact kn
 |succ n c =>
  intro ds a d;rcases hs ds a with h|⟨h,ds2,k,b,f⟩
  exact⟨ds,AX h,a,h⟩;obtain⟨ds',e,r⟩:=c ds2 b b6;exact⟨ds',by rw[EN h k];exact e,r⟩
def Bt.mC{m:Nat}{i:Int}(b : -4611686018427387904<i)(c:i<4611686018427387904)(a:autoParam (62<=m) a6._auto_1):Bt m i:=(Bt.small j1 j1).mono a
def Bt.lit{m:Nat}{i:Int}(a:autoParam (-4611686018427387904<i) a6._auto_1)(c:autoParam (i<4611686018427387904) a6._auto_1)(b:autoParam (62<=m) a6._auto_1):Bt m i:=Bt.mC a c b
end
noncomputable def tM(i:Nat)(f:List a7->List a7):DO:=λds=>match ds[i]? with
 |some (U (.own l))=>U (.next (ds.set i (U (.own (f l)))))
 |_=>J
section
variable{X:Cx}{e o:Expr}{te:TE}{F:DV}{pos cpos apos:Pos}
def Wo(i:Nat)(m:PE X o (C7 i))(b:autoParam (U3 o "reverse" X.env (eval o X.env)=eval o X.env) d3._auto_1)(c:autoParam ((apos.endLine==cpos.line)=Uf) d3._auto_1)(hs:autoParam (Q4 (.Call (.Attribute o "reverse" apos) [] [] cpos) J pos.line X.env=pure U') d3._auto_1):
  D9 X (.Expr (.Call (.Attribute o "reverse" apos) [] [] cpos) pos) (sX (Yv X.K "list" By (C7 i))) (tM i Du) :=
 ⟨nU (ZJ px PySem.F.slot_list_reverse PySem.F.type_list_reverse Jm m b c) hs,by
 intro O e n k H r D o S h q;unfold tM at h;split at h;rename_i l g;cases h;obtain⟨a,j,f,s,d,p⟩:=S.slot i _ g;exact⟨_,f,.inl ⟨rfl,j,D5.of d⟩,a,j,rfl,rfl,d,q n k _ (S.turn g f p.reverse)⟩
 . exact nE h⟩
noncomputable def rM(i:Nat)(F:DV):DO:=λds=>(F ds).bind λpv=>match pv,ds[i]? with
 | .own m,U (U (.own l))=>if l.length+m.length<=1000000 then U (.next (ds.set i (U (.own (l++m)))))else J
 |_,_=>J
def Wr (i:Nat) (L:PE X o (C7 i)) (u:PX X Uf e te F) (j:autoParam (e8 [e] X.env=(U',eval e X.env)::e8 [] X.env) d3._auto_1) (d:autoParam (U3 o "extend" X.env (eval o X.env)=eval o X.env) d3._auto_1) (k:autoParam (((p5 cpos (e8 [e] X.env)).all (λx=>!x.1)&&(Z0 cpos (bL [] X.env)).all (λx=>x.1.isSome)
   && decide ([e].length+([]:List T3).length+(if ([]:List T3).isEmpty then 0 else 1)<30))=Uf) d3._auto_1)
  (f:autoParam ((apos.endLine==cpos.line)=Uf) d3._auto_1) (c:autoParam ((p5 cpos (e8 [] X.env)).any (·.1)=U') d3._auto_1)
  (hs:autoParam (Q4 (.Call (.Attribute o "extend" apos) [e] [] cpos) J pos.line X.env=pure U') d3._auto_1) :
  D9 X (.Expr (.Call (.Attribute o "extend" apos) [e] [] cpos) pos) (sX (GA X.K "list" GV (C7 i) (pJ te pH))) (rM i F) :=
 ⟨nU (vT px PySem.F.slot_list_extend PySem.F.type_list_extend Mt L (kE u.p rj j) d k f j c) hs,by
 intro O g B s H y D o S h q;unfold rM at h;obtain⟨pv,e1,h⟩:=b5 h;split at h;rename_i m l G;obtain⟨R,h⟩:=v8 h;cases h;obtain⟨a,A,C,T,r,w⟩:=S.slot i _ G;refine⟨_,C,.inl ⟨rfl,A,D5.of r⟩,?_⟩;refine u.t O g B s H y _ _ S e1 λv P n I=>?_;obtain⟨b,N,rfl,Q,M,E⟩:=I;have:=w.length;have:=E.length;refine⟨a,b,A,N,rfl,rfl,n _ _ r,M,my j1,q B s _ ?_⟩;exact(S.grow n).turn G C ((w.same (G6 n)).append (E.same (T8 (d9.refl _) λb z=>m5 _ z)))
 . exact nE h⟩
noncomputable def aP(i:Nat)(Fk Fv:DV):DO:=λds=>(Fv ds).bind λpv=>(Fk ds).bind λk=>match k.d,ds[i]? with
 | .int k,U (U (.own l))=>(gy l.length k).bind λj=>U (.next (ds.set i (U (.own (l.set j pv.d)))))
 |_,_=>J
def Ro {k:Expr} {u:TE} {Fk:DV} (i:Nat) {b:Pos} (Q:PE X o (C7 i)) (A:PX X Uf k u Fk) (x:PX X Uf e te F) (N:autoParam (∀v,assign (.Subscript o k b) X.env v=(do
   let ov <- holding [v] (eval o X.env)
   let iv <- holding [v,ov] (eval k X.env)
   ba b
   holding [v,ov,iv] (setItem ov iv v)
   release [v,ov,iv] [])) U0._auto_1)
  (hs:autoParam (xu [.Subscript o k b] e pos.line X.env=pure U') d3._auto_1) (P:autoParam (xt [.Subscript o k b] e X.env=pure J) d3._auto_1)
  (R:autoParam ((gP [.Subscript o k b] X.env).map (·.2)=[assign (.Subscript o k b) X.env]) d3._auto_1) :
  D9 X (.Assign [.Subscript o k b] e pos) (gj te (JJ (C7 i) u AJ)) (aP i Fk F):=⟨BC x.p (BH Q A.p set_list N) hs P R,by
 intro O c r m H f D o S h q;unfold aP at h;cases e1:F f with
 |none=>rw[e1]at h;exact nE h
 |some pv =>
  cases e2:Fk f with
  |none=>rw[e1,e2]at h;exact nE h
  |some kv =>
   rw[e1,e2]at h;simp only[g8]at h;split at h;rename_i s l n C;obtain⟨j,e3,h⟩:=b5 h;cases h;refine x.t O c r m H f pv _ S e1 λv E I K=>?_;have d:=S.grow I;obtain⟨a,M,B,V,G,y⟩:=d.slot i _ C;refine⟨_,B,?_⟩;refine A.t O c r m E f kv _ d e2 λw T g L=>?_;have z:=L.dt d.dm;rw[n]at z;cases z;refine⟨a,M,s,j,rfl,rfl,g _ _ G,by rw[y.length];exact e3,q r m _ ?_⟩;exact(d.grow g).turn C B ((y.same (G6 g)).set j ((K.grow g).dt S.dm))
   . exact nE h⟩
end
section
variable{ds r:List a7}{K:d2}{a:Addr}{e:Option Addr}{vs:List V}
noncomputable def yW(i:Nat)(F:DV):DV:=λds=>match ds[i]? with
 |some (U (.dat d))=>(F ds).bind λk=>l7 d k.d
 |some (U (.own l))=>(F ds).bind λk=>l7 (.list l) k.d
 |_=>J
noncomputable def intsOf:List a7->Option (List Int)
 | []=>U []
 | .int i::r=>(intsOf r).bind λl=>U (i::l)
 |_=>J
noncomputable def Bj:FV:=d1 fun
 | .list l=>(intsOf l).bind λis=>U (.dat (.int is.sum))
 |_=>J
noncomputable def O8:Int->List a7->List a7
 |_,[]=>[]
 |k,d::r=>.tuple [.int k,d]::O8 (k+1) r
noncomputable def aR:List a7->Option (List a7)
 | [d]=>(ke d).bind λl=>U (O8 0 l)
 |_=>J
def TL(a b:Prop)[Decidable a][Decidable b]:(if a then U (PV.dat (.bool (decide b)))else U (PV.dat (.bool U')))=U (PV.dat (.bool (decide (a/\b)))):=by
 by_cases h:a;rw[b3 h];simp[h];rw[b0 h];simp[h]
def KL(l:List a7):Bj [.list l]=(intsOf l).bind λis=>sd (.int is.sum):=rfl
def NB(d:a7):aR [d]=(ke d).bind λl=>U (O8 0 l):=rfl
def iE{i:Nat}{ds:Ds}{l:List a7}(pv:PV)(h:ds[i]? = U (U (.own l)))(a:l.length<1000000):zf (U pv) i ds=U (.next (ds.set i (U (.own (l++[pv.d]))))):=fW pv h a
def K8{gt:a7->DD}{G:DO}{d:a7}{ds ds1 ds2:Ds}(b:gt d ds=U ds1)(a:G ds1=U (.next ds2)):V1 gt G (d::r) ds=V1 gt G r ds2:=by
 rw[V1,b]
 simp_all
theorem comp_map{a:Type}{g f:a->a7}{Fe:DV}{ds:Ds}:∀{l:List a},(∀x∈l,∃pv,Fe (sd (g x)::ds)=U pv/\pv.d=f x)->D4 j8 j6 Fe ds (l.map g)=U (l.map f)
 | [],_=>rfl
 |x::r,h=>by
  obtain⟨pv,e,c⟩:=h x m8;rw[m6];unfold D4;simp only[j8,g8,j6,mR,qf,W0,Z8];rw[e];rw[comp_map (λy b=>h y (m5 _ b))];simp[c]
theorem ints_map{a:Type}(f:a->Int):∀l:List a,intsOf (l.map λx=>.int (f x))=U (l.map f)
 | []=>rfl
 |x::r=>by rw[m6,intsOf,ints_map f r];rfl
section
variable{X:Cx}{fr:Bool}{b o:Expr}{tb:TE}{Fb:DV}{pos p:Pos}
def Zk(i:Nat)(I:PE X o (C7 i))(s:PX X fr b tb Fb)(hs:autoParam (iG b) oB._auto_1):PX X fr (.Subscript o b pos) (mw (zv X.K) (C7 i) tb) (yW i Fb):=⟨AL wj I s.p hs,by
 intro O f w A H D pv Q S c q;unfold yW at c;split at c;rename_i d n;obtain⟨k,z,c⟩:=b5 c;obtain⟨v,r,x⟩:=S.slot i _ n;refine⟨v,r,s.t O f w A H D k _ S z λy m e h=>?_⟩;exact XZ O (S6 fr w) m v y d k.d pv Q (S.grow e).dm (x.same (fS.trans (G6 e))) (h.dt S.dm) c λu E B P=>q u E (e.trans B) (P.back e)
 . rename_i l n;obtain⟨k,z,c⟩:=b5 c;obtain⟨a,M,r,B,L,x⟩:=S.slot i _ n;refine⟨_,r,s.t O f w A H D k _ S z λy m e h=>?_⟩
   have C:=h.dt S.dm;generalize k.d=R at c C;cases C with
   |int j =>
    have g:=c;obtain⟨d,F,g⟩:=b5 g;cases g;obtain⟨v,G,N⟩:=x.R7 F;exact .inl ⟨a,M,j,v,rfl,rfl,D5.of (e _ _ L),G,q v m e (Dt.same (fS.trans (G6 e)) N)⟩
   |_=>exact nE c
 . exact nE c⟩
def ij{x:Str}{u:a9}{v:V}{d:a7}(a:Gl X x)(h:X.mg x=U u/\RelV v u/\∀H,Dt X.K H v d)(hd:autoParam ((x==("__debug__" : Str))=U') a6._auto_1):PX X fr (.Name x pos) (tC v) (fC d) :=
 BA (WG a h.1 h.2.1 hd) h.2.2
end
def fU{mg:Str->Option a9}{x:Str}{b:Array a9}{n:Nat}{d:Array (Option a9)}(f:mg x=U (.ref a))(c:K.lookup a=U ⟨.type "tuple",e,.seq b n,d⟩)(hz:b.size<=1000)(r:Vals vs b.toList)(hd:∀H,m7 K H vs ds):
  mg x=U (.ref a)/\RelV (.ref a) (.ref a)/\∀H,Dt K H (.ref a) (.tuple ds):=⟨f,rfl,λH=>.tup (.inr ⟨_,b,n,c,rfl,rfl,i0 hz (by rw[jt];decide),r⟩) (hd H)⟩
def bK{b:Array a9}{n:Nat}{d:Array (Option a9)}(c:K.lookup a=U ⟨.type "tuple",e,.seq b n,d⟩)(hz:b.size<=1000)(r:Vals vs b.toList)(hd:∀H,m7 K H vs ds)(H:Hp):Dt K H (.ref a) (.tuple ds) :=
 .tup (.inr ⟨_,b,n,c,rfl,rfl,i0 hz (by rw[jt];decide),r⟩) (hd H)
theorem pF:∀{ns:List Int} {us:List a9},Vals (ns.map V.int) us->aZ us ns
 | [],_,.nil=>.nil
 |n::r,_,.cons h t=>by obtain⟨k,rfl⟩:=h;exact .cons n k (pF t)
def IC(K:d2):List V->Hp->VK->Prop:=λxs H Q=>∃(p:Addr) (ns:List Int),xs=[.ref p]/\D5 K H p (ns.map V.int)/\Q (.int ns.sum) H
def NP{X:Cx}(f:X.A.handled=J):bQ X (.builtin "sum") (IC X.K):=by
 intro d s t H z v Q I r h;obtain⟨p,a,rfl,hq,q⟩:=h;obtain⟨u,rfl,g⟩:=vals1 r;cases g;obtain⟨i,n,k,x⟩:=I.list hq;have c:=pF n;obtain⟨j,e⟩:=c.allInts.items;have b:=k.isList;rw[e]at b;have o:j.toList.map (·.1)=a:=by rw[<-nums_intItems,<-e];exact c.numsOf
 refine sum_intListG f b λy w l m=>?_;rw[preSum_eq,Pd i9,o];exact⟨.int a.sum,H,I.kept m,⟨l,rfl⟩,q⟩
def m7.ints{H:Hp}{l:List a7}:∀{xs:List V} {is:List Int},m7 K H xs l->intsOf l=U is->xs=is.map V.int:=by
 induction l with
 |nil=>intro _ _ h e;cases h;cases e;rfl
 |cons d l i =>
  intro _ _ h e;cases h with
  |cons h t =>
  cases h with
  |int =>
   obtain⟨a,b,e⟩:=b5 e;cases e;rw[i t b];rfl
  |_=>exact nE e
def XU:uw K (IC K) Bj:=.one λO m H x k pv Q D g b q=>by
 cases g with
 |lst d h =>
  obtain⟨c,e,b⟩:=b5 b;cases b;cases h.ints e;exact⟨_,c,rfl,l8.seq d,q _ H (d9.refl H) (Dt.int _)⟩
 |_=>exact nE b
section
variable{X:Cx}{bs nb:List Str}{elt tg iter:Expr}{ifs:List Expr}{scope:F8}{cpos pos pos':Pos}{wi:TI}{g:TG}{tt:TT}{te:TE}{Fi:DL}{gt:a7->Option (List a7)}{Fc:DB}{Fe:DV}{i:Nat}{x:Str}
def Lv(A:X.N.Nodup)(b:X.N[i]? = U x)(w:Loc X.env.scope x)(f:X.calm=Uf)(B:hU X bs nb scope)(j:cW X Uf tg iter wi Fi)(e:hC bs.length g)(k:∀cl C fp s H pins,PG (N9 X bs nb scope cl C fp s H pins) tg g)(d:rT X.K bs.length g gt)(m:∀cl C fp s H pins,ko (N9 X bs nb scope cl C fp s H pins) ifs tt Fc)(l:∀cl C fp s H pins,PX (N9 X bs nb scope cl C fp s H pins) Uf elt te Fe)(c:autoParam (Q4 (.ListComp elt [⟨tg,iter,ifs,0⟩] scope cpos) (U (.Name x pos')) pos.line X.env=pure Uf) d3._auto_1)(y:autoParam (X.fn x=Uf\/X.env.scope.names.lookup x=U .local) dG._auto_1)(hs:autoParam (∀x,bO iter X.env x=pure x) U0._auto_1):D9 X (.Assign [.Name x pos'] (.ListComp elt [⟨tg,iter,ifs,0⟩] scope cpos) pos) (gj (eX bs wi g tt te) (V5 i)) (d8 i (j5 Fi gt Fc Fe)) :=
 ⟨yo A b w f B j.p e k (λ_ _ _ _ _ _=>(m _ _ _ _ _ _).p) (λ_ _ _ _ _ _=>(l _ _ _ _ _ _).p) c y hs,by
 intro O a E r H n D o S h q;unfold d8 at h;obtain⟨pv,e1,h⟩:=b5 h;cases h;refine((yn (pos:=cpos) f B j e k d m l hs).t) O a E r H n pv _ S e1 λv F u z=>?_
 exact q _ _ _ ((S.grow u).set i (z.dt S.dm))⟩
def Lu(F:X.N.Nodup)(b:X.N[i]? = U x)(y:Loc X.env.scope x)(f:X.calm=Uf)(B:hU X bs nb scope)(j:cW X Uf tg iter wi Fi)(e:hC bs.length g)(k:∀cl C fp s H pins,PG (N9 X bs nb scope cl C fp s H pins) tg g)(d:rT X.K bs.length g gt)(m:∀cl C fp s H pins,ko (N9 X bs nb scope cl C fp s H pins) ifs tt Fc)(l:∀cl C fp s H pins,PX (N9 X bs nb scope cl C fp s H pins) Uf elt te Fe)(c:autoParam (Q4 (.ListComp elt [⟨tg,iter,ifs,0⟩] scope cpos) (U (.Name x pos')) pos.line X.env=pure Uf) d3._auto_1)(z:autoParam (X.fn x=Uf\/X.env.scope.names.lookup x=U .local) dG._auto_1)(hs:autoParam (∀x,bO iter X.env x=pure x) U0._auto_1):D9 X (.Assign [.Name x pos'] (.ListComp elt [⟨tg,iter,ifs,0⟩] scope cpos) pos) (gj (eX bs wi g tt te) (V5 i)) (I0 i (j5 Fi gt Fc Fe)) :=
 ⟨yo F b y f B j.p e k (λ_ _ _ _ _ _=>(m _ _ _ _ _ _).p) (λ_ _ _ _ _ _=>(l _ _ _ _ _ _).p) c z hs,by
 intro O a G r H n D o S h q;unfold I0 at h;obtain⟨pv,e1,h⟩:=b5 h;cases h;refine((yn (pos:=cpos) f B j e k d m l hs).t) O a G r H n pv _ S e1 λv I w A=>?_
 obtain⟨E,u⟩:=S.store w i A;exact q _ _ _ u⟩
end
end
section
variable{X:Cx}
mutual
def LF:a7->Bool
 | .none=>Uf
 | .bool _=>Uf
 | .int _=>Uf
 | .str _=>Uf
 | .tuple l=>jn l
 | .dict [(.list _,.none)]=>Uf
 |_=>U'
def jn:List a7->Bool
 | []=>Uf
 |d::r=>LF d&&jn r
end
def VP{K:d2}{H H':Hp}{a:Addr}{xs:List V}(e:∀b o,H b=U o->¬Cell o->H' b=U o)(h:O0 K H a xs):O0 K H' a xs:=by
 rcases h with (h|⟨o,h⟩)|h
 exact .inl (.inl (e _ _ h (λz=>by rcases z with ⟨_,z⟩|⟨_,z⟩|⟨_,_,_,z⟩<;>cases z)));exact .inl (.inr ⟨o,e _ _ h (λz=>by rcases z with ⟨_,z⟩|⟨_,z⟩|⟨_,_,_,z⟩<;>cases z)⟩);exact .inr h
mutual
theorem Dt.lf{K:d2}{H H':Hp}(e:∀b o,H b=U o->¬Cell o->H' b=U o){x:V}{d:a7}(h:Dt K H x d)(f:LF d=Uf):Dt K H' x d:=by
 cases h with
 |non=>exact .non
 |bl b=>exact .bl b
 |int i=>exact .int i
 |str y=>exact .str y
 |tup a c=>exact .tup (VP e a) (m7.lf e c (by assumption))
 |lst a c=>exact nT f
 |exc _ _ _ _ _=>exact nT f
 |fn _=>exact nT f
 |ins _ _ _ _=>exact nT f
 |dct _ _ _=>exact nT f
 |key h=>exact .key (e _ _ h (λz=>by rcases z with ⟨_,z⟩|⟨_,z⟩|⟨_,_,_,z⟩<;>cases z))
 |dtt _ _ _ _=>exact nT f
theorem m7.lf{K:d2}{H H':Hp}(e:∀b o,H b=U o->¬Cell o->H' b=U o){xs:List V}{ds:List a7}(h:m7 K H xs ds)(f:jn ds=Uf):m7 K H' xs ds:=by
 cases h with
 |nil=>exact .nil
 |cons a t =>
  rw[jn,pa]at f;exact .cons (Dt.lf e a f.1) (m7.lf e t f.2)
end
def Lj(K:d2):V->List V->Hp->VK->Prop:=λx vs H Q=>∃(p:Addr) (ns:List Int) (k:Int),x=.ref p/\vs=[.int k]/\D5 K H p (ns.map V.int)/\k∈ns/\ns.length<=1000000/\Q (.int (ns.idxOf k:Nat)) H
def SH:NZ X "list.index" (Lj X.K):=by
 intro m s P H x M v O Q I z e h;obtain⟨p,l,k,rfl,rfl,hq,G,N,q⟩:=h;cases z;obtain⟨u,rfl,E⟩:=vals1 e;obtain⟨t,rfl⟩:=E;obtain⟨a,e,D,_⟩:=I.list hq;have c:=pF e;obtain⟨⟨B,A,o,w⟩,i,C,n,L⟩:=id D.isList;subst C L;have b:=c.length;have d:=(List.idxOf_lt_length_iff).2 G;refine js xV ⟨_,i,rfl⟩ Pq (Pw _ _)
  (Pp p a.toArray n A w (.int k t) (isInt k) (l.idxOf k) (by simp_all) b6 ?_ ?_) ⟨i,λy r=>(eq_isInt k t c y (by simpa using r)).at _ _,?_⟩
 show isInt k a[l.idxOf k]=Uf;rw[isInt_at k c _ j1 d];simp;intro j g f;show isInt k a[j]=U';rw[isInt_at k c j (by omega) (lI c6 c6)];exact ne_of_lt_idxOf f _;exact⟨.int _,H,I.tok _,⟨_,rfl⟩,q⟩
noncomputable def Ck:a7->FV
 | .list l,[.int k]=>(intsOf l).bind λns=>if k∈ns/\ns.length<=1000000 then U (.dat (.int (ns.idxOf k:Nat)))else J
 |_,_=>J
noncomputable def tO(f:a7->FV)(Fo:DV)(Fl:DL):DV:=λds=>(Fo ds).bind λo=>(Fl ds).bind λl=>f o.d l
def Rg {fr:Bool} {o e:Expr} {G:TE} {t:TA} {r:DV} {s:DL} {g cpos:Pos} (w:PX X fr o G r) (C:aY X fr [e] t s) (h:autoParam (U3 o "index" X.env (eval o X.env)=eval o X.env) d3._auto_1) (m:autoParam (((p5 cpos (e8 [e] X.env)).all (λx=>!x.1)&&(Z0 cpos (bL [] X.env)).all (λx=>x.1.isSome)
   && decide ([e].length+([]:List T3).length+(if ([]:List T3).isEmpty then 0 else 1)<30))=Uf) d3._auto_1)
  (i:autoParam ((g.endLine==cpos.line)=Uf) d3._auto_1) (hs:autoParam (e8 [e] X.env=(U',eval e X.env)::e8 [] X.env) d3._auto_1) (c:autoParam ((p5 cpos (e8 [] X.env)).any (·.1)=U') d3._auto_1) :
  PX X fr (.Call (.Attribute o "index" g) [e] [] cpos) (GA X.K "list" (Lj X.K) G t) (tO Ck r s) :=
 ⟨vT px xV Pk SH w.p C.p h m i hs c,by
 intro O f D A H n pv Q S b q;unfold tO at b;cases h1:r n with
 |none=>rw[h1]at b;exact nE b
 |some x =>
  cases h2:s n with
  |none=>rw[h1,h2]at b;exact nE b
  |some l =>
   rw[h1,h2]at b;simp only[g8]at b;refine w.t O f D A H n x _ S h1 λv W u V=>?_;have B:=V.dt S.dm;generalize x.d=Z at b B;unfold Ck at b;split at b
   . rename_i P k;cases B with
     |lst j N =>
      rename_i a xs;obtain⟨M,h3,b⟩:=b5 b;obtain⟨E,b⟩:=v8 b;cases b;have R:=N.ints h3;subst R;refine⟨.inl ⟨rfl,_,l8.seq j⟩,?_⟩;refine C.t O f D A W n _ _ (S.grow u) h2 λY T z L=>?_;obtain⟨y,rfl,I⟩:=L.inv1;cases I;exact⟨a,M,k,rfl,rfl,z.seq (l8.seq j),E.1,E.2,q _ T (u.trans z) (Dt.int _)⟩
   . exact nE b⟩
end
section
variable{X:Cx}{pins:List (Addr×Obj)}{σ:St}{H:Hp}{s:b9}
end
section
variable{X:Cx}{pins:List (Addr×Obj)}{σ:St}{H:Hp}{s:b9}{h':Heap}
end
section
variable{prog:n9}{w:k7}{A:t6}{E:a9->b9->Prop}{s:b9}
end
section
variable{es:List Expr}{k:Nat}{tp:Pos}
def Fn(b:Bool)(l:Addr)(xs:Array a9):
  Meets (Builtin.«enumerate.__new__» ⟨[.type "enumerate",.ref l],[]⟩) (λ_ R s=>iF b s.heap l xs /\
   R (.ok (.ret (.ref (s.heap.push (oi b l)).objs.size))) {s with heap:=(s.heap.push (oi b l)).push {cls:=.type "enumerate",data:=.fields #[.none,.bool U',.ref (hz s),G9 0,.none,.none]}}) :=
 .of_wp λe w A R s h=>by
  obtain⟨j,g,d,i,m⟩:=s;obtain⟨f,h⟩:=h;have:=sub_enumerate;have a:=f
  wp_walk using tH a
  refine wpAny_stack_any λk=>i5 ?_;split
  . rename_i c _ _ _ _ _;cases(c==xi "enumerate")
    . wp_walk using tH a
      exact⟨_,rfl,h⟩
    . wp_walk using tH a
      exact⟨_,rfl,h⟩
  . wp_walk using tH a
    exact⟨_,rfl,h⟩
section
variable{prog:n9}{w:k7}{A:t6}{E:a9->b9->Prop}{s:b9}
def JU{a:Bool}{l:Addr}{xs:Array a9}{Q:a9->b9->Prop}(f:iF a s.heap l xs)(h:∀h',IsEnum h' (s.heap.objs.size+1) s.heap.objs.size 0 .none->jX a h' s.heap.objs.size l 0->(∀b o,s.heap.get? b=U o->h'.get? b=U o)->Q (.ref (s.heap.objs.size+1)) {s with heap:=h'}):
  wpAny (model prog w) A (call (.type "enumerate") [.ref l]) Q E s:=by
 refine callType_new F.called_enumerate a6 (F.typeCall_enumerate_1 _) (F.newCall_enumerate_1 _) (λobj=>F.args_object_init_2 obj _) F.entry_enumerate_new (Fn a l xs) ⟨f,?_⟩
 have d:(s.heap.push (oi a l)).objs.size=s.heap.objs.size+1:=fh ..;have e:(oi a l).isFreed=U':=by cases a<;>rfl
 rw[d];have c:IsEnum ((s.heap.push (oi a l)).push {cls:=.type "enumerate",data:=.fields #[.none,.bool U',.ref s.heap.objs.size,G9 0,.none,.none]}) (s.heap.objs.size+1) s.heap.objs.size 0 .none:=by have:=J4 (s.heap.push (oi a l)) (o:={cls:=.type "enumerate",data:=.fields #[.none,.bool U',.ref s.heap.objs.size,G9 0,.none,.none]}) rfl;rw[d]at this;exact this
 exact⟨⟨_,c,rfl⟩,h _ c (.new (s9 _ (J4 _ e))) λb o x=>s9 _ (s9 _ x)⟩
end
def a0K{prog:n9}{w:k7}{A:t6}{f:Bool}(m:A.handled=J)(it l:Addr)(c:l≠it)(xs:Array a9):
  Draws prog w A it [it,l] xs.size (λi v=>xs[i]? = U v) (λi h=>qI f h it l i xs) where
 live:=λi h a=>by
  cases f;exact(Draws.list (prog:=prog) (w:=w) m it l c xs).live i h a;obtain⟨o,y,_⟩:=(show h.IsTupleIter it l i/\h.IsTuple l xs from a).1;exact⟨o,y⟩
 frame:=λi h j a u=>a.kept λb o q e=>u b (by rcases q with rfl|rfl<;>simp) o e
 item:=λi s Q E k a p=>by
  refine ki a c (x:=xs[i]) (by simp[k]) λj d n=>?_;refine p _ j s.toks (by simp[k]) ?_ n;have k2:=λo e=>n.extBut l o c e;cases f;obtain⟨_,o,g,r⟩:=(show s.heap.IsListIter it l i/\s.heap.IsList l xs from a);exact⟨d,o,k2 o g,r⟩;obtain⟨_,o,g,r⟩:=(show s.heap.IsTupleIter it l i/\s.heap.IsTuple l xs from a);exact⟨d,o,k2 o g,r⟩
 done:=λs Q E a t=>mH m a i9 t
def Ite(kd:Bool)(K:d2)(a:Addr):It :=
 ⟨λi H=>∃xs x,dW kd K H a xs/\xs[i]? = U x,
  λi H v H'=>∃p,v=.ref p/\H p=J/\∃x,H'=upd H p (.tup [.int i,x])/\∀xs,dW kd K H a xs->xs[i]? = U x,
  λi H=>∃xs,dW kd K H a xs/\xs.length<=i⟩
def Ky{P:n9}{w:k7}{K:d2}{pos:Pos}{O:Bool}{e it a:Addr}(t:e≠it):
  Turn P w K (.Tuple es k pos) (Ite O K a) [e,it] e (λi h=>(∃d,IsEnum h e it i d)/\jX O h it a i) where
 mem:=o8
 obj:=λi h g c b=>by
  have j:c=e\/c=it:=by simpa using b
  rcases j with rfl|rfl
  obtain⟨d,q⟩:=g.1;exact⟨_,q,λv z=>by cases z⟩;exact g.2.obj
 keep:=λi h m g kk=>by obtain⟨d,q⟩:=g.1;exact⟨⟨d,kk e o8 _ q⟩,g.2.at λo z=>kk it o8 o z⟩
 item:=by
  intro X G hw hK b i f s S H E I B g hg;subst G hw hK;obtain⟨xs,x,C,ex⟩:=hg;obtain⟨l,Z,ox⟩:=I.GG C g.2;obtain⟨u,hu,ru⟩:=Z.get ex;obtain⟨d,M⟩:=g.1;have L:=B e o8;have r:i<l.toArray.size:=by
   have:i<l.length:=by
    by_cases c:i<l.length;exact c;rw[ku (lO c6)]at hu;exact nE hu
   omega
  have V:X.A.in1.handled=J:=I.ok.hd b;have D:Draws X.prog X.w X.A.in1 it [it,a] l.toArray.size (λi v=>l.toArray[i]? = U v) (λi h=>qI O h it a i l.toArray):=a0K V it a (C.x.ne I (B it o8)) l.toArray;refine wpAny_pyNext_enum_itemD D M ox r t (by simp;exact⟨t,(C.x.ne I L).symm⟩) λx' m N G ho R Y hsz hk=>?_
  have ux:x'=u:=by
   have:l.toArray[i]? = U u:=by simpa using hu
   rw[this]at G;cases G;rfl
  subst ux;have Q:=I.x5.fresh o6;have I1:Inv X f S H {s with heap:=m,toks:=N+1}:=I.sV (ch:=[e,it]) (λc o b z=>hk c o (λq=>b (by simp[q])) (λq=>b (by simp[q])) z) (λc b=>B c (by omega))
  have I2:Inv X f S (upd H (hz s) (.tup [.int i,x])) {s with heap:=m,toks:=N+1}:=I1.Ir Q (bX I.lt) (.inr I.sz)
   (λn c z q=>by obtain⟨vv,q2⟩:=I.cell n c z;exact absurd q2.lt (by rw[q];exact S5 _))
   (λp hp q=>absurd (q5 (I.pin p hp).1) (by rw[q];exact S5 _))
   ⟨by show 2<=p8;rw[jt];decide,[.int i N,x'],.cons ⟨_,rfl⟩ (.cons ru .nil),⟨_,Y,rfl,_,rfl⟩⟩
  refine⟨_,rfl,wpAny_letOwnedTupleGo_enum ho λh2 z2 b2=>?_⟩
  have uz:∀c,c∈[e,it]->(upd H (hz s) (.tup [.int i,x])) c=J:=λc b=>by
   have r:c<(hz s):=by
    have j:c=e\/c=it:=by simpa using b
    rcases j with rfl|rfl
    exact(q5 M);obtain⟨o,z,_⟩:=g.2.obj;exact q5 z
   rw[w9 (E9 r)];exact(B c b).1
  have I3:Inv X f S (upd H (hz s) (.tup [.int i,x])) {s with heap:=h2,toks:=N+1}:=Inv.turned (s:={s with heap:=m,toks:=N+1}) I2 (λc o b z=>b2.extBut c o b z) (uz e o8) L.2.1 L.2.2.2.1 L.2.2.2.2.1 L.2.2.2.2.2;refine⟨.ref (hz s),_,I3,rfl,⟨_,rfl,Q,x,rfl,λxs' y=>?_⟩,⟨⟨_,z2⟩,?_⟩,uz⟩;rw[y.inj I C];exact ex
  . have it':jX O m it a (i+1):=by
      cases O;exact(show m.IsListIter it a (i+1)/\_ from R).1;exact(show m.IsTupleIter it a (i+1)/\_ from R).1
    exact it'.at λo q=>b2.extBut _ _ t.symm q
 done:=by
  intro X G hw hK b i f s S H E I B g hg;subst G hw hK;obtain⟨xs,C,hend⟩:=hg;obtain⟨l,Z,ox⟩:=I.GG C g.2;obtain⟨d,M⟩:=g.1;have:=Z.length;have Q:s.TypeIs (.ref e) "enumerate":=⟨_,M,rfl⟩;refine c5 (gR (gI Q OZ (dN OZ Q F.entry_enumerate_next ?_ (F.args_enumerate_next_1 _))));show wpAny _ _ (field (.ref e) 2 >>= _) _ _ _;refine c5 (F7 M rfl rfl ?_);refine c5 (mH (I.ok.hd b) ox (by simp;simp_all) λm x T y=>?_)
  obtain⟨o,ho,j⟩:=y;refine c5 (oZ ⟨o,ho,j⟩ xy ?_);refine i5 ⟨rfl,?_⟩;exact I.sV (ch:=[it]) (λc o b z=>T c o (λq=>b (by simp[q])) z) (λc b=>B c (by
   have:c=it:=by simpa using b
   simp[this]))
 self:=λ_ _ _ _ _ g h=>by obtain⟨d,q⟩:=g.1;exact wpAny_pyIter_enum q h
section
variable{X:Cx}{fr:Bool}{a:Expr}{ta:TA}{Fl:DL}{p pos:Pos}
def Nr(K:d2)(ta:TA):TI:=λσ H R=>ta σ H λvs H1=>∃a kd,vs=[.ref a]/\(∃xs,dW kd K H1 a xs)/\R (Ite kd K a) H1
def boot_enumerate:cC "enumerate" = U (.type "enumerate"):=by decide +kernel
def RP(F:Gl X "enumerate")(o:X.mg "enumerate" = J)(v:PA X [a] ta)(hs:autoParam (e8 [a] X.env=[(U',eval a X.env)]) d3._auto_1):
  PI X (.Tuple es k tp) (.Call (.Name "enumerate" p) [a] [] pos) (Nr X.K ta):=by
 intro c s m H R I h;refine Call_ (cP I F o boot_enumerate (iN (t9 (v pos c s m H _ I h) λz d ⟨G,l,g,w,n⟩=>?_) (by rw[hs];rfl) (by rfl)));obtain⟨x,L,e,⟨M,t⟩,q⟩:=n;subst e;obtain⟨u,e,y⟩:=vals1 w;subst e;cases y;obtain⟨z,D⟩:=g.aD t;refine JU D λA j B C=>?_;refine wpAny_pyIter_enum j ?_;have E:Inv X c m l {d with heap:=A}:=g.kept C;refine⟨(hz d)+1,_,_,_,l,rfl,E,Ky (by show @Ne Nat _ _;simp[*]),⟨⟨_,j⟩,B⟩,λb r=>?_,q⟩
 have i:b=(hz d)+1\/b=(hz d):=by simpa using r
 have f:(hz d)<=b:=by
  rcases i with e|e<;>rw[e]
  exact U5 _ _;exact Z6 _
 exact g.yU f (g.x5.fresh f)
theorem qa:∀(l:List a7) (k:Int) (i:Nat),(O8 k l)[i]? = (l[i]?).map λd=>.tuple [.int (k+(i:Nat)),d]
 | [],k,i=>by rfl
 |d::r,k,0=>by simp[O8]
 |d::r,k,i+1=>by have:=qa r (k+1) i;simp only[O8,me];rw[this,show k+1+i=k+((i+1:Nat)) by lia]
theorem pZ:∀(l:List a7) (k:Int),(O8 k l).length=l.length
 | [],k=>rfl
 |d::r,k=>by rw[O8,W2,pZ r,W2]
def RL(Y:Gl X "enumerate")(E:X.mg "enumerate" = J)(m:aY X fr [a] ta Fl)(hs:autoParam (e8 [a] X.env=[(U',eval a X.env)]) d3._auto_1):
  cW X fr (.Tuple es k tp) (.Call (.Name "enumerate" p) [a] [] pos) (Nr X.K ta) (t2 aR Fl):=⟨RP Y E m.p hs,by
 intro O e W G H v h R S b q;unfold t2 at b;obtain⟨l,h1,b⟩:=b5 b;refine m.t O e W G H v l _ S h1 λvs D w N=>?_;unfold aR at b;split at b
 . rename_i C;obtain⟨Z,hl,b⟩:=b5 b;cases b;cases N with
   |cons r P =>
    cases P;obtain⟨a,B,f,rfl,n,u⟩:=r.aD hl;refine⟨a,B,rfl,⟨f,l8.aD n⟩,q _ D w λH' g i=>?_⟩;have c:=g.aD (tK.aD n);have:=u.length;rw[pZ];refine⟨λs=>⟨f,f[i]'b6,c,y4 _⟩,λs=>⟨f,c,by simp[*]⟩,λx V y s=>?_⟩;obtain⟨pp,Q,d,x',T,F⟩:=y;subst Q;subst T;obtain⟨A,L,I⟩:=u.get' (F f c);refine⟨d9.new d,.tuple [.int i,A],by rw[qa,L];simp,λvb j M=>?_⟩;refine .tup (O0.of (p6.mpr ⟨λz=>?_,λz=>?_,E1⟩)) (.cons (.int _) (.cons (oh I g (d9.new d) j) .nil));obtain⟨o,z⟩:=M _ z;rw[g _ _ z]at d;exact nS d;obtain⟨_,o,z⟩:=j _ z;rw[z]at d;exact nS d
 . exact nE b⟩
end
end
section
variable{K:d2}{H i7 H':Hp}
noncomputable def K7(f:Str):List a7->List a7->Option a7
 | .str n::ns,d::l=>if n=f then U d else K7 f ns l
 |_,_=>J
noncomputable def tI(nm:Str):a7->Option (List a7×List a7)
 | .dict [(.tuple [.str n,.list ns],.tuple l)]=>if n=nm then U (ns,l)else J
 |_=>J
def Nl(a:Str)(ns:List Str)(l:List a7):tI a (yM a ns l)=U (ns.map .str,l):=by
 show(if a=a then U (ns.map PyData.str,l)else J)=_;simp
def zJ{v:V}{c:Str}{d:a7}{ns l:List a7}(h:Dt K H v d)(e:tI c d=U (ns,l)):
  ∃a C g fv ms vs,v=.ref a/\bM K L0 c=U (U (.ref C))/\H a=U (.ins C g fv)/\fv=List.zip ms vs/\ns=ms.map .str/\m7 K H vs l:=by
 cases h with
 |ins k m i t =>
  rename_i a C g fv b ms vs j;have f:(if b=c then U (ms.map PyData.str,j)else J)=U (ns,l):=e;obtain⟨n,f⟩:=v8 f;cases f;subst n;exact⟨a,C,g,fv,ms,vs,rfl,k,m,i,rfl,t⟩
 |_=>exact nE e
def zE{f:Str}{ms:List Str}{vs:List V}{l:List a7}(h:m7 K H vs l):(K7 f (ms.map .str) l=J/\(List.zip ms vs).lookup f=J)\/∃d u,K7 f (ms.map .str) l=U d/\(List.zip ms vs).lookup f=U u/\Dt K H u d:=by
 induction ms generalizing vs l with
 |nil=>exact .inl ⟨rfl,rfl⟩
 |cons m ms i=>cases h with
  |nil=>exact .inl ⟨rfl,rfl⟩
  | @cons v vs d l h t =>
   rw[show K7 f ((m::ms).map .str) (d::l)=if m=f then U d else K7 f (ms.map .str) l from rfl,iM,lN];by_cases c:m=f;subst c;rw[b3 rfl];exact .inr ⟨d,v,rfl,by simp,h⟩
   . have a:(f==m)=U':=by simpa using λz=>c z.symm
     rw[b0 c,a];exact i t
structure bz(K:d2)(nm:Str)(C:Addr):Prop where
 ns:bM K L0 nm=U (U (.ref C))
 cl:sT K C
def bz.eq{b:Str}{C a:Addr}(T:bz K b C)(h:bM K L0 b=U (U (.ref a))):a=C:=by
 rw[T.ns]at h;lia
def O6(nm f:Str)(d:a7):Option a7:=(tI nm d).bind λp=>K7 f p.1 p.2
noncomputable def t5(nm f:Str)(F:DV):DV:=λds=>(F ds).bind λpv=>(O6 nm f pv.d).bind λd=>U (.dat d)
section
variable{X:Cx}{fr:Bool}{o e:Expr}{es:List Expr}{to te:TE}{t:TA}{F Fo:DV}{Fl:DL}{nm f:Str}{C:Addr}{pos apos:Pos}
def Wd(T:bz X.K nm C)(n:T1 X.K C f)(h:PX X fr o to F)(z:autoParam (U3 o f X.env (eval o X.env)=eval o X.env) d3._auto_1):PX X fr (.Attribute o f pos) (pI X.K to f) (t5 nm f F):=⟨ri h.p z,by
 intro O e D A H B pv Q S c q;obtain⟨p,x,c⟩:=b5 c;obtain⟨d,y,c⟩:=b5 c;cases c;obtain⟨⟨Y,l⟩,k,i⟩:=b5 y;refine h.t O e D A H B p _ S x λv r w N=>?_
 obtain⟨a,s,M,P,V,R,rfl,E,I,rfl,rfl,G⟩:=zJ (N.dt S.dm) k;have m:=T.eq E;subst m;rcases zE G with ⟨g,j⟩|⟨W,u,g,j,L⟩
 have b:=i;rw[g]at b;exact nE b
 . have b:=i;rw[g]at b;cases b;exact⟨a,s,M,_,u,rfl,l8 _ _ I,T.cl,n,j,q u r w L⟩⟩
noncomputable def J8(nm m:Str)(f:FV)(Fo:DV)(Fl:DL):DV:=λds=>(Fo ds).bind λpv=>(tI nm pv.d).bind λp=>match K7 m p.1 p.2 with
 |none=>(Fl ds).bind λl=>f (pv.d::l)
 |some _=>J
def Gy{m:Str}{E:XK}{f:FV}(T:bz X.K nm C)(ho:PX X fr o to Fo)(h:aY X fr es t Fl):TX X.K fr (kb C m (t7 X.K f) [] E to t) (J8 nm m f Fo Fl):=by
 intro O k i V H W pv Q S j q;obtain⟨p,h1,j⟩:=b5 j;obtain⟨⟨ns,l0⟩,Y,j⟩:=b5 j;refine ho.t O k i V H W p _ S h1 λv H1 B r1=>?_
 have M:=r1.dt S.dm;obtain⟨a,C',dx,fv,ms,vs0,rfl,c1,c2,rfl,rfl,c3⟩:=zJ M Y;have Z:=T.eq c1;subst Z;rcases zE c3 with ⟨I,N⟩|⟨d',u,I,N,z3⟩
 . have g:=j;rw[I]at g;obtain⟨l,h4,j⟩:=b5 g;refine⟨a,dx,_,rfl,l8 _ _ c2,N,?_⟩;refine h.t O k i V H1 W l _ (S.grow B) h4 λvs H2 A r2=>?_;have D:=((S.grow B).grow A).dm (fr:=fr);rw[Z9];have L:∀H,j9 H (S6 fr i) O=j9 H [] (O++(S6 fr i).filterMap id):=λH=>oq (bs:=[]);refine⟨O++(S6 fr i).filterMap id,p.d::l,pv,λb r=>?_,by rw[<-L];exact .cons (M.same (G6 A)) r2,j,λv P z n=>q v P ((B.trans A).trans z) ?_⟩
   . rcases List.mem_append.mp r with r|r
     exact D.o b r;obtain⟨x,hx,e⟩:=List.mem_filterMap.mp r;subst e;exact D.a b hx
   . have s:=B.trans A;cases pv with
     |dat d =>
      have y:Dt X.K (j9 P [] (O++(S6 fr i).filterMap id)) v d:=n;rw[<-L]at y;exact y
     |own l =>
      obtain⟨b,xs,z,G,F,n⟩:=n;refine⟨b,xs,z,s.free G,F,?_⟩;rw[show(U b::S6 fr i)=[U b]++S6 fr i from rfl,oq];exact n
     |ob w c =>
      obtain⟨o,R,z,G,F,n⟩:=n;refine⟨o,R,z,G,λb r=>s.free (F b r),?_⟩;rw[oq];rw[Z9]at n;exact n
 have g:=j;rw[I]at g;exact nE g
noncomputable def R3(F:DV):DV:=λds=>(F ds).bind λpv=>match pv with
 | .dat d=>if LF d=Uf then U (.dat d)else J
 | .own l=>if jn l=Uf then U (.own l)else J
 | .ob _ _=>J
def DS.Yl{O:List Addr}{as bs cs:As}{g:St}{ds:Ds}(S:DS K O i7 as g H ds)(e:d9 H H')(l:∀b,U b∈cs->U b∈bs\/U b∈as)(a:Addr)(u:HO)(h:j9 H' bs O a=U u)(k:¬Cell u):j9 H' cs O a=U u:=by
 obtain⟨f,j,d⟩:=p6.mp h;refine p6.mpr ⟨f,λz=>?_,d⟩
 rcases l a z with z|z
 exact j z;obtain⟨_,c,i⟩:=S.new a z;have:=e _ _ i;grind
def Zm(h:PX X U' e te F):PX X fr e te (R3 F):=⟨h.p,by
 intro O g s n H o pv Q S f q;obtain⟨p,u,f⟩:=b5 f;cases p with
 |dat d =>
  simp only at f;obtain⟨k,f⟩:=v8 f;cases f;refine h.t O g s n H o _ _ S u λv j i m=>q v j i ?_;exact Dt.lf (S.Yl i λb z=>.inr (nK z)) m k
 |own l =>
  simp only at f;obtain⟨k,f⟩:=v8 f;cases f;refine h.t O g s n H o _ _ S u λv j i m=>q v j i ?_;obtain⟨a,y,x,A,B,r⟩:=m;refine⟨a,y,x,A,B,m7.lf (S.Yl i λb z=>?_) r k⟩
  rcases List.mem_cons.mp z with z|z
  exact .inl (by rw[z];exact m8);exact .inr (nK z)
 |ob w c=>exact nE f⟩
end
end
noncomputable def E5(f:Str)(p:PF):List (Str×PF)->List (Str×PF)
 | []=>[(f,p)]
 |(g,x)::r=>if g=f then(g,p)::r else(g,x)::E5 f p r
def m9(f:Str):List (Str×PF)->Option PF
 | []=>J
 |(g,x)::r=>if g=f then U x else m9 f r
inductive sS(K:d2)(Hv H:Hp):V->PF->List Addr->Prop
 |dat {x d}:Dt K Hv x d->sS K Hv H x (.dat d) []
 |own {a xs l}:H a=U (.lst xs)->m7 K Hv xs l->sS K Hv H (.ref a) (.own l) [a]
 |dct {a kvs es}:H a=U (.dK kvs)->EI K Hv kvs es->sS K Hv H (.ref a) (.dct es) [a]
section
variable{K:d2}{Hv Hv' H H':Hp}{v:Addr}{R Rf:List Addr}{c:OD}{fv:List (Str×V)}{fs:List (Str×PF)}{f:Str}{y:V}{p:PF}
def F9.cons{n:Str}(h:sS K Hv H y p Rf)(d:∀b∈Rf,b∉R)(t:F9 K Hv H fv fs R):F9 K Hv H ((n,y)::fv) ((n,p)::fs) (Rf++R):=by
 cases h with
 |dat h=>exact .dat h t
 |own c a=>exact .own c a (d _ m8) t
 |dct c a=>exact .dct c a (d _ m8) t
def F9.put(t:F9 K Hv H k fs R)(h:sS K Hv H y p Rf)(d:∀b∈Rf,b∉R):∃R',F9 K Hv H (aE f y k) (E5 f p fs) R'/\∀b∈R',b∈Rf\/b∈R:=by
 induction t with
 |nil =>
  refine⟨Rf++[],F9.cons h (λb _=>by simp) .nil,λb e=>.inl (by simpa using e)⟩
 | @dat n x v k fs R s t j =>
  obtain⟨R',i,g⟩:=j d;rw[aE,E5];by_cases c:n=f;rw[b3 c,b3 c];exact⟨Rf++R,F9.cons h d t,λb e=>List.mem_append.mp e⟩;rw[b0 c,b0 c];exact⟨R',.dat s i,g⟩
 | @own n a u l k fs R o m q t j =>
  obtain⟨R',i,g⟩:=j λb e z=>d b e (m5 _ z);rw[aE,E5];by_cases c:n=f;rw[b3 c,b3 c];exact⟨Rf++R,F9.cons h (λb e z=>d b e (m5 _ z)) t,λb e=>(List.mem_append.mp e).imp id (m5 _)⟩
  . rw[b0 c,b0 c];refine⟨a::R',.own o m (λz=>?_) i,λb e=>?_⟩
    . rcases g a z with z|z
      exact d a z m8;exact q z
    . rcases List.mem_cons.mp e with rfl|e
      exact .inr m8;exact(g b e).imp id (m5 _)
 | @dct n a r w k fs R o m q t j =>
  obtain⟨R',i,g⟩:=j λb e z=>d b e (m5 _ z);rw[aE,E5];by_cases c:n=f;rw[b3 c,b3 c];exact⟨Rf++R,F9.cons h (λb e z=>d b e (m5 _ z)) t,λb e=>(List.mem_append.mp e).imp id (m5 _)⟩
  . rw[b0 c,b0 c];refine⟨a::R',.dct o m (λz=>?_) i,λb e=>?_⟩
    . rcases g a z with z|z
      exact d a z m8;exact q z
    . rcases List.mem_cons.mp e with rfl|e
      exact .inr m8;exact(g b e).imp id (m5 _)
def fQ{n:Str}{x:V}:cZ f ((n,x)::fv)=if n=f then U x else cZ f fv:=by
 rw[lN];by_cases c:n=f;subst c;simp
 . have a:(f==n)=U':=by simpa using λz=>c z.symm
   rw[a,b0 c]
def F9.a0b(t:F9 K Hv H fv fs R)(h:m9 f fs=J):fv.lookup f=J:=by
 induction t with
 |nil=>rfl
 | dat hd t ih => rw [m9] at h; rw [fQ]; split at h; · exact nS h
                  rename_i c;rw[b0 c];exact ih h
 | own h1 h2 h3 t ih => rw [m9] at h; rw [fQ]; split at h; · exact nS h
                        rename_i c;rw[b0 c];exact ih h
 | dct h1 h2 h3 t ih => rw [m9] at h; rw [fQ]; split at h; · exact nS h
                        rename_i c;rw[b0 c];exact ih h
def F9.look(t:F9 K Hv H w fs R)(h:m9 f fs=U p):∃x Rf,w.lookup f=U x/\sS K Hv H x p Rf/\(∀b∈Rf,b∈R) /\
  ∀{Hv' H':Hp} {m:PF},d9 Hv Hv'->(∀b∈R,b∉Rf->∀o,H b=U o->H' b=U o)->sS K Hv' H' x m Rf->F9 K Hv' H' w (E5 f m fs) R:=by
 induction t with
 |nil=>exact nE h
 | @dat n x d w fs R C t s =>
  rw[m9]at h;rw[fQ];by_cases c:n=f;rw[b3 c]at h ⊢;cases h;refine⟨x,[],rfl,.dat C,λb g=>absurd g i9,λ{Hv' H' m} e i k=>?_⟩;rw[E5,b3 c];exact F9.cons k (λb g=>absurd g i9) (t.same e λb g=>i b g i9);rw[b0 c]at h ⊢;obtain⟨y,Rf,A,u,q,r⟩:=s h;refine⟨y,Rf,A,u,q,λ{Hv' H' m} e i k=>?_⟩;rw[E5,b0 c];exact .dat (C.same e) (r e i k)
 | @own n a F l w fs R B v j t s =>
  rw[m9]at h;rw[fQ];by_cases c:n=f;rw[b3 c]at h ⊢;cases h;refine⟨_,[a],rfl,.own B v,λb g=>by rw[mem_singleton.mp g];exact m8,λ{Hv' H' m} e i k=>?_⟩;rw[E5,b3 c];refine F9.cons k (λb g=>by rw[mem_singleton.mp g];exact j) (t.same e λb g=>i b (m5 _ g) λz=>?_);rw[mem_singleton.mp z]at g;exact j g;rw[b0 c]at h ⊢;obtain⟨y,Rf,A,u,q,r⟩:=s h;refine⟨y,Rf,A,u,λb g=>m5 _ (q b g),λ{Hv' H' m} e i k=>?_⟩;rw[E5,b0 c];exact .own (i a m8 (λz=>j (q a z)) _ B) (v.same e) j (r e (λb g=>i b (m5 _ g)) k)
 | @dct n a D E w fs R B v j t s =>
  rw[m9]at h;rw[fQ];by_cases c:n=f;rw[b3 c]at h ⊢;cases h;refine⟨_,[a],rfl,.dct B v,λb g=>by rw[mem_singleton.mp g];exact m8,λ{Hv' H' m} e i k=>?_⟩;rw[E5,b3 c];refine F9.cons k (λb g=>by rw[mem_singleton.mp g];exact j) (t.same e λb g=>i b (m5 _ g) λz=>?_);rw[mem_singleton.mp z]at g;exact j g;rw[b0 c]at h ⊢;obtain⟨y,Rf,A,u,q,r⟩:=s h;refine⟨y,Rf,A,u,λb g=>m5 _ (q b g),λ{Hv' H' m} e i k=>?_⟩;rw[E5,b0 c];exact .dct (i a m8 (λz=>j (q a z)) _ B) (v.same e) j (r e (λb g=>i b (m5 _ g)) k)
end
noncomputable def eh(nm:Str)(i:Nat)(ds:Ds):Option (Option Addr×List (Str×PF)):=match ds[i]? with
 |some (U (.ob w (.ins n fs)))=>if n=nm then U (w,fs)else J
 |_=>J
def aF{a:Str}{i:Nat}{ds:Ds}{w:Option Addr}{fs:List (Str×PF)}(h:eh a i ds=U (w,fs)):ds[i]? = U (U (.ob w (.ins a fs))):=by
 unfold eh at h;split at h
 . simp_all
 exact nE h
def CK:PF->Option a7
 | .dat d=>U d
 |_=>J
def rk:PF->Option (List a7)
 | .own l=>U l
 |_=>J
def TF{p:PF}{d:a7}(h:CK p=U d):p=.dat d:=by cases p<;>cases h;rfl
def uS{p:PF}{d:List a7}(h:rk p=U d):p=.own d:=by cases p<;>cases h;rfl
noncomputable def D3(nm:Str)(i:Nat)(f:Str):DV:=λds=>(eh nm i ds).bind λx=>(m9 f x.2).bind λp=>(CK p).bind λd=>U (.dat d)
noncomputable def gD(nm:Str)(i:Nat)(f:Str)(Fb:DV):DV:=λds=>(eh nm i ds).bind λx=>(m9 f x.2).bind λp=>(rk p).bind λl=>(Fb ds).bind λk=>l7 (.list l) k.d
section
variable{X:Cx}{fr:Bool}{i:Nat}{o e b:Expr}{te tb:TE}{F Fb:DV}{nm f:Str}{C:Addr}{pos pos' apos cpos:Pos}
def VZ(T:bz X.K nm C)(n:T1 X.K C f)(h:PE X o (C7 i))(A:autoParam (U3 o f X.env (eval o X.env)=eval o X.env) d3._auto_1):PX X fr (.Attribute o f pos) (pI X.K (C7 i) f) (D3 nm i f):=⟨ri h A,by
 intro O c D I H F pv Q S a q;obtain⟨⟨w,fs⟩,s,a⟩:=b5 a;obtain⟨p,l,a⟩:=b5 a;obtain⟨d,t,a⟩:=b5 a;cases a;have z:=TF t;subst z;obtain⟨v,R,k,_,_,u,j,m,E,rfl,e,r,g⟩:=S.slot i _ (aF s);have B:=T.eq e;subst B;obtain⟨x,G,y,b,_⟩:=g.look l;cases b with
 |dat b=>exact⟨_,k,v,u,j,m,x,rfl,r,T.cl,n,y,q x H (d9.refl H) (b.same fS)⟩⟩
def Zg(T:bz X.K nm C)(n:T1 X.K C f)(h:PE X o (C7 i))(A:PX X fr b tb Fb)(s:autoParam (U3 o f X.env (eval o X.env)=eval o X.env) d3._auto_1)(hs:autoParam (iG b) oB._auto_1):PX X fr (.Subscript (.Attribute o f apos) b pos) (mw (zv X.K) (pI X.K (C7 i) f) tb) (gD nm i f Fb):=⟨AL wj (ri h s) A.p hs,by
 intro O g I σ H Y pv Q S e q;obtain⟨⟨w,fs⟩,h1,e⟩:=b5 e;obtain⟨p,V,e⟩:=b5 e;obtain⟨l,u,e⟩:=b5 e;obtain⟨k,m,r⟩:=b5 e;have e3:=uS u;subst e3;obtain⟨v,R,L,_,hR,C',G,W,R',rfl,E,c2,F⟩:=S.slot i _ (aF h1);have ec:=T.eq E;subst ec;obtain⟨x,Rf,l1,l2,l3,l4⟩:=F.look V;cases l2 with
 |own P D =>
  rename_i a Z;refine⟨_,L,v,C',G,W,_,rfl,c2,T.cl,n,l1,A.t O g I σ H Y k _ S m λy N z M=>?_⟩
  have B:=M.dt S.dm;generalize k.d=kk at r B;cases B with
  |int j =>
   have c:((L2.R7 l j).bind λd=>U (PV.dat d))=U pv:=r;obtain⟨d,h5,c⟩:=b5 c;cases c;obtain⟨v,u,m⟩:=D.R7 h5;exact .inl ⟨a,Z,j,v,rfl,rfl,D5.of (z _ _ P),u,q v N z (Dt.same (fS.trans (G6 z)) m)⟩
  |_=>exact nE r⟩
end
section
variable{K:d2}{O:List Addr}{i7 H H1:Hp}{as:As}{σ:St}{ds:Ds}
def DS.adopt(S:DS K O i7 as σ H ds)(m:d9 H H1)(i:Nat){R:List Addr}(r:∀b∈R,H b=J)(x:∀b∈R,∃u:Cl,H1 b=U u.1):
  DS K O i7 (R.map U++as) σ H1 ds/\∀c:Nat->List Addr,(∀i b,b∈c i->U b∈as)->(∀i j b,b∈c i->b∈c j->i=j)->(∀(i:Nat) (pv:PV),ds[i]? = U (U pv)->av K O as H σ[i]? (c i) pv) ->
   ∃a:Nat->List Addr,(∀i b,b∈a i->U b∈R.map U++as)/\(∀i j b,b∈a i->b∈a j->i=j)/\(∀(i:Nat) (pv:PV),ds[i]? = U (U pv)->av K O (R.map U++as) H1 σ[i]? (a i) pv)/\(∀b∈R,b∈a i)/\∀b∈c i,b∈a i:=by
 have s:∀b∈R,U b∉as:=λb d z=>by obtain⟨_,o,z⟩:=S.new b z;rw[r b d]at z;exact nE z
 have l:∀c:Nat->List Addr,(∀i b,b∈c i->U b∈as)->(∀i j b,b∈c i->b∈c j->i=j)->(∀i pv,ds[i]? = U (U pv)->av K O as H σ[i]? (c i) pv) ->
   ∃a:Nat->List Addr,(∀i b,b∈a i->U b∈R.map U++as)/\(∀i j b,b∈a i->b∈a j->i=j)/\(∀i pv,ds[i]? = U (U pv)->av K O (R.map U++as) H1 σ[i]? (a i) pv)/\(∀b∈R,b∈a i)/\∀b∈c i,b∈a i:=λc f h p=>by
  refine⟨λj=>if j=i then R++c j else c j,λj b d=>?_,λj k b g e=>?_,λj pv t=>(p j pv t).zu (jg m r) (λb _ o z=>m _ _ z) λb z=>?_,λb d=>by dsimp only;rw[b3 rfl];exact L3 _ d,λb d=>by dsimp only;rw[b3 rfl];exact A3 _ d⟩
  . dsimp only at d;split at d
    . rcases List.mem_append.mp d with z|z
      exact L3 _ (mem_map.mpr ⟨b,z,rfl⟩);exact A3 _ (f j b z)
    exact A3 _ (f j b d)
  . dsimp only at g e;split at g
    . rename_i n;split at e;rename_i q;rw[n,q]
      . rcases List.mem_append.mp g with z|z
        exact absurd (f k b e) (s b z);exact h j k b z e
    . split at e
      . rcases List.mem_append.mp e with z|z
        exact absurd (f j b g) (s b z);exact h j k b g z
      exact h j k b g e
  dsimp only;split;exact A3 _ z;exact z
 obtain⟨c,f,h,p⟩:=S.fL;obtain⟨a,v,k2,w,_⟩:=l c f h p;refine⟨⟨S.ls,S.same.trans m,λb d=>?_,S.cy,a,v,k2,w⟩,l⟩
 rcases List.mem_append.mp d with z|z
 obtain⟨y,n,q⟩:=mem_map.mp z;cases q;exact⟨S.same.free (r b n),x b n⟩;exact⟨(S.new b z).1,let ⟨o,z⟩:=(S.new b z).2;⟨o,m _ _ z⟩⟩
end
noncomputable def fe:PV->Option PF
 | .dat d=>U (.dat d)
 | .own l=>U (.own l)
 | .ob _ (.dct es)=>U (.dct es)
 |_=>J
def gE(pv:PV):Option PF:=U (.dat pv.d)
noncomputable def P8(nm:Str)(i:Nat)(f:Str)(kp:PV->Option PF)(F:DV):DO:=λds=>(F ds).bind λpv=>(kp pv).bind λp=>(eh nm i ds).bind λx=>if x.2.length<900 then U (.next (ds.set i (U (.ob x.1 (.ins nm (E5 f p x.2))))))else J
def F9.len{K:d2}{b H:Hp}{fv:List (Str×V)}{fs:List (Str×PF)}{R:List Addr}(h:F9 K b H fv fs R):fv.length=fs.length:=by
 induction h with
 |nil=>rfl
 |dat _ _ a=>simp_all
 |own _ _ _ _ a=>simp_all
 |dct _ _ _ _ a=>simp_all
section
variable{X:Cx}{fr:Bool}{i:Nat}{o e b:Expr}{te tb:TE}{F Fb Fk:DV}{nm f:Str}{C:Addr}{pos pos' apos cpos:Pos}
def HG{K:d2}{O:List Addr}{as:As}{H f:Hp}{v:V}{pv:PV}{p:PF}(D:pC H as O)(r:RX K O as H f v pv)(h:fe pv=U p\/gE pv=U p):∃Rf,(∀b∈Rf,H b=J)/\(∀b∈Rf,∃u:Cl,f b=U u.1)/\sS K (j9 f (Rf.map U++as) O) f v p Rf:=by
 rcases h with h|h
 . cases pv with
   |dat d=>cases h;exact⟨[],λb e=>absurd e i9,λb e=>absurd e i9,.dat r⟩
   |own l =>
    cases h;obtain⟨a,k,rfl,n,g,r⟩:=r;refine⟨[a],λb e=>?_,λb e=>?_,.own g r⟩;rw[mem_singleton.mp e];exact n;rw[mem_singleton.mp e];exact⟨Cl.l k,g⟩
   |ob w c =>
    cases c with
    |dct o =>
     cases h;obtain⟨a,R,rfl,_,g,i,rfl,j,m⟩:=r;refine⟨[a],g,λb e=>?_,.dct j m⟩;rw[mem_singleton.mp e];exact⟨Cl.d i,j⟩
    |ins _ _=>exact nE h
    |seq _ _=>exact nE h
 cases h;exact⟨[],λb e=>absurd e i9,λb e=>absurd e i9,.dat (r.dt D)⟩
def Ru{kp:PV->Option PF}(T:bz X.K nm C)(n:T1 X.K C f)(h:PE X o (C7 i))(hk:∀pv p,kp pv=U p->fe pv=U p\/gE pv=U p)(Y:PX X Uf e te F)(hs:autoParam (Q4 e (U (.Attribute o f pos')) pos.line X.env=pure U') d3._auto_1):D9 X (.Assign [.Attribute o f pos'] e pos) (YG X.K (C7 i) te f) (P8 nm i f kp F):=⟨Zv h Y.p hs,by
 intro O g as σ H ds D r S a q;obtain⟨pv,h1,a⟩:=b5 a;obtain⟨p,h2,a⟩:=b5 a;obtain⟨⟨w,fs⟩,I,a⟩:=b5 a;obtain⟨hl,a⟩:=v8 a;cases a;refine Y.t O g as σ H ds pv _ S h1 λy H1 s r1=>?_
 obtain⟨Rf,M,k2,k3⟩:=HG (S.dm) r1 (hk pv p h2);obtain⟨S1,ad⟩:=S.adopt s i M k2;obtain⟨rg,N,B,l⟩:=S.fL;obtain⟨rg',g1,g2,W,g4,g5⟩:=ad rg N B l;obtain⟨v,R,A,ew,hR,L,x,Z,R',rfl,V,G,c3⟩:=W i _ (aF I);have ec:=T.eq V;subst ec;obtain⟨v0,R0,j,ew0,Q,C0,dx0,fv0,R0',rfl,c10,P,d⟩:=l i _ (aF I);rw[A]at j;cases j;have k:=s _ _ P;rw[G]at k;cases k;have dj:∀b∈Rf,b∉R0':=λb c z=>by obtain⟨u,_,z⟩:=d.at b z;rw[M b c]at z;exact nE z
 obtain⟨R2,p1,p2⟩:=(d.same (jg s M) λb _ o z=>s _ _ z).put (f:=f) k3 dj;refine⟨_,A,v,L,x,Z,rfl,G,T.cl,n,by rw[d.len];exact dS,q (Rf.map U++as) σ _ ?_⟩
 have nv:∀b∈R2,b≠v:=λb c z=>by subst z;obtain⟨u,m,z⟩:=p1.at b c;rw[G]at z;cases z;rcases m with ⟨_,m⟩|⟨_,m⟩<;>cases m
 have hv:=hR v m8;refine S1.AF (u:=Cl.i L x (aE f y Z)) (aF I) g1 g2 W hv λsm=>⟨v,v::R2,A,ew,λb c=>?_,L,x,_,R2,rfl,V,E1,p1.same sm λb c o z=>by rw[w9 (nv b c)];exact z⟩
 rcases List.mem_cons.mp c with rfl|c
 exact hv
 . rcases p2 b c with z|z
   exact g4 b z
   . exact g5 b (Q b (m5 _ z))⟩
noncomputable def aQ(nm:Str)(i:Nat)(f:Str)(Fk Fv:DV):DO:=λds=>(Fv ds).bind λpv=>(Fk ds).bind λk=>(eh nm i ds).bind λx=>(m9 f x.2).bind λp=>(rk p).bind λl=>match k.d with
 | .int k=>(gy l.length k).bind λj=>U (.next (ds.set i (U (.ob x.1 (.ins nm (E5 f (.own (l.set j pv.d)) x.2))))))
 |_=>J
noncomputable def mN(nm:Str)(i:Nat)(f:Str)(F:DV):DO:=λds=>(F ds).bind λpv=>(eh nm i ds).bind λx=>(m9 f x.2).bind λp=>(rk p).bind λl=>if l.length<1000000 then U (.next (ds.set i (U (.ob x.1 (.ins nm (E5 f (.own (l++[pv.d])) x.2))))))else J
def DS.Us{K:d2}{O:List Addr}{i7 H:Hp}{as:As}{q:St}{ds:Ds}{w:Option Addr}{fs:List (Str×PF)}{p t:PF}{u:Cl}{a v:Addr}{y r:Addr}{fv:List (Str×V)}(S:DS K O i7 as q H ds)(hd:ds[i]? = U (U (.ob w (.ins nm fs))))(I:m9 f fs=U p)(s:q[i]? = U (U (.ref v)))(l:H v=U (.ins y r fv))(N:fv.lookup f=U (.ref a))(T:∀d,p≠.dat d)(X:∀{Hv':Hp},d9 (j9 H as O) Hv'->sS K Hv' (upd H a u.1) (.ref a) t [a]):DS K O i7 as q (upd H a u.1) (ds.set i (U (.ob w (.ins nm (E5 f t fs))))):=by
 obtain⟨rg,E,G,x⟩:=S.fL;obtain⟨v0,R0,c,m,h,Z,C,M,e,rfl,n,g,j⟩:=x i _ hd;rw[s]at c;cases c;rw[l]at g;cases g;obtain⟨x0,R,A,P,Q,F⟩:=j.look I;rw[N]at A;cases A;have L:R=[a]:=by
  cases P with
  |dat _=>exact absurd rfl (T _)
  |own _ _=>rfl
  |dct _ _=>rfl
 subst L;have B:=Q a m8;have Y:v≠a:=λz=>by subst z;obtain⟨u',k,z⟩:=j.at v B;rw[l]at z;cases z;rcases k with ⟨_,k⟩|⟨_,k⟩<;>cases k
 refine S.AF hd E G x (h a (m5 _ B)) λsm=>⟨v,v::e,s,m,h,y,r,fv,e,rfl,n,by rw[w9 Y];exact l,F sm (λb hb D o z=>?_) (X sm)⟩;rw[w9 (λz=>D (by rw[z];exact m8))];exact z
def Rt {k:Expr} {G:TE} {b:Pos} (T:bz X.K nm C) (n:T1 X.K C f) (ho:PE X o (C7 i)) (Z:PX X Uf k G Fk) (I:PX X Uf e te F) (y:autoParam (U3 o f X.env (eval o X.env)=eval o X.env) d3._auto_1) (ha:autoParam (∀v,assign (.Subscript (.Attribute o f apos) k b) X.env v=(do
   let ov <- holding [v] (eval (.Attribute o f apos) X.env)
   let iv <- holding [v,ov] (eval k X.env)
   ba b
   holding [v,ov,iv] (setItem ov iv v)
   release [v,ov,iv] [])) U0._auto_1)
  (hs:autoParam (xu [.Subscript (.Attribute o f apos) k b] e pos.line X.env=pure U') d3._auto_1) (hw:autoParam (xt [.Subscript (.Attribute o f apos) k b] e X.env=pure J) d3._auto_1)
  (h1:autoParam ((gP [.Subscript (.Attribute o f apos) k b] X.env).map (·.2)=[assign (.Subscript (.Attribute o f apos) k b) X.env]) d3._auto_1) :
  D9 X (.Assign [.Subscript (.Attribute o f apos) k b] e pos) (gj te (JJ (pI X.K (C7 i) f) G AJ)) (aQ nm i f Fk F):=⟨BC I.p (BH (ri ho y) Z.p set_list ha) hs hw h1,by
 intro O g B E H L D r S c q;obtain⟨pv,e1,c⟩:=b5 c;obtain⟨kv,e2,c⟩:=b5 c;obtain⟨⟨w,fs⟩,P,c⟩:=b5 c;obtain⟨p,Q,c⟩:=b5 c;obtain⟨l,e5,h⟩:=b5 c;have e6:=uS e5;subst e6;split at h
 . rename_i kk A;obtain⟨j,e7,h⟩:=b5 h;cases h;refine I.t O g B E H L pv _ S e1 λv H1 s1 r1=>?_
   have s:=S.grow s1;obtain⟨v0,R,V,_,hR,C',dx,fv,R',rfl,c1,M,c3⟩:=s.slot i _ (aF P);have ec:=T.eq c1;subst ec;obtain⟨x,Rf,Y,l2,l3,l4⟩:=c3.look Q;cases l2 with
   |own y1 W =>
    rename_i a xs;refine⟨_,V,v0,C',dx,fv,_,rfl,M,T.cl,n,Y,?_⟩;refine Z.t O g B E H1 L kv _ s e2 λw' H2 m r2=>?_;have N:=r2.dt s.dm;rw[A]at N;cases N;refine⟨a,xs,kk,j,rfl,rfl,m _ _ y1,by rw[W.length];exact e7,q B E _ ?_⟩;exact(s.grow m).Us (u:=Cl.l _) (aF P) Q V (m _ _ M) Y (λd z=>by cases z) λsm=>.own E1 (((W.same (G6 m)).set j ((r1.grow m).dt S.dm)).same sm)
 . exact nE h⟩
def Rv (T:bz X.K nm C) (n:T1 X.K C f) (ho:PE X o (C7 i)) (B:PX X Uf e te F) (A:autoParam (U3 o f X.env (eval o X.env)=eval o X.env) d3._auto_1) (k:autoParam (e8 [e] X.env=(U',eval e X.env)::e8 [] X.env) d3._auto_1) (g:autoParam (U3 (.Attribute o f pos') "append" X.env (eval (.Attribute o f pos') X.env)=eval (.Attribute o f pos') X.env) d3._auto_1) (m:autoParam (((p5 cpos (e8 [e] X.env)).all (λx=>!x.1)&&(Z0 cpos (bL [] X.env)).all (λx=>x.1.isSome)
   && decide ([e].length+([]:List T3).length+(if ([]:List T3).isEmpty then 0 else 1)<30))=Uf) d3._auto_1)
  (c:autoParam ((apos.endLine==cpos.line)=Uf) d3._auto_1) (b:autoParam ((p5 cpos (e8 [] X.env)).any (·.1)=U') d3._auto_1)
  (hs:autoParam (Q4 (.Call (.Attribute (.Attribute o f pos') "append" apos) [e] [] cpos) J pos.line X.env=pure U') d3._auto_1) :
  D9 X (.Expr (.Call (.Attribute (.Attribute o f pos') "append" apos) [e] [] cpos) pos) (sX (GA X.K "list" yl (pI X.K (C7 i) f) (pJ te pH))) (mN nm i f F) :=
 ⟨nU (vT px Pt Pr zA (ri ho A) (kE B.p rj k) g m c k b) hs,by
 intro O j N W H ds D r S h q;obtain⟨pv,e1,h⟩:=b5 h;obtain⟨⟨w,fs⟩,G,h⟩:=b5 h;obtain⟨p,I,h⟩:=b5 h;obtain⟨l,e5,y⟩:=b5 h;have e6:=uS e5;subst e6;obtain⟨hl,y⟩:=v8 y;cases y;obtain⟨v0,R,L,_,hR,C',Z,fv,R',rfl,Y,E,c3⟩:=S.slot i _ (aF G);have ec:=T.eq Y;subst ec;obtain⟨x,Rf,V,l2,l3,l4⟩:=c3.look I;cases l2 with
 |own P M =>
  rename_i a Q;refine⟨_,L,v0,C',Z,fv,_,rfl,E,T.cl,n,V,.inl ⟨rfl,Q,D5.of P⟩,?_⟩;refine B.t O j N W H ds pv _ S e1 λv H1 s r1=>?_
  have:=M.length;refine⟨a,Q,v,rfl,rfl,s _ _ P,C1 j1 (my o6),q N W _ ?_⟩;exact(S.grow s).Us (u:=Cl.l _) (aF G) I L (s _ _ E) V (λd z=>by cases z) λsm=>.own E1 (((M.same (G6 s)).append (.cons (r1.dt S.dm) .nil)).same sm)⟩
end
section
variable{N y:List Str}{G:DO}
def jb(K:d2)(f:List PV->Option (PV×Ds)):Sp:=λvs H Q _=>∃(O:List Addr) (i7:Hp) (as:As) (args:List PV) (pv:PV) (ds':Ds),
 DS K O i7 as (vs.map U) H (args.map U)/\f args=U (pv,ds')/\∀as' Hm H' v,DS K O i7 as' (vs.map U) Hm ds'->d9 Hm H'->RX K O as' Hm H' v pv->Q v H'
noncomputable def aU(t:Nat->Addr):Nat->List PV->List PV
 |_,[]=>[]
 |i,.ob _ c::r=>.ob (U (t i)) c::aU t (i+1) r
 |i,x::r=>x::aU t (i+1) r
noncomputable def K3(t:Nat->Addr):Nat->List PV->Ds->Ds
 |_,[],_=>[]
 |i,.ob _ _::a,U (.ob w c)::r=>(if w=U (t i)then U (.ob J c)else J)::K3 t (i+1) a r
 |i,_::a,_::r=>J::K3 t (i+1) a r
 |i,_::a,[]=>J::K3 t (i+1) a []
noncomputable def jM(args:List PV)(t:Nat->Addr):Out->Option (PV×Ds)
 | .retO pv ds=>U (pv,K3 t 0 args ds)
 | .next ds=>U (.dat .none,K3 t 0 args ds)
 |_=>J
noncomputable def ou(n N:Nat)(G:DO):List PV->Option (PV×Ds):=λargs=>if args.length=n then
 (open Classical in if h:∃r,∀t,(G ((aU t 0 args).map U++o1 (N-n) J)).bind (jM args t)=U r then U h.choose else J)else J
def lq{n N:Nat}{args:List PV}{r:PV×Ds}(b:args.length=n)(h:∀t,(G ((aU t 0 args).map U++o1 (N-n) J)).bind (jM args t)=U r):ou n N G args=U r:=by
 delta ou;rw[b3 b];have a:∃r,∀t,(G ((aU t 0 args).map U++o1 (N-n) J)).bind (jM args t)=U r:=⟨r,h⟩;rw[dif_pos a];have:=a.choose_spec λ_=>0;rw[h λ_=>0]at this;exact this.symm
def HM{n N:Nat}{args:List PV}{r:PV×Ds}(h:ou n N G args=U r):args.length=n/\∀t,(G ((aU t 0 args).map U++o1 (N-n) J)).bind (jM args t)=U r:=by
 unfold ou at h;split at h;rename_i a;split at h;rename_i b;cases h;exact⟨a,b.choose_spec⟩;exact nE h;exact nE h
theorem Bh(t:Nat->Addr):∀(args:List PV) (i k:Nat),(aU t i args)[k]? = (args[k]?).map λpv=>match pv with
  | .ob _ c=>.ob (U (t (i+k))) c
  |pv=>pv
 | [],i,k=>by simp[aU]
 |x::r,i,0=>by cases x<;>simp[aU]
 |x::r,i,k+1=>by
  have:=Bh t r (i+1) k;rw[show i+1+k=i+(k+1)from by exact Ek _ _ _]at this
  cases x<;>(assumption)
theorem vf(t:Nat->Addr):∀(args:List PV) (i k:Nat) (ds:Ds) (pv:PV),(K3 t i args ds)[k]? = U (U pv)->∃c w b,pv=.ob J c/\args[k]? = U (.ob w b)/\ds[k]? = U (U (.ob (U (t (i+k))) c))
 | [],i,k,ds,pv,h=>by simp[K3]at h
 |x::a,i,0,[],pv,h=>by cases x<;>simp[K3]at h
 |x::a,i,k+1,[],pv,h=>by
  have d:(K3 t (i+1) a [])[k]? = U (U pv):=by cases x<;>simpa [K3]using h
  obtain⟨c,w,b,_,_,h⟩:=vf t a (i+1) k [] pv d;simp at h
 |x::a,i,0,y::r,pv,h=>by
  cases x with
  |ob e b =>
   cases y with
   |none=>simp[K3]at h
   |some y =>
    cases y with
    |ob w c =>
     simp only[K3]at h;split at h;rename_i j;cases h;exact⟨c,e,b,rfl,rfl,by simp[j]⟩;cases h
    |dat _=>simp[K3]at h
    |own _=>simp[K3]at h
  |dat _=>simp[K3]at h
  |own _=>simp[K3]at h
 |x::a,i,k+1,y::r,pv,h=>by
  have d:(K3 t (i+1) a r)[k]? = U (U pv):=by
   cases x with
   |ob e b =>
    cases y with
    |none=>assumption
    |some y=>cases y<;>simpa [K3]using h
   |dat _=>assumption
   |own _=>assumption
  obtain⟨c,w,b,f,g,l⟩:=vf t a (i+1) k r pv d;exact⟨c,w,b,f,by assumption,by rw[me,l,show i+1+k=i+(k+1)from by exact Ek _ _ _]⟩
theorem ix(t:Nat->Addr):∀(args:List PV) (i:Nat) (ds:Ds),(K3 t i args ds).length=args.length
 | [],_,_=>by simp[K3]
 |x::a,i,[]=>by cases x<;>simp[K3,ix t a]
 |x::a,i,y::r=>by
  cases x with
  |ob w c =>
   cases y with
   |none=>simp[K3,ix t a]
   |some y=>cases y<;>simp[K3,ix t a]
  |dat _=>simp[K3,ix t a]
  |own _=>simp[K3,ix t a]
section
variable{K:d2}{O:List Addr}{i7 H:Hp}{as:As}{σ:St}{ds:Ds}
def DS.slots(S:DS K O i7 as σ H ds){b:St}{ds':Ds}(l:b.length=ds'.length)(h:∀(i:Nat) (pv:PV),ds'[i]? = U (U pv)->∃a,ds[i]? = U (U a)/\∀c,av K O as H σ[i]? c a->av K O as H b[i]? c pv):DS K O i7 as b H ds':=by
 obtain⟨c,j,e,k⟩:=S.fL;refine⟨l,S.same,S.new,S.cy,c,j,e,λi pv f=>?_⟩;obtain⟨a,d,g⟩:=h i pv f;exact g _ (k i a d)
end
section
variable{P:n9}{w:k7}{K:d2}{mg:Str->Option a9}{base:Heap}
def addrOf:Option V->Addr
 |some (.ref a)=>a
 |_=>(0:Nat)
def DS.Yw{O:List Addr}{i7 H:Hp}{as:As}{vs:List V}{args:List PV}(S:DS K O i7 as (vs.map U) H (args.map U)):
  DS K O i7 as (L2.start N vs) H ((aU (λi=>addrOf vs[i]?) 0 args).map U++o1 (N.length-args.length) J):=by
 have m:vs.length=args.length:=by have:=S.ls;simpa using this
 have lt:(aU (λi=>addrOf vs[i]?) 0 args).length=args.length:=by
  have:∀a i t,(aU t i a).length=a.length:=by
   intro a;induction a with
   |nil=>intro i t;rfl
   |cons x r p=>intro i t;cases x<;>simp[aU,p]
  exact this _ _ _
 refine S.slots (by delta L2.start;simp[lt,m]) λi pv b=>?_;rw[OT]at b;split at b
 . rename_i q;rw[C5,Bh,Option.map_map]at b;have f:i<args.length:=by simpa [lt]using q
   have e:i<vs.length:=by lia
   rw[y4 f]at b;have k:(L2.start N vs)[i]? = (vs.map U)[i]?:=by delta L2.start;rw[fm (by simpa using e)]
   have s:(args.map U)[i]? = U (U args[i]):=by rw[C5,y4 f];rfl
   refine⟨args[i],s,λy h=>?_⟩
   rw[k];simp only[oT,Function.comp,Oz]at b;generalize args[i]=x at b h;cases x with
   |dat d=>simp only at b;rw[<-b];exact h
   |own l=>simp only at b;rw[<-b];exact h
   |ob w c =>
    rw[<-b];obtain⟨v,R,g,u,o,n⟩:=h;refine⟨v,R,g,.inr ?_,o,n⟩;rw[C5]at g;rw[y4 e]at g;have j:vs[i]=.ref v:=by simpa using g
    rw[oK,y4 e,j];rfl
 have:=lZ b;simp[OI]at this
def sQ.okO {x j:Str} {M:Stmt} {f:Addr} {fd:B4} {k:Nat} (F:sQ K x j M f fd) (S:iH N y (B6 M)) (hN:y.length<=N.length) (u:∀(m:a9) (A:t6) (outer:List Env) (s:b9) (H:Hp) (E:XK),D1 k (A.deeper (cX j (B6 M) (hz s) f m)) ->
   ∃t,gF (nB qP P w K mg base N j (B6 M) f m A outer s H E).zz (aj M) t G):W4 P w K mg base qP (k+1) f fd y (jb K (ou y.length N.length G)):=by
 have ln:∀g H Q E,jb K (ou y.length N.length G) g H Q E->g.length=y.length:=λg H Q E h=>by obtain⟨O,d,as,q,pv,Z,D,I,X⟩:=h;have:=D.ls;have hl:=(HM I).1;simp at this;simp[*]
 refine F.ok S ln λm A outer s H g Q E hr h=>?_
 obtain⟨O,d,as,q,pv,Z,D,I,X⟩:=h;obtain⟨t,ht⟩:=u m A outer s H E hr;refine⟨t,ht.p,?_⟩;obtain⟨hl,I⟩:=HM I;have W:=I λi=>addrOf g[i]?
 obtain⟨o,W,C⟩:=b5 W;have S1:=DS.Yw (N:=N) D;rw[hl]at S1;have:g.length=y.length:=by have:=D.ls;simp at this;simp[*]
 have L:∀a l T b,DS K O d a l T b->DS K O d a (g.map U) T (K3 (λi=>addrOf g[i]?) 0 q b):=λa l T b S2=>by
  refine S2.slots (by rw[ix,o9];simp[*]) λi pv hd=>?_;obtain⟨c,w0,c0,rfl,h4,h5⟩:=vf _ _ _ _ _ _ hd;refine⟨_,h5,λrg hs=>?_⟩
  obtain⟨v,R,z1,z2,z3,z4⟩:=hs;refine⟨v,R,?_,.inl rfl,z3,z4⟩;have n:addrOf g[0+i]? = v:=by
   rcases z2 with z|z
   exact nS z;exact L1 z
  rw[oK]at n;obtain⟨v',_,B,_⟩:=D.slot i (.ob w0 c0) (by rw[C5,h4];rfl)
  rw[B];rw[C5]at B;cases e:g[i]? with
  |none=>rw[e]at B;exact nE B
  |some x =>
   rw[e]at B n;have y1':x=.ref v':=by simpa using B
   rw[y1']at n;have Y:v'=v:=n;rw[Y]
 refine ht.t O d as (L2.start N g) H _ _ o S1 W ?_;cases o with
 |next b=>cases C;exact λa l V S'=>X a V V _ (L _ _ _ _ S') (d9.refl _) Dt.non
 |retO pv' b=>cases C;exact λa l T V v S' s r=>X a T V v (L _ _ _ _ S') s r
 |ret pv'=>exact nE C
 |brk b=>exact nE C
 |cont b=>exact nE C
 |up x=>exact nE C
end
end
section
variable{vs:List V}{E:XK}{CX:mn}{k:Nat}{fd:B4}{C:Addr}{pl:Sem Bool}{g ps:List Str}
inductive AV where
 |d (x:a7)
 |s (i:Nat)
inductive zZ(K:d2)(Hv:Hp)(σ:St):List V->List AV->Prop
 |nil:zZ K Hv σ [] []
 |d {v x vs l}:Dt K Hv v x->zZ K Hv σ vs l->zZ K Hv σ (v::vs) (.d x::l)
 |s {v i vs l}:σ[i]? = U (U v)->zZ K Hv σ vs l->zZ K Hv σ (v::vs) (.s i::l)
def TAO(K:d2)(t:TA)(F:Ds->Option (List AV)):Prop :=
 ∀(O:List Addr) (i7:Hp) (as:As) (σ:St) (H:Hp) (ds:Ds) (l:List AV) (Q:List V->Hp->Prop),DS K O i7 as σ H ds->F ds=U l->(∀vs H',d9 H H'->zZ K (j9 H' as O) σ vs l->Q vs H')->t σ H Q
structure rW(X:Cx)(es:List Expr)(t:TA)(F:Ds->Option (List AV)):Prop where
 p:PA X es t
 t:TAO X.K t F
noncomputable def cm:Ds->Option (List AV):=λ_=>U []
noncomputable def E8(F:DV)(G:Ds->Option (List AV)):Ds->Option (List AV):=λds=>(F ds).bind λx=>(G ds).bind λl=>U (.d x.d::l)
noncomputable def gw(i:Nat)(G:Ds->Option (List AV)):Ds->Option (List AV):=λds=>match ds[i]? with
 |some (U (.ob _ _))=>(G ds).bind λl=>U (.s i::l)
 |_=>J
section
variable{X:Cx}{e:Expr}{es:List Expr}{te:TE}{t:TA}{F:DV}{Fl:Ds->Option (List AV)}
def WJ:rW X [] pH cm:=⟨rj,by intro O a d e H c l Q S b q;cases b;exact q [] H (d9.refl H) .nil⟩
def Sb(h:PX X Uf e te F)(k:rW X es t Fl)(hs:autoParam (e8 (e::es) X.env=(U',eval e X.env)::e8 es X.env) d3._auto_1):rW X (e::es) (pJ te t) (E8 F Fl):=⟨kE h.p k.p hs,by
 intro O a j f H i l Q S b q;obtain⟨x,s,b⟩:=b5 b;obtain⟨m,y,b⟩:=b5 b;cases b;refine h.t O a j f H i x _ S s λv n g u=>?_;refine k.t O a j f n i m _ (S.grow g) y λo w c r=>?_
 exact q (v::o) w (g.trans c) (.d ((u.grow c).dt (S.dm)) r)⟩
def Sa(i:Nat)(h:PE X e (C7 i))(k:rW X es t Fl)(hs:autoParam (e8 (e::es) X.env=(U',eval e X.env)::e8 es X.env) d3._auto_1):rW X (e::es) (pJ (C7 i) t) (gw i Fl):=⟨kE h k.p hs,by
 intro O b y n H u l Q S a q;unfold gw at a;split at a;rename_i w c f;obtain⟨m,r,a⟩:=b5 a;cases a;obtain⟨v,R,d,_⟩:=S.slot i _ f;refine⟨_,d,?_⟩;refine k.t O b y n H u m _ S r λg x j o=>?_;exact q (_::g) x j (.s d o)
 . exact nE a⟩
end
noncomputable def qp(ds:Ds):List AV->Option (List PV)
 | []=>U []
 | .d x::l=>(qp ds l).bind λr=>U (.dat x::r)
 | .s i::l=>match ds[i]? with
  |some (U (.ob _ c))=>(qp ds l).bind λr=>U (.ob J c::r)
  |_=>J
noncomputable def L5:List AV->List Nat
 | []=>[]
 | .d _::l=>L5 l
 | .s i::l=>i::L5 l
noncomputable def Ji:Option PV->Option (Option PV)->Option PV
 |some (.ob _ c),U (U (.ob w _))=>U (.ob w c)
 |_,_=>J
def Mj{x:Option PV}{o:Option (Option PV)}{pv:PV}(h:Ji x o=U pv):∃w c b a,o=U (U (.ob w a))/\x=U (.ob b c)/\pv=.ob w c:=by
 unfold Ji at h;split at h;rename_i b c w a;cases h;exact⟨w,c,b,a,rfl,rfl,rfl⟩;exact nE h
noncomputable def dZ:List AV->Ds->Ds->Ds
 | .s i::l,x::r,ds=>dZ l r (ds.set i (Ji x ds[i]?))
 | .d _::l,_::r,ds=>dZ l r ds
 |_,_,ds=>ds
noncomputable def gs:List AV->Nat->Option Nat
 | [],_=>J
 | .d _::l,j=>(gs l j).map (· + 1)
 | .s i::l,j=>if i=j then U 0 else(gs l j).map (· + 1)
theorem je:∀{l:List AV} {j k:Nat},gs l j=U k->l[k]? = U (.s j)
 | [],j,k,h=>by exact nE h
 | .d x::l,j,k,h=>by simp only[gs,Ey]at h;obtain⟨m,a,rfl⟩:=h;rw[me];exact je a
 | .s i::l,j,k,h=>by
  simp only[gs]at h;split at h;rename_i e;cases h;rw[e];rfl;simp only[Ey]at h;obtain⟨m,a,rfl⟩:=h;rw[me];exact je a
theorem ao:∀{l:List AV} {j:Nat},j∈L5 l ↔ ∃k:Nat,l[k]? = U (AV.s j)
 | [],j=>by simp[L5]
 | .d x::l,j=>by
  rw[L5,ao];constructor;rintro⟨k,h⟩;exact⟨k+1,by assumption⟩
  . rintro⟨k,h⟩;cases k with
    |zero=>simp at h
    |succ k=>exact⟨k,by assumption⟩
 | .s i::l,j=>by
  rw[L5,Q1,ao];constructor;rintro(h|⟨k,h⟩);exact⟨0,by rw[h];rfl⟩;exact⟨k+1,by assumption⟩
  . rintro⟨k,h⟩;cases k with
    |zero =>
     have a:i=j:=by simpa using h
     exact .inl a.symm
    |succ k=>exact .inr ⟨k,by assumption⟩
theorem ik:∀{l:List AV} {j k:Nat},(L5 l).Nodup->l[k]? = U (.s j)->gs l j=U k
 | [],j,k,_,h=>by simp at h
 | .d x::l,j,k,n,h=>by
  cases k with
  |zero=>simp at h
  |succ k =>
   simp only[gs,ik (l:=l) n h,oT]
 | .s i::l,j,k,n,h=>by
  rw[L5,Oe]at n;cases k with
  |zero =>
   have b:i=j:=by simpa using h
   simp[gs,b]
  |succ k =>
   have a:i≠j:=λz=>n.1 (ao.mpr ⟨k,by rw[z];exact h⟩);simp only[gs,b0 a,ik n.2 h,oT]
def a0Q{K:d2}{m:Hp}{j:St}{ds:Ds}{l:List AV}{args:List PV}(o:zZ K m j vs l)(h:qp ds l=U args):vs.length=l.length/\args.length=l.length/\∀(k:Nat) (pv:PV),args[k]? = U pv ->
  (∃x v,l[k]? = U (AV.d x)/\pv=.dat x/\vs[k]? = U v/\Dt K m v x)\/∃i w c v,l[k]? = U (AV.s i)/\ds[i]? = U (U (.ob w c))/\pv=.ob J c/\vs[k]? = U v/\j[i]? = U (U v):=by
 induction o generalizing args with
 |nil =>
  cases h;exact⟨rfl,rfl,λk pv h=>nE h⟩
 |d e t i =>
  obtain⟨r,f,h⟩:=b5 h;cases h;obtain⟨b,g,a⟩:=i f;refine⟨m2 (· + 1) b,m2 (· + 1) g,λk pv h=>?_⟩
  cases k with
  |zero=>exact .inl ⟨_,_,rfl,(L1 h).symm,rfl,e⟩
  |succ k=>exact a k pv h
 |s e t i =>
  rw[qp]at h;split at h
  . rename_i w c n;obtain⟨r,f,h⟩:=b5 h;cases h;obtain⟨b,g,a⟩:=i f;refine⟨m2 (· + 1) b,m2 (· + 1) g,λk pv h=>?_⟩
    cases k with
    |zero=>exact .inr ⟨_,w,c,_,rfl,n,(L1 h).symm,rfl,e⟩
    |succ k=>exact a k pv h
  exact nE h
theorem uP:∀{l:List AV} {ds' ds:Ds},(dZ l ds' ds).length=ds.length
 | [],_,_=>by simp[dZ]
 | .d _::l,x::r,ds=>by rw[dZ];exact uP
 | .d _::l,[],ds=>by simp[dZ]
 | .s i::l,[],ds=>by simp[dZ]
 | .s i::l,x::r,ds=>by rw[dZ,uP,Oh]
theorem uQ:∀{l:List AV} {ds' ds:Ds} {j:Nat} {pv:PV},(L5 l).Nodup->ds'.length=l.length->(dZ l ds' ds)[j]? = U (U pv) ->
  (j∉L5 l/\ds[j]? = U (U pv))\/∃(k:Nat) (w:Option Addr) (c:OD) (f:Option Addr) (e:OD),l[k]? = U (AV.s j)/\ds[j]? = U (U (.ob w e))/\ds'[k]? = U (U (.ob f c))/\pv=.ob w c
 | [],_,ds,j,pv,_,_,h=>.inl ⟨by simp[L5],by assumption⟩
 | .d x::l,[],ds,j,pv,n,hl,h=>by simp at hl
 | .s x::l,[],ds,j,pv,n,hl,h=>by simp at hl
 | .d x::l,y::r,ds,j,pv,n,hl,h=>by
  rcases uQ (l:=l) n (by simpa using hl) h with h|⟨k,w,c,f,e,g,b,o,m⟩
  exact .inl h;exact .inr ⟨k+1,w,c,f,e,by assumption,b,by assumption,m⟩
 | .s i::l,y::r,ds,j,pv,n,hl,h=>by
  rw[L5,Oe]at n;rcases uQ n.2 (by simpa using hl) h with ⟨g,b⟩|⟨k,v,q,f,e,g,b,o,m⟩
  by_cases a:i=j;subst a;rw[xJ,b3 rfl]at b;obtain⟨_,b⟩:=v8 b;obtain⟨w,c,f,e,t,p,u⟩:=Mj (L1 b);exact .inr ⟨0,w,c,f,e,rfl,t,by rw[p];rfl,u⟩;rw[fk a]at b;exact .inl ⟨by rw[L5,Q1];exact λz=>z.elim (λz=>a z.symm) g,b⟩;have a:i≠j:=λz=>n.1 (ao.mpr ⟨k,by rw[z];exact g⟩);rw[fk a]at b;exact .inr ⟨k+1,v,q,f,e,by assumption,b,by assumption,m⟩
def Nt{H:Hp}{as bs:As}{O P:List Addr}(h:∀b,(b∈O\/U b∈as)↔(b∈P\/U b∈bs)):j9 H as O=j9 H bs P:=by
 funext b
 delta j9
 simp_all
section
variable{K:d2}{O:List Addr}{i7 H:Hp}{as:As}{σ:St}{ds:Ds}
def DS.Vg(S:DS K O i7 as σ H ds){l:List AV}{args:List PV}(ha:zZ K (j9 H as O) σ vs l)(hp:qp ds l=U args)(hn:(L5 l).Nodup):
  ∃Oc Hc ac,DS K Oc Hc ac (vs.map U) H (args.map U)/\∀f X ds',DS K Oc Hc f (vs.map U) X ds'->∃as2,DS K O i7 as2 σ X (dZ l ds' ds)/\∀H' v pv,d9 X H'->RX K Oc f X H' v pv->RX K O as2 X H' v pv:=by
 obtain⟨rg,r1,r2,r3⟩:=S.fL;obtain⟨l1,l2,l3⟩:=a0Q ha hp;have C:∀b,b∈(L5 l).flatMap rg ↔ ∃i∈L5 l,b∈rg i:=λb=>mem_flatMap;generalize hR:(L5 l).flatMap rg=RI at C;generalize hT:(as.filterMap id).filter (λb=>decide (b∉RI))=B
 have n:∀b,b∈B↔U b∈as/\b∉RI:=λb=>by rw[<-hT,List.mem_filter,El,decide_eq_true_eq];simp
 have g:∀b,b∈RI->U b∈as:=λb F=>by obtain⟨i,_,h⟩:=(C b).mp F;exact r1 i b h
 have L:∀(R:List Addr) b,U b∈R.map U↔b∈R:=λR b=>by simp
 have G:∀b o,j9 H (RI.map U) [] b=U o↔b∉RI/\H b=U o:=λb o=>by rw[p6,L];simp
 have e0:∀H,j9 H (RI.map U) (O++B)=j9 H as O:=λH=>Nt λb=>by
  rw[L,gT,n];constructor;rintro((h|⟨h,_⟩)|h);exact .inl h;exact .inr h;exact .inr (g b h);rintro(h|h);exact .inl (.inl h);by_cases c:b∈RI;exact .inr c;exact .inl (.inr ⟨h,c⟩)
 refine⟨O++B,j9 H (RI.map U) [],RI.map U,⟨?_,l8,λa h=>?_,λa h=>?_,λk=>match l[k]? with|some (.s i)=>rg i|_=>[],λk b h=>?_,λk k' b h A=>?_,λk pv h=>?_⟩,?_⟩;simp[l1,l2];rw[L]at h;exact⟨by delta j9;rw[b3 (.inr ((L _ _).mpr h))],(S.new a (g a h)).2⟩
 . rcases List.mem_append.mp h with h|h
   obtain⟨o,z⟩:=S.cy a h;exact⟨o,(G a o).mpr ⟨λq=>S.nO (g a q) h,S.same _ _ z⟩⟩;obtain⟨m,p⟩:=(n a).mp h;obtain⟨_,u,z⟩:=S.new a m;exact⟨_,(G a _).mpr ⟨p,z⟩⟩
 dsimp only at h;split at h;rename_i i M;rw[L,C];exact⟨i,ao.mpr ⟨k,M⟩,h⟩;simp at h;dsimp only at h A;split at h;rename_i i M;split at A;rename_i i' hi';have:=r2 i i' b h A;subst this;have q1:=ik hn M;rw[ik hn hi']at q1;exact(L1 q1).symm;simp at A;simp at h
 . rw[C5]at h;cases t:args[k]? with
   |none=>rw[t]at h;exact nE h
   |some pv0 =>
    rw[t]at h;have A:pv0=pv:=by simpa using h
    subst A;rcases l3 k pv0 t with ⟨x,v,D,rfl,z3,z4⟩|⟨i,w,c,v,D,z2,rfl,z3,z4⟩
    exact⟨v,by rw[C5,z3];rfl,by rw[e0];exact z4⟩
    . dsimp only;rw[D];obtain⟨v',R,Q,y2,Y,Z⟩:=r3 i _ z2;rw[z4]at Q;have W:v=.ref v':=by simpa using Q
      subst W;exact⟨v',R,by rw[C5,z3];rfl,.inl rfl,Y,by rw[e0];exact Z⟩
 intro f X ds' P;obtain⟨rg',q1,q2,q3⟩:=P.fL;have hl':ds'.length=l.length:=by have:=P.ls;simp at this;lia
 have na:∀b,U b∈f->b∉O/\b∉B/\i7 b=J:=λb F=>by
  have z:=(P.new b F).1;refine⟨λq=>?_,λq=>?_,?_⟩;obtain⟨o,y⟩:=S.cy b q;rw[(G b o).mpr ⟨λq'=>S.nO (g b q') q,S.same _ _ y⟩]at z;exact nS z;obtain⟨m,p⟩:=(n b).mp q;obtain⟨_,u,y⟩:=S.new b m;rw[(G b _).mpr ⟨p,y⟩]at z;exact nS z
  . cases y:i7 b with
    |none=>rfl
    |some o =>
     rw[(G b o).mpr ⟨λq'=>?_,S.same _ _ y⟩]at z;exact nS z;rw[(S.new b (g b q')).1]at y;exact nE y
 have e1:∀H xs,j9 H (xs++f) (O++B)=j9 H (xs++(f++B.map U)) O:=λH xs=>Nt λb=>by
  rw[gT,gT,gT,gT,L];constructor;rintro((h|h)|h|h);exact .inl h;exact .inr (.inr (.inr h));exact .inr (.inl h);exact .inr (.inr (.inl h));rintro(h|h|h|h);exact .inl (.inl h);exact .inr (.inl h);exact .inr (.inr h);exact .inl (.inr h)
 have e2:∀H:Hp,j9 H f (O++B)=j9 H (f++B.map U) O:=λH=>e1 H []
 have sm:d9 (j9 H as O) (j9 X (f++B.map U) O):=cR λb o m p T=>by
  have F:=λz=>p (g b z);refine⟨m,λz=>?_,P.same _ _ ((G b o).mpr ⟨F,T⟩)⟩
  rcases List.mem_append.mp z with z|z
  have:=(P.new b z).1;rw[(G b o).mpr ⟨F,T⟩]at this;exact nS this;exact p ((n b).mp ((L _ _).mp z)).1
 refine⟨f++B.map U,⟨by rw[uP];exact S.ls,λb o h=>P.same _ _ ((G b o).mpr ⟨λq'=>?_,S.same _ _ h⟩),λb h=>?_,S.cy,λj=>match gs l j with|some k=>rg' k|none=>rg j,λj b h=>?_,λj N b h A=>?_,λj pv h=>?_⟩,λH' v pv s r=>?_⟩;rw[(S.new b (g b q')).1]at h;exact nE h
 . rcases List.mem_append.mp h with h|h
   exact⟨(na b h).2.2,(P.new b h).2⟩;obtain⟨m,p⟩:=(n b).mp ((L _ _).mp h);obtain⟨z,u,y⟩:=S.new b m;exact⟨z,u,P.same _ _ ((G b _).mpr ⟨p,y⟩)⟩
 dsimp only at h;split at h;exact L3 _ (q1 _ b h);rename_i hj;refine A3 _ ((L _ _).mpr ((n b).mpr ⟨r1 j b h,λz=>?_⟩));obtain⟨i,M,z⟩:=(C b).mp z;have:=r2 i j b z h;subst this;obtain⟨k,t⟩:=ao.mp M;rw[ik hn t]at hj;exact nS hj
 . have no:∀(j N k),gs l j=U k->gs l N=J->b∈rg' k->b∈rg N->False:=λj N k hj hj' F hb'=>by
     have z:=q1 k b F;have:b∉RI:=λz=>by obtain⟨i,M,z⟩:=(C b).mp z;have:=r2 i N b z hb';subst this;obtain⟨k,t⟩:=ao.mp M;rw[ik hn t]at hj';exact nS hj'
     exact(na b z).2.1 ((n b).mpr ⟨r1 N b hb',this⟩)
   dsimp only at h A;split at h;rename_i k t;split at A;rename_i k' E;have:=q2 k k' b h A;subst this;have D:=je t;rw[je E]at D;cases D;rfl;rename_i E;exact(no j N k t E h A).elim;rename_i t;split at A;rename_i k' E;exact(no N j k' E t A h).elim;exact r2 j N b h A
 . rcases uQ hn hl' h with ⟨m,p⟩|⟨k,w,c,w0,c0,m,p,T,rfl⟩
   . have:gs l j=J:=by
       cases z:gs l j with
       |none=>rfl
       |some k=>exact absurd (ao.mpr ⟨k,je z⟩) m
     dsimp only;rw[this];refine(r3 j pv p).zu sm (λb F o z=>P.same _ _ ((G b o).mpr ⟨λq=>?_,z⟩)) λb z=>z;obtain⟨i,M,y⟩:=(C b).mp q;have e:=r2 i j b y F;subst e;exact m M
   . dsimp only;rw[ik hn m];obtain⟨v',R,Q,y2,Y,Z⟩:=q3 k _ T;obtain⟨v0,R0,x1,x2,_⟩:=r3 j _ p;have t:k<args.length:=by rw[l2];exact(List.getElem?_eq_some_iff.mp m).1
     rcases l3 k _ (y4 t)with ⟨x,v,D,_⟩|⟨i,w',c',v,D,z2,z3,z4,z5⟩
     rw[m]at D;cases D
     . rw[m]at D;cases D;rw[C5,z4]at Q;have W:v=.ref v':=by simpa using Q
       subst W;rw[z5]at x1;have x1':v'=v0:=by simpa using x1
       subst x1';exact⟨v',R,z5,x2,Y,by rw[<-e2];exact Z⟩
 . cases pv with
   |dat d =>
    have r':Dt K (j9 H' f (O++B)) v d:=r;rw[e2]at r';exact r'
   |own l =>
    obtain⟨a,xs,Q,y2,Y,Z⟩:=r;refine⟨a,xs,Q,y2,Y,?_⟩;have:=e1 H' [U a];rw[show(U a::(f++B.map U))=[U a]++(f++B.map U)from rfl,<-this];exact Z
   |ob w c =>
    obtain⟨o,R,Q,y2,Y,Z⟩:=r;refine⟨o,R,Q,y2,Y,?_⟩;rw[<-e1 H' (R.map U)];exact Z
end
def TXO(K:d2)(te:TE)(F:Ds->Option (PV×Ds)):Prop :=
 ∀(O:List Addr) (i7:Hp) (as:As) (σ:St) (H:Hp) (ds:Ds) (pv:PV) (ds':Ds) (Q:VK),DS K O i7 as σ H ds->F ds=U (pv,ds')->(∀as' Hm H' v,DS K O i7 as' σ Hm ds'->d9 Hm H'->RX K O as' Hm H' v pv->Q v H')->te σ H Q
structure uA(X:Cx)(e:Expr)(te:TE)(F:Ds->Option (PV×Ds)):Prop where
 p:PE X e te
 t:TXO X.K te F
noncomputable def jj(f:List PV->Option (PV×Ds))(Fl:Ds->Option (List AV)):Ds->Option (PV×Ds):=λds=>(Fl ds).bind λl=>if (L5 l).Nodup then(qp ds l).bind λargs=>(f args).bind λr=>U (r.1,dZ l r.2 ds)else J
section
variable{X:Cx}{e o:Expr}{es:List Expr}{te:TE}{t:TA}{F:DV}{FO:Ds->Option (PV×Ds)}{Fl:Ds->Option (List AV)}{pos pos' apos p:Pos}{f':List PV->Option (PV×Ds)}
def Qk(z:rW X es t Fl):TXO X.K (pK (jb X.K f') [] E t) (jj f' Fl):=by
 intro O b I p H s pv o Q S a q;obtain⟨l,D,a⟩:=b5 a;obtain⟨r,a⟩:=v8 a;obtain⟨c,y,a⟩:=b5 a;obtain⟨⟨d,j⟩,w,a⟩:=b5 a;cases a;refine z.t O b I p H s l _ S D λL M m u=>?_;obtain⟨F,A,k,C,back⟩:=(S.grow m).Vg u y r;rw[Z9];refine⟨F,A,k,c,d,j,C,w,λe i h v G g B=>?_⟩;obtain⟨f,n,x⟩:=back e i j G;exact q f i h v n g (x h v d g B)
def QZ{f:Addr}{c:List Str}{x:Str}(G:W4 X.prog X.w X.K X.mg X.base CX k f fd c (jb X.K f'))(l:D1 k X.A)(n:Gl X x)(h:X.mg x=U (.ref f))(i:eT X.K (.ref f)=Uf)(m:Binds X.K fd c [])(g:Passes CX X E)(d:rW X (e::es) t Fl)(b:autoParam ((x==("__debug__" : Str))=U') a6._auto_1)(j:autoParam (e8 (e::es) X.env=(U',eval e X.env)::e8 es X.env) d3._auto_1)(a:autoParam ((p5 pos (e8 es X.env)).any (·.1)=U') d3._auto_1):
  uA X (.Call (.Name x p) (e::es) [] pos) (pK (jb X.K f') [] E t) (jj f' Fl):=⟨He G l n h i m .nil g d.p b j a,Qk d⟩
noncomputable def E6(nm m:Str)(i:Nat)(f:List PV->Option (PV×Ds))(Fl:Ds->Option (List AV)):Ds->Option (PV×Ds):=λds=>(eh nm i ds).bind λx=>match m9 m x.2 with
 |none=>jj f (gw i Fl) ds
 |some _=>J
def Qj{x m:Str}{i:Nat}(T:bz X.K x C)(I:rW X es t Fl):TXO X.K (kb C m (jb X.K f') [] E (C7 i) t) (E6 x m i f' Fl):=by
 intro O c Y F H ds pv ds' Q S a q;obtain⟨⟨w,fs⟩,W,a⟩:=b5 a;have n:=aF W;have b:=a;obtain⟨v,R,u,_,hR,C',dx,A,R',rfl,P,N,z⟩:=S.slot i _ n;have ec:=T.eq P;subst ec;cases hl:m9 m fs with
 |some _=>simp_all
 |none =>
  rw[hl]at b;refine⟨_,u,v,dx,A,rfl,N,z.a0b hl,?_⟩;obtain⟨l,h,a⟩:=b5 b;unfold gw at h;rw[n]at h;obtain⟨L,g,f⟩:=b5 h;cases f;obtain⟨hn,a⟩:=v8 a;obtain⟨d,h2,a⟩:=b5 a;obtain⟨⟨e,y⟩,h3,a⟩:=b5 a;cases a;refine I.t O c Y F H ds L _ S g λvs H1 D r1=>?_;obtain⟨V,Hc,B,Sc,back⟩:=(S.grow D).Vg (.s u r1) h2 hn;rw[Z9];refine⟨V,Hc,B,d,e,y,Sc,h3,λj p o v S' r M=>?_⟩;obtain⟨k,Z,G⟩:=back j p y S';exact q k p o v Z r (G o v e r M)
def ig {i:Nat} {f:Addr} {c:List Str} {d m:Str} (T:bz X.K d C) (r:PE X o (C7 i)) (l:Meth X.K C m f) (G:W4 X.prog X.w X.K X.mg X.base CX k f fd c (jb X.K f')) (n:D1 k X.A) (q:Binds X.K fd c []) (j:Passes CX X E) (g:rW X (e::es) t Fl) (a:autoParam (e8 (e::es) X.env=(U',eval e X.env)::e8 es X.env) d3._auto_1) (b:autoParam ((p5 pos (e8 es X.env)).any (·.1)=U') d3._auto_1) (h:autoParam (eval (.Call (.Attribute o m apos) (e::es) [] pos) X.env=(do
   let ov <- eval o X.env
   ba apos.atName
   let (f,first) <- holding [ov] (gN ov m pl)
   callWith pos f first (p5 pos (e8 (e::es) X.env)) (Z0 pos (bL [] X.env)))) d3._auto_1) :
  uA X (.Call (.Attribute o m apos) (e::es) [] pos) (kb C m (jb X.K f') [] E (C7 i) t) (E6 d m i f' Fl):=⟨Ha r T.cl l G n q .nil j g.p a b h,Qj T g⟩
def Wa {fr:Bool} {n:TE} {d:DV} {j:DL} {f:Addr} {h m:Str} {b:FV} (T:bz X.K h C) (l:PX X fr o n d) (s:Meth X.K C m f) (G:W4 X.prog X.w X.K X.mg X.base CX k f fd g (t7 X.K b)) (u:D1 k X.A) (v:Binds X.K fd g []) (r:Passes CX X E) (i:aY X fr (e::es) t j) (a:autoParam (e8 (e::es) X.env=(U',eval e X.env)::e8 es X.env) d3._auto_1) (c:autoParam ((p5 pos (e8 es X.env)).any (·.1)=U') d3._auto_1) (q:autoParam (eval (.Call (.Attribute o m apos) (e::es) [] pos) X.env=(do
   let ov <- eval o X.env
   ba apos.atName
   let (f,first) <- holding [ov] (gN ov m pl)
   callWith pos f first (p5 pos (e8 (e::es) X.env)) (Z0 pos (bL [] X.env)))) d3._auto_1) :
  PX X fr (.Call (.Attribute o m apos) (e::es) [] pos) (kb C m (t7 X.K b) [] E n t) (J8 h m b d j):=⟨Ha l.p T.cl s G u v .nil r i.p a c q,Gy T l i⟩
def Rc {fr:Bool} {g:TE} {b:DV} {f:Addr} {c:List Str} {d m:Str} {a:FV} (T:bz X.K d C) (e:PX X fr o g b) (j:Meth X.K C m f) (G:W4 X.prog X.w X.K X.mg X.base CX k f fd c (t7 X.K a)) (l:D1 k X.A) (n:Binds X.K fd c []) (i:Passes CX X E) (h:autoParam (eval (.Call (.Attribute o m apos) [] [] pos) X.env=(do
   let ov <- eval o X.env
   ba apos.atName
   let (f,first) <- holding [ov] (gN ov m pl)
   callWith pos f first (p5 pos (e8 [] X.env)) (Z0 pos (bL [] X.env)))) d3._auto_1) :
  PX X fr (.Call (.Attribute o m apos) [] [] pos) (kb C m (t7 X.K a) [] E g pH) (J8 d m a b d6):=⟨RS e.p T.cl j G l n .nil i h,Gy T e Hf⟩
noncomputable def F6(F:Ds->Option (PV×Ds)):DO:=λds=>(F ds).bind λr=>U (.next r.2)
noncomputable def ll:DO:=λds=>U (.retO (.dat .none) ds)
def Ly(b:uA X e te FO)(hs:autoParam (Q4 e J pos.line X.env=pure U') d3._auto_1):D9 X (.Expr e pos) (sX te) (F6 FO):=⟨nU b.p hs,by intro O a l f H j D o S h q;obtain⟨⟨pv,c⟩,g,h⟩:=b5 h;cases h;exact b.t O a l f H j pv c _ S g λi m r v k d n=>q _ _ _ (k.grow d)⟩
def Lw:D9 X (.Return J pos) Uw ll:=⟨Wv,by intro O a b c H d D o S h q;cases h;exact q b c H H _ S (d9.refl H) Dt.non⟩
noncomputable def Jn:PV×Ds->Option OD
 |(.dat .none,U (.ob _ c)::_)=>U c
 |_=>J
def Mu{r:PV×Ds}{c:OD}(h:Jn r=U c):∃w d,r=(.dat .none,U (.ob w c)::d):=by
 unfold Jn at h;split at h;rename_i w a d;cases h;exact⟨w,d,rfl⟩;exact nE h
noncomputable def tP(nm:Str)(f:List PV->Option (PV×Ds))(Fl:DL):DV:=λds=>(Fl ds).bind λl=>(f (.ob J (.ins nm [])::l.map .dat)).bind λr=>(Jn r).bind λc=>U (.ob J c)
def Wb{f:Addr}{x:Str}{Fd:DL}(T:bz X.K x C)(M:Mk X.K C f)(G:W4 X.prog X.w X.K X.mg X.base CX k f fd ps (jb X.K f'))(hr:D1 (k+1) X.A)(hg:Gl X x)(hm:X.mg x=U (.ref C))(r:Binds X.K fd ps [])(hx:Passes CX X E)(ha:aY X Uf (e::es) t Fd)(hdb:autoParam ((x==("__debug__" : Str))=U') a6._auto_1)(he:autoParam (e8 (e::es) X.env=(U',eval e X.env)::e8 es X.env) d3._auto_1)(hpl:autoParam ((p5 pos (e8 es X.env)).any (·.1)=U') d3._auto_1):
  PX X Uf (.Call (.Name x p) (e::es) [] pos) (UA C (jb X.K f') [] E t) (tP x f' Fd):=⟨WE M G hr hg hm r .nil hx ha.p hdb he hpl,by
 intro O D as σ H ds pv Q S m q;obtain⟨l,P,m⟩:=b5 m;obtain⟨r0,h2,m⟩:=b5 m;obtain⟨c,h3,m⟩:=b5 m;cases m;obtain⟨w,dr,rfl⟩:=Mu h3;refine ha.t O D as σ H ds l _ S P λvs g Y r1=>λz j hz hdx hne=>?_
 have S1:=S.grow Y;have nas:∀b,U b∈as->∃u,g b=U u:=λb r=>let ⟨_,u,y⟩:=S1.new b r;⟨_,y⟩
 generalize hT:as.filterMap id=RT;have n:∀b,b∈RT↔U b∈as:=λb=>by rw[<-hT,El];simp
 have I:d9 g (upd g j (.own z)):=d9.new hdx;have B:upd g j (.own z) z=J:=by rw[w9 (λy=>hne y.symm)];exact hz
 have sz:d9 (upd g j (.own z)) (upd (upd g j (.own z)) z (.ins C j [])):=d9.new B;have nz:∀b u,g b=U u->b≠z:=λb u h y=>by rw[y,hz]at h;exact nE h
 refine⟨O++RT,upd g j (.own z),[U z],_,_,_,?_,h2,λas' Hm H' v S' s' r'=>?_⟩
 . have hl:=r1.length;refine⟨by simp[hl],sz,λa h=>?_,λa h=>?_,λk=>if k=0 then[z]else[],λk b h=>?_,λk k' b h L=>?_,λk pv h=>?_⟩
   . have:a=z:=by simpa using h
     subst this;exact⟨B,Cl.i C j [],E1⟩
   . rcases List.mem_append.mp h with h|h
     obtain⟨u,y⟩:=S1.cy a h;exact⟨u,I _ _ (S1.same _ _ y)⟩;obtain⟨u,y⟩:=nas a ((n a).mp h);exact⟨u,I _ _ y⟩
   dsimp only at h;split at h;rw[mem_singleton.mp h];exact m8;simp at h;dsimp only at h L;split at h;split at L;rename_i s F;rw[s,F];simp at L;simp at h
   . cases k with
     |zero =>
      have L:PV.ob J (OD.ins x [])=pv:=by simpa using h
      rw[<-L];exact⟨z,[z],rfl,.inl rfl,λb r=>r,C,j,[],[],rfl,T.ns,E1,.nil⟩
     |succ k =>
      simp only[m6,me,cA,C5,Ey,Function.comp,Oz]at h;obtain⟨d,h3,rfl⟩:=h;obtain⟨v,y1,V⟩:=r1.get h3;refine⟨v,by simp[y1],V.same (cR λb o s F N=>⟨λy=>?_,λy=>?_,sz _ _ (I _ _ N)⟩)⟩
      . rcases List.mem_append.mp y with y|y
        exact s y;exact F ((n b).mp y)
      . have:b=z:=by simpa using y
        exact nz b o N this
 . obtain⟨v',R,y1,_,V,y3⟩:=S'.slot 0 (.ob w c) rfl;have Z:z=v':=by simpa using y1
   subst Z;have ev:v=.non:=by cases r';rfl
   refine⟨ev,q _ H' (Y.trans ((I.trans S'.same).trans s')) ⟨z,R,rfl,.inl rfl,λb r=>?_,y3.same (cR λb o s F N=>⟨λy=>s (L3 _ y),λy=>?_,s' _ _ N⟩) λb _ o y=>s' _ _ y⟩⟩;have:=(S'.new b (V b r)).1;exact Y.free (I.free this)
   . rcases List.mem_append.mp y with y|y
     obtain⟨b',q1,q2⟩:=mem_map.mp y;cases q2;exact F (V b q1)
     . exact s (A3 _ ((n b).mpr y))⟩
end
end
section
variable{Fc:DB}{G:DO}{ds:Ds}
section
variable{X:Cx}{K':d2}{fr:Bool}{i k:Nat}{o e b:Expr}{es:List Expr}{to tb:TE}{t:TA}{F Fo Fb:DV}{Fd:DL}{nm f m:Str}{C g:Addr}{fd:B4}{ps:List Str}{pos pos' apos cpos:Pos}{CX:mn}{E:XK}{pl:Sem Bool}{fF:FV}
def Rj(a:X.K=K')(T:bz K' nm C)(n:T1 K' C f)(h:PX X fr o to F)(b:autoParam (U3 o f X.env (eval o X.env)=eval o X.env) d3._auto_1):PX X fr (.Attribute o f pos) (pI K' to f) (t5 nm f F):=by subst a;exact Wd T n h b
def Rb(a:X.K=K')(T:bz K' nm C)(n:T1 K' C f)(h:PE X o (C7 i))(b:autoParam (U3 o f X.env (eval o X.env)=eval o X.env) d3._auto_1):PX X fr (.Attribute o f pos) (pI K' (C7 i) f) (D3 nm i f):=by subst a;exact VZ T n h b
def VY(c:X.K=K')(T:bz K' nm C)(n:T1 K' C f)(h:PE X o (C7 i))(d:PX X fr b tb Fb)(a:autoParam (U3 o f X.env (eval o X.env)=eval o X.env) d3._auto_1)(hs:autoParam (iG b) oB._auto_1):PX X fr (.Subscript (.Attribute o f apos) b pos) (mw (zv K') (pI K' (C7 i) f) tb) (gD nm i f Fb):=by subst c;exact Zg T n h d a hs
def uN (j:X.K=K') (T:bz K' nm C) (h:PX X fr o to Fo) (i:Meth K' C m g) (G:W4 X.prog X.w K' X.mg X.base CX k g fd ps (t7 K' fF)) (n:D1 k X.A) (p:Binds K' fd ps []) (d:Passes CX X E) (l:aY X fr (e::es) t Fd) (b:autoParam (e8 (e::es) X.env=(U',eval e X.env)::e8 es X.env) d3._auto_1) (a:autoParam ((p5 pos (e8 es X.env)).any (·.1)=U') d3._auto_1) (c:autoParam (eval (.Call (.Attribute o m apos) (e::es) [] pos) X.env=(do
   let ov <- eval o X.env
   ba apos.atName
   let (f,first) <- holding [ov] (gN ov m pl)
   callWith pos f first (p5 pos (e8 (e::es) X.env)) (Z0 pos (bL [] X.env)))) d3._auto_1) :
  PX X fr (.Call (.Attribute o m apos) (e::es) [] pos) (kb C m (t7 K' fF) [] E to t) (J8 nm m fF Fo Fd):=by subst j;exact Wa T h i G n p d l b a c
def Lk (e:X.K=K') (T:bz K' nm C) (c:PX X fr o to Fo) (d:Meth K' C m g) (G:W4 X.prog X.w K' X.mg X.base CX k g fd ps (t7 K' fF)) (h:D1 k X.A) (i:Binds K' fd ps []) (b:Passes CX X E) (a:autoParam (eval (.Call (.Attribute o m apos) [] [] pos) X.env=(do
   let ov <- eval o X.env
   ba apos.atName
   let (f,first) <- holding [ov] (gN ov m pl)
   callWith pos f first (p5 pos (e8 [] X.env)) (Z0 pos (bL [] X.env)))) d3._auto_1) :
  PX X fr (.Call (.Attribute o m apos) [] [] pos) (kb C m (t7 K' fF) [] E to pH) (J8 nm m fF Fo d6):=by subst e;exact Rc T c d G h i b a
end
def Jl(Fc:DB)(G:DO):Ds->Nat:=λds=>open Classical in if h:∃m,∃o,C2 Fc G m ds=U o then h.choose else 0
theorem nh{Fc:DB}{G:DO}:∀{m:Nat} {ds:Ds} {o:Out},C2 Fc G m ds=U o->C2 Fc G (m+1) ds=U o
 | 0,ds,o,h=>by exact nE h
 |m+1,ds,o,h=>by
  rw[C2]at h ⊢;obtain⟨b,c,h⟩:=b5 h;rw[c];cases b with
  |false=>exact h
  |true =>
   obtain⟨r,d,h⟩:=b5 h;rw[d];cases r with
   |next a=>exact nh h
   |cont a=>exact nh h
   |brk a=>exact h
   |ret pv=>exact h
   |up x=>exact h
   |retO pv a=>exact h
def zj{o:Out}{m:Nat}(h:C2 Fc G m ds=U o)(n:Nat):C2 Fc G (m+n) ds=U o:=by
 induction n with
 |zero=>exact h
 |succ n a=>exact nh a
def JI{o:Out}{m:Nat}(h:C2 Fc G m ds=U o):jh (Jl Fc G) Fc G ds=U o:=by have a:∃m,∃o,C2 Fc G m ds=U o:=⟨m,o,h⟩;delta jh Jl;rw[dif_pos a];obtain⟨d,c⟩:=a.choose_spec;rw[c];have b:=zj h a.choose;rw[oM]at b;rw[(zj c m)]at b;exact b
def mul_list{prog:n9}{w:k7}{A:t6}{E:a9->b9->Prop}{s:b9}{l:Addr}{vs:List a9}{x:Int}{u:Tok}{Q:a9->b9->Prop}(j:s.heap.IsList l vs.toArray)(g : -(2 ^ 63:Int)<=x)(n:x<2 ^ 63)(hsz:vs.length*x.toNat<=100000)(h:Q (.ref (hz s)) {s with heap:=s.heap.push {cls:=xi "list",data:=Data.seq (o1 x.toNat vs).flatten.toArray}}):wpAny (model prog w) A (Q3 .Mult (.ref l) (.int x u)) Q E s:=by
 obtain⟨⟨e,d,b,f⟩,a,c,k,i⟩:=id j;subst c i;have:vs.toArray.size*x.toNat<=100000:=by omega
 refine wpAny_binaryOp_repeat_ref a6 ⟨_,a,rfl⟩ (λm=>typeIs_int m x u) noFill_list_mul F.fills_int_mul F.slot_int_rmul repeat_list F.slot_int_index.lookup
  (js F.slot_int_rmul (typeIs_int s x u) F.entry_int_rmul (F.args_int_rmul_2 _ _) (lm_int_rmul_list_any x u l vs.toArray k d f)
   ⟨a,rfl,⟨_,a,rfl⟩,js F.slot_list_mul ⟨_,a,rfl⟩ F.entry_list_mul (F.args_list_mul_2 _ _)
    (lm_list_mul_any l vs.toArray k d f x u (by simp[Pz];exact⟨c6,c6⟩) b6 (by simp[sL,p8];exact dS))
    ⟨a,?_⟩⟩)
 rw[listMul_foldl_if];exact h
def ID(K:d2):R2:=λx y H Q=>∃a xs j,x=.ref a/\y=.int j/\D5 K H a xs/\(-(2 ^ 62)<j/\j<2 ^ 62)/\xs.length*j.toNat<=100000/\∀p,H p=J->Q (.ref p) (upd H p (.lst (o1 j.toNat xs).flatten))
theorem Bb{xs:List V}{us:List a9}(h:Vals xs us):∀n,Vals (o1 n xs).flatten (o1 n us).flatten
 | 0=>.nil
 |n+1=>by exact h.append (Bb h n)
def WM{X:Cx}:O9 X (Q3 .Mult) (ID X.K):=by
 intro b s k H x y v u Q I g f h;obtain⟨a,n,j,rfl,rfl,i,l,c,q⟩:=h;cases g;obtain⟨t,rfl⟩:=f;obtain⟨d,r,e,m⟩:=I.list i;refine mul_list e.isList b6 b6 (by rw[<-r.length];exact c) ?_;refine⟨.ref _,_,I.a0i (Bb r _) ?_,rfl,q _ I.fresh⟩;rw[List.length_flatten,OH,List.sum_replicate_nat,sr];exact i0 c (my a6)
noncomputable def cx:a7->a7->Option PV
 | .list l,.int j=>if (0<=j/\j.toNat<=100000)/\l.length*j.toNat<=100000 then U (.own (o1 j.toNat l).flatten)else J
 |_,_=>J
theorem HQ{K:d2}{H:Hp}{xs:List V}{l:List a7}(h:m7 K H xs l):∀n,m7 K H (o1 n xs).flatten (o1 n l).flatten
 | 0=>.nil
 |n+1=>by exact h.append (HQ h n)
def XW{K:d2}:cz K (ID K) cx:=by
 intro O o H x y d e pv Q D k i c q;cases k with
 |lst h f =>
  cases i with
  |int j =>
   rename_i a n l;have b:(if (0<=j/\j.toNat<=100000)/\l.length*j.toNat<=100000 then U (PV.own (o1 j.toNat l).flatten)else J)=U pv:=c;obtain⟨m,b⟩:=v8 b;cases b;exact⟨a,n,j,rfl,rfl,l8.seq h,by omega,by rw[f.length];exact m.2,λp g=>q _ _ (d9.new g) (jc g (HQ f _))⟩
  |_=>exact nE c
 |_=>exact nE c
end
def QW(K:d2):R2:=λx y H Q=>(mD λi j=>.bl (decide (i<j))) x y H Q\/YU K x y H Q
def ZR{X:Cx}(a:X.A.units+64<G8):O9 X (V7 .Lt) (QW X.K):=IX.or (ZS b6)
noncomputable def yA(a b:a7):Option PV :=
 match a with
 | .int i=>match b with
  | .int j=>U (.dat (.bool (decide (i<j))))
  |_=>J
 | .tuple l=>match b with
  | .tuple m=>(intsOf l).bind λx=>(intsOf m).map λy=>.dat (.bool (HT.lexLt x y))
  |_=>J
 |_=>J
def a1k{K:d2}:cz K (QW K) yA:=by
 intro O p H x y d e pv Q D h i a q;cases h with
 |int=>cases i with
  |int=>cases a;exact .inl ⟨_,_,rfl,rfl,q _ H (d9.refl H) (Dt.bl _)⟩
  |_=>cases a
 |tup k n=>cases i with
  |tup b g =>
   have⟨_,u,a⟩:=Option.bind_eq_some_iff.1 a;have⟨_,v,a⟩:=Option.map_eq_some_iff.1 a;cases a;cases n.ints u;cases g.ints v;exact .inr ⟨_,_,_,_,rfl,rfl,l8.cJ k,l8.cJ b,q _ H (d9.refl H) (Dt.bl _)⟩
  |_=>cases a
 |_=>cases a
section
variable{α a:Type}
def hW(l:List α):List (Str×α):=l.map λx=>(jr,x)
def a1M(l:List a):(hW l).map (·.2)=l:=by delta hW;rw[cA];exact List.map_id l
def TAF(K:d2)(t:TA)(F:Ds->Option (List PF)):Prop :=
 ∀(O:List Addr) (i7:Hp) (as:As) (σ:St) (H:Hp) (ds:Ds) (fs:List PF) (Q:List V->Hp->Prop),DS K O i7 as σ H ds->F ds=U fs->(∀vs H' R,d9 H H'->(∀b∈R,H b=J)->F9 K (j9 H' (R.map U++as) O) H' (hW vs) (hW fs) R->Q vs H')->t σ H Q
structure PAF(X:Cx)(es:List Expr)(t:TA)(F:Ds->Option (List PF)):Prop where
 p:PA X es t
 t:TAF X.K t F
section
variable{X:Cx}{fr:Bool}{e:Expr}{es:List Expr}{te:TE}{t:TA}{F:DV}{Fl:Ds->Option (List PF)}{pos:Pos}
end
def F9.pos{K:d2}{C H:Hp}{fv:List (Str×V)}{fs:List (Str×PF)}{R:List Addr}{n:Str}{l:List a7}(t:F9 K C H fv fs R):∀{k:Nat},fs[k]? = U (n,.own l) ->
  ∃a xs,fv[k]? = U (n,.ref a)/\H a=U (.lst xs)/\a∈R/\∀{Hv' H':Hp} {m:List a7} {ys:List V},d9 C Hv'->(∀b∈R,b≠a->∀o,H b=U o->H' b=U o)->H' a=U (.lst ys)->m7 K Hv' ys m->F9 K Hv' H' fv (fs.set k (n,.own m)) R:=by
 induction t with
 |nil=>intro k h;simp at h
 | @dat y x d fv fs R F t q =>
  intro k h;cases k with
  |zero=>simp at h
  |succ k =>
   obtain⟨a,xs,u,s,f,r⟩:=q (by simpa using h);exact⟨a,xs,by simpa using u,s,f,λe c j g=>.dat (F.same e) (r e c j g)⟩
 | @own y w B E fv fs R v A i t q =>
  intro k h;cases k with
  |zero =>
   have G:(y,PF.own E)=(n,PF.own l):=by simpa using h
   cases G;exact⟨w,B,rfl,v,m8,λe c j g=>.own j g i (t.same e λb p=>c b (m5 _ p) λz=>i (z▸p))⟩
  |succ k =>
   obtain⟨a,xs,u,s,f,r⟩:=q (by simpa using h);exact⟨a,xs,by simpa using u,s,m5 _ f,λe c j g=>.own (c w m8 (λz=>i (z▸f)) _ v) (A.same e) i (r e (λb p=>c b (m5 _ p)) j g)⟩
 | @dct y w D I fv fs R v A i t q =>
  intro k h;cases k with
  |zero=>simp at h
  |succ k =>
   obtain⟨a,xs,u,s,f,r⟩:=q (by simpa using h);exact⟨a,xs,by simpa using u,s,m5 _ f,λe c j g=>.dct (c w m8 (λz=>i (z▸f)) _ v) (A.same e) i (r e (λb p=>c b (m5 _ p)) j g)⟩
section
variable{X:Cx}{o:Expr}{k:Nat}{j}{pos cpos apos ipos npos:Pos}
end
section
variable{X:Cx}{tg o e:Expr}{pos cpos apos epos:Pos}{i j:Nat}
end
end
section
variable{X:Cx}
end
section
variable{X:Cx}{K':d2}{fr:Bool}{tg b e o:Expr}{tb te:TE}{F Fb:DV}{pos:Pos}
def Wc(d:X.K=K')(i:Nat)(a:PE X o (C7 i))(c:PX X fr b tb Fb)(hs:autoParam (iG b) oB._auto_1):PX X fr (.Subscript o b pos) (mw (zv K') (C7 i) tb) (yW i Fb):=by subst d;exact Zk i a c hs
end
section
variable{K K':d2}{j H i7:Hp}{p:Pos}{Rf R as O:List Addr}{G tg a:Expr}{ds:Ds}
def F9.snoc{n:Str}{y:V}{p:PF}(h:sS K j H y p Rf){fv:List (Str×V)}{fs:List (Str×PF)}(t:F9 K j H fv fs R)(d:∀b∈Rf,b∉R):∃R',F9 K j H (fv++[(n,y)]) (fs++[(n,p)]) R'/\∀b,b∈R'↔b∈Rf\/b∈R:=by
 induction t with
 |nil=>exact⟨Rf++[],F9.cons h (λb _=>by simp) .nil,λb=>by simp⟩
 |dat q t f =>
  obtain⟨R',e,c⟩:=f d;exact⟨R',.dat q e,c⟩
 | @own o a s l fv fs R i k m t f =>
  obtain⟨R',e,c⟩:=f λb g z=>d b g (m5 _ z);refine⟨a::R',.own i k (λz=>?_) e,λb=>?_⟩
  . rcases(c a).mp z with z|z
    exact d a z m8;exact m z
  rw[Q1,Q1,c];constructor;rintro(z|z|z);exact .inr (.inl z);exact .inl z;exact .inr (.inr z);rintro(z|z|z);exact .inr (.inl z);exact .inl z;exact .inr (.inr z)
 | @dct o a r u fv fs R i k m t f =>
  obtain⟨R',e,c⟩:=f λb g z=>d b g (m5 _ z);refine⟨a::R',.dct i k (λz=>?_) e,λb=>?_⟩
  . rcases(c a).mp z with z|z
    exact d a z m8;exact m z
  rw[Q1,Q1,c];constructor;rintro(z|z|z);exact .inr (.inl z);exact .inl z;exact .inr (.inr z);rintro(z|z|z);exact .inr (.inl z);exact .inl z;exact .inr (.inr z)
noncomputable def wN(gt:a7->Option (List a7))(Fe:DV)(ds:Ds):List a7->Option (List PF)
 | []=>U []
 |x::r=>(gt x).bind λbs=>(Fe (L7 bs++ds)).bind λy=>(fe y).bind λp=>(wN gt Fe ds r).bind λl=>U (p::l)
noncomputable def lu(Fi:DL)(gt:a7->Option (List a7))(Fe:DV):DV:=λds=>(Fi ds).bind λitems=>if items.length<=1000000 then(wN gt Fe ds items).bind λl=>U (.ob J (.seq Uf (hW l)))else J
def HK{as bs:As}(h:∀b,U b∈as↔U b∈bs):j9 H as O=j9 H bs O:=by
 funext b
 delta j9
 simp_all
def Rk{X:Cx}{bs nb:List Str}{h:Expr}{scope:F8}{pos:Pos}{wi:TI}{g:TG}{te:TE}{Fi:DL}{gt:a7->Option (List a7)}{Fe:DV}(hc:X.calm=Uf)(B:hU X bs nb scope)(hi:cW X Uf tg h wi Fi)(go:hC bs.length g)(hg:∀cl C fp s H pins,PG (N9 X bs nb scope cl C fp s H pins) tg g)(V:rT X.K bs.length g gt)(he:∀cl C fp s H pins,PX (N9 X bs nb scope cl C fp s H pins) Uf G te Fe)(hs:autoParam (∀x,bO h X.env x=pure x) U0._auto_1):PX X Uf (.ListComp G [⟨tg,h,[],0⟩] scope pos) (eX bs wi g vF te) (lu Fi gt Fe):=⟨Hd hc B hi.p go hg (λ_ _ _ _ _ _=>uR) (λ_ _ _ _ _ _=>(he _ _ _ _ _ _).p) hs,by
 intro O k j σ H ds pv Q S v q;obtain⟨a,h1,v⟩:=b5 v;obtain⟨hn,v⟩:=v8 v;obtain⟨l,h2,v⟩:=b5 v;cases v;refine hi.t O k j σ H ds a _ S h1 λJff H1 P it=>?_;have S1:=S.grow P;refine⟨a.length,λi ys E=>i<=a.length/\d9 H1 E/\∃R T l2,F9 X.K (j9 E (R.map U++j) O) E (hW ys) (hW T) R/\(∀b∈R,H1 b=J)/\wN gt Fe ds (a.drop i)=U l2/\T++l2=l,my hn,⟨cY _,d9.refl _,[],[],l,.nil,λb c=>absurd c i9,h2,rfl⟩,?_⟩
 rintro i ys E ⟨hi',w,R,T,l2,d1,N,f,Y⟩;have Z:∀b∈R,∃u:Cl,E b=U u.1:=λb c=>by
  obtain⟨u,z|z,y⟩:=d1.at b c;exact⟨⟨u,.inl z⟩,y⟩;exact⟨⟨u,.inr (.inl z)⟩,y⟩
 obtain⟨S2,_⟩:=S1.adopt w 0 N Z;obtain⟨go',st',yl'⟩:=it E (l8.trans w) i;by_cases e:i<a.length
 . refine .inr ⟨go' e,e,λx n y=>?_⟩
   obtain⟨r,d,ed,dt⟩:=yl' x n y e;have dx:=dt (R.map U++j) (λb c=>⟨by
     rcases List.mem_append.mp c with z|z
     . obtain⟨b',z1,I⟩:=mem_map.mp z;cases I;delta j9;rw[N b z1];split<;>rfl
     . delta j9;rw[b3 (.inr z)],let ⟨_,z⟩:=(S2.new b c).2;⟨_,z⟩⟩) λb c=>by
    obtain⟨o,z⟩:=S.cy b c;refine⟨o,p6.mpr ⟨by simp,λI=>?_,S1.same _ _ z⟩⟩;rw[(S.new b I).1]at z;exact nE z
   have ed':a.drop i=d::a.drop (i+1):=by
    rw[pz e];have:a[i]=d:=by have z:=y4 e;rw[ed]at z;exact(L1 z).symm
    rw[this]
   rw[ed']at f;obtain⟨F,h3,f⟩:=b5 f;obtain⟨yv,h5,f⟩:=b5 f;obtain⟨p,h7,f⟩:=b5 f;obtain⟨l3,h6,f⟩:=b5 f;cases f;refine V O (R.map U++j) n x d σ F _ dx h3 λvs dv lv=>?_;have S4:=(S2.grow r).pre dv;refine((he [] 0 [] X.M6 X.i7 []).t) O k _ _ n _ yv _ S4 h5 λu M e6 r6=>?_
   obtain⟨Rf,k1,k2,k3⟩:=HG (S4.dm) r6 (.inl h7);have hh:∀W,j9 W (Rf.map U++(o1 F.length J++(R.map U++j))) O=j9 W (Rf.map U++(R.map U++j)) O:=λW=>HK λb=>by
    simp only[gT];constructor;rintro(z|z|z);exact .inl z;exact absurd z kD;exact .inr z;rintro(z|z);exact .inl z;exact .inr (.inr z)
   have k3':sS X.K (j9 M (Rf.map U++(R.map U++j)) O) M u p Rf:=by rw[<-hh];exact k3
   have dj:∀b∈Rf,b∉R:=λb c z=>by obtain⟨o,y⟩:=Z b z;have:=r _ _ y;rw[k1 b c]at this;exact nE this
   obtain⟨R',f1,f2⟩:=F9.snoc k3' (d1.same (jg (r.trans e6) λb c=>r.free (k1 b c)) λb c o z=>e6 _ _ (r _ _ z)) dj;refine⟨e,(w.trans r).trans e6,R',T++[p],l3,?_,λb c=>?_,h6,by rw[<-Y];simp⟩
   . have:j9 M (Rf.map U++(R.map U++j)) O=j9 M (R'.map U++j) O:=HK λb=>by
       have m:∀(L:List Addr),U b∈L.map U↔b∈L:=λL=>by simp
       simp only[gT,m,f2];constructor;rintro(z|z|z);exact .inl (.inl z);exact .inl (.inr z);exact .inr z;rintro((z|z)|z);exact .inl z;exact .inr (.inl z);exact .inr (.inr z)
     rw[<-this];unfold hW at f1 ⊢;rw[V9,V9];exact f1
   . rcases(f2 b).mp c with z|z
     exact w.free (r.free (k1 b z));exact N b z
 . have hi2:i=a.length:=by lia
   subst hi2;rw[Ea]at f;cases f;rw[Z9]at Y;subst Y;refine .inl ⟨st' o6,λp D=>?_⟩;refine q _ _ ((P.trans w).trans (d9.new D)) ⟨p,p::R,rfl,.inl rfl,λb c=>?_,hW ys,R,rfl,λz=>?_,by rw[a1M];exact E1,d1.same (cR λb o z1 I z3=>⟨z1,λz=>?_,d9.new D _ _ z3⟩) λb _ o z=>d9.new D _ _ z⟩
   . rcases List.mem_cons.mp c with rfl|c
     exact P.free (w.free D);exact P.free (N b c)
   obtain⟨u,y⟩:=Z p z;rw[D]at y;exact nE y
   . rcases List.mem_cons.mp z with z|z
     cases z;rw[D]at z3;exact nE z3
     . exact I z⟩
def DS.wr{as:As}{D:St}{i k:Nat}{w:Option Addr}{fs:List (Str×PF)}{n:Str}{l:List a7}(S:DS K O i7 as D H ds)(hd:ds[i]? = U (U (.ob w (.seq Uf fs))))(M:fs[k]? = U (n,.own l)):
  ∃v vs a xs,D[i]? = U (U (.ref v))/\H v=U (.lst vs)/\vs[k]? = U (.ref a)/\vs.length=fs.length/\H a=U (.lst xs)/\m7 K (j9 H as O) xs l/\∀{A:Hp} {ys:List V} {m:List a7},d9 H A->m7 K (j9 A as O) ys m->DS K O i7 as D (upd A a (.lst ys)) (ds.set i (U (.ob w (.seq Uf (fs.set k (n,.own m)))))):=by
 have c:∀{d:List (Str×V)} {a:Addr},d[k]? = U (n,.ref a)->(d.map (·.2))[k]? = U (.ref a):=λ{d a} z=>by rw[C5,z];rfl
 have L:∀{G:Hp} {d:List (Str×V)} {fs:List (Str×PF)} {R:List Addr} {k:Nat} {a:Addr} {xs:List V} {l:List a7},F9 K G H d fs R->fs[k]? = U (n,.own l)->d[k]? = U (n,.ref a)->H a=U (.lst xs)->m7 K G xs l:=by
  intro G d fs R k a xs l h;induction h generalizing k with
  |nil=>intro z;simp at z
  |dat hd t j =>
   intro e c f;cases k with
   |zero=>simp at e
   |succ k=>exact j (by simpa using e) (by simpa using c) f
  |own X s x t j =>
   intro e c f;cases k with
   |zero =>
    obtain⟨_,rfl⟩:=e;obtain⟨_,rfl⟩:=c;rw[X]at f;cases f;exact s
   |succ k=>exact j (by simpa using e) (by simpa using c) f
  |dct X s x t j =>
   intro e c f;cases k with
   |zero=>simp at e
   |succ k=>exact j (by simpa using e) (by simpa using c) f
 obtain⟨v,R,N,ew,hR,d,R',rfl,nv,s,x⟩:=S.slot i _ hd;obtain⟨a,xs,I,p2,p3,_⟩:=x.pos M;refine⟨v,d.map (·.2),a,xs,N,s,c I,by rw[o9,x.len],p2,L x M I p2,λ{A ys m} P dy=>?_⟩
 have Y:=S.grow P;obtain⟨rg,r1,r2,Q⟩:=Y.fL;obtain⟨v',R2,q,E,y,B,r,rfl,g,p,F⟩:=Q i _ hd;rw[N]at q;cases q;have T:=P _ _ s;rw[p]at T;obtain⟨C,xs',q1,q2,Z,q4⟩:=F.pos M;have ea:C=a:=by have z:=c q1;rw[HO.lst.inj (L1 T),c I]at z;cases z;rfl
 subst ea;have ne:v≠C:=λz=>g (z▸Z);exact Y.AF (u:=Cl.l ys) hd r1 r2 Q (y C (m5 _ Z)) λsm=>⟨v,v::r,N,E,y,B,r,rfl,g,by rw[w9 ne];exact p,q4 sm (λb _ nb o z=>by rw[w9 nb];exact z) E1 (dy.same sm)⟩
noncomputable def yr(i:Nat)(k:Int)(ds:Ds):Option (Option Addr×List (Str×PF)×Str×Nat×List a7):=match ds[i]? with
 |some (U (.ob w (.seq Uf fs)))=>(gy fs.length k).bind λr=>match fs[r]? with
  |some (n,.own l)=>U (w,fs,n,r,l)
  |_=>J
 |_=>J
def Sf{i r:Nat}{k:Int}{w:Option Addr}{fs:List (Str×PF)}{n:Str}{l:List a7}(h:yr i k ds=U (w,fs,n,r,l)):ds[i]? = U (U (.ob w (.seq Uf fs)))/\gy fs.length k=U r/\fs[r]? = U (n,.own l):=by
 unfold yr at h;split at h;rename_i f c b;obtain⟨g,d,h⟩:=b5 h;split at h;rename_i e j a;cases h;exact⟨b,d,a⟩;exact nE h;exact nE h
noncomputable def wB(i:Nat)(Fr Fk Fv:DV):DO:=λds=>(Fv ds).bind λpv=>(Fr ds).bind λr=>(Fk ds).bind λk=>match r.d,k.d with
 | .int r,.int k=>(yr i r ds).bind λx=>(gy x.2.2.2.2.length k).bind λj=>U (.next (ds.set i (U (.ob x.1 (.seq Uf (x.2.1.set x.2.2.2.1 (x.2.2.1,.own (x.2.2.2.2.set j pv.d))))))))
 |_,_=>J
section
variable{X:Cx}{o e r k:Expr}{te tr tk:TE}{Fr Fk F:DV}{pos ipos opos:Pos}{i:Nat}
def Rq (ho:PE X o (C7 i)) (E:PX X Uf r tr Fr) (M:PX X Uf k tk Fk) (L:PX X Uf e te F) (hx:autoParam (iG r) oB._auto_1) (ha:autoParam (∀v,assign (.Subscript (.Subscript o r opos) k ipos) X.env v=(do
   let f <- holding [v] (eval (.Subscript o r opos) X.env)
   let iv <- holding [v,f] (eval k X.env)
   ba ipos
   holding [v,f,iv] (setItem f iv v)
   release [v,f,iv] [])) U0._auto_1)
  (hs:autoParam (xu [.Subscript (.Subscript o r opos) k ipos] e pos.line X.env=pure U') d3._auto_1) (N:autoParam (xt [.Subscript (.Subscript o r opos) k ipos] e X.env=pure J) d3._auto_1)
  (h1:autoParam ((gP [.Subscript (.Subscript o r opos) k ipos] X.env).map (·.2)=[assign (.Subscript (.Subscript o r opos) k ipos) X.env]) d3._auto_1) :
  D9 X (.Assign [.Subscript (.Subscript o r opos) k ipos] e pos) (gj te (JJ (mw (zv X.K) (C7 i) tr) tk AJ)) (wB i Fr Fk F):=⟨BC L.p (BH (AL wj ho E.p hx) M.p set_list ha) hs N h1,by
 intro O c s h H B D q0 S b q;obtain⟨pv,e1,b⟩:=b5 b;obtain⟨rv,Q,b⟩:=b5 b;obtain⟨kv,e3,b⟩:=b5 b;split at b;rename_i rr kk z u;obtain⟨⟨w,fs,n,r',l⟩,Y,b⟩:=b5 b;obtain⟨j,e5,b⟩:=b5 b;cases b;obtain⟨hd,A,x⟩:=Sf Y;refine L.t O c s h H B pv _ S e1 λv T R r1=>?_;have g:=S.grow R;obtain⟨f,P,a,W,z1,z2,z3,V,z5,I,wr⟩:=g.wr hd x;refine⟨_,z1,?_⟩;refine E.t O c s h T B rv _ g Q λy H2 d r2=>?_;have C:=r2.dt g.dm;rw[z]at C;cases C;refine .inl ⟨f,P,rr,.ref a,rfl,rfl,D5.of (d _ _ z2),by delta R7;rw[V,A];exact z3,?_⟩;refine M.t O c s h H2 B kv _ (g.grow d) e3 λy' H3 m Z=>?_;have G:=Z.dt (g.grow d).dm;rw[u]at G;cases G;refine⟨a,W,kk,j,rfl,rfl,m _ _ (d _ _ z5),by rw[I.length];exact e5,q s h _ ?_⟩;exact wr (d.trans m) ((I.same (G6 (d.trans m))).set j ((r1.grow (d.trans m)).dt S.dm))
 . exact nE b⟩
end
def uc{h:Heap}{vs:List a9}{l:List a7}{m:Nat}{d:a7}(k:ReadsAll h vs l as)(e:l[m]? = U d):∃v bs,vs[m]? = U v/\Reads h v d bs:=by
 induction l generalizing vs as m with
 |nil=>exact nE e
 |cons _ _ i=>cases k with
  |cons r t=>cases m with
   |zero=>cases e;exact⟨_,_,rfl,r⟩
   |succ m=>exact(i (m:=m) t e :)
def GU(K:d2):V->List V->Hp->VK->Prop:=λx vs H Q=>∃(p:Addr) (xs:List V) (l:List a7) (y:V) (d:a7) (j:Nat),x=.ref p/\vs=[y]/\D5 K H p xs/\m7 K H xs l/\Dt K H y d/\bN l=Uf/\d.canLay0=Uf/\d.depth<=10/\l.length<=1000000/\(l.findIdx? λe=>N6 e d)=U j/\Q (.int j) H
def wU{l:List a7}(h:bN l=Uf):∀{m:Nat} {e:a7},l[m]? = U e->e.canLay0=Uf:=by
 induction l with
 |nil=>intro m e z;simp at z
 |cons x l a =>
  rw[bN,pa]at h;intro m e z;cases m with
  |zero=>simp at z;rw[<-z];exact h.1
  |succ m=>exact a h.2 (by simpa using z)
def Ms{X:Cx}(hu:X.A.units+64<G8):NZ X "list.index" (GU X.K):=by
 intro L s σ H x vs v us Q I rx rv h;obtain⟨p,xs,l,y,d,j,rfl,rfl,hq,D,hy,z,C,c3,hz,R,q⟩:=h;cases rx;obtain⟨u,rfl,ru⟩:=vals1 rv;obtain⟨b,N,S,_⟩:=I.list hq;obtain⟨as,M⟩:=I.readsAll D N z;obtain⟨bs,rb⟩:=I.reads hy ru C;obtain⟨⟨cls,P,G,sl⟩,O,V,n,hd⟩:=id S.isList;subst V hd;have g:b.length=l.length:=by rw[<-N.length,D.length]
 obtain⟨W,h2,h3⟩:=List.findIdx?_eq_some_iff_getElem.mp R
 classical
 let e:=λv=>decide (∃a o,Reads s.heap v a o/\a.canLay0=Uf/\N6 a d=Uf)
 have w:∀(m:Nat) f,e b[m]=N6 (l[m]'b6) d:=λm f=>by
  have c:m<l.length:=by lia
  have B:=y4 c;obtain⟨Y,o,i,k⟩:=uc M B;rw[y4 f]at i;cases i;cases hb:N6 l[m] d with
  |true=>exact dg ⟨_,_,k,(wU z B),hb⟩
  |false =>
   refine U4 λ⟨a,T,Z,z4,E⟩=>?_;rw[(Z.unique _ _ k).1,hb]at E;exact nT E
 refine js xV ⟨_,O,rfl⟩ Pq (Pw _ _)
  (Pp p b.toArray n P sl u e j (by simpa [g]using W) b6 ?_ ?_) ⟨O,λy' t=>?_,?_⟩
 show e b[j]=Uf;rw[w];exact h2;intro m f r;show e b[m]=U';rw[w m (by omega)];simpa using h3 m r
 . obtain⟨m,f,rfl⟩:=List.getElem_of_mem (by simpa using t)
   have c:m<l.length:=by lia
   obtain⟨Y,o,i,k⟩:=uc M (y4 c);rw[y4 f]at i;cases i;rw[w m f];exact SeqAt.eqAt_reads _ _ _ _ _ _ _ _ k rb (wU z (y4 c)) C (by lia)
 exact⟨.int _,H,I.tok _,⟨_,rfl⟩,q⟩
noncomputable def tJ:a7->FV
 | .list l,[d]=>if bN l=Uf/\d.canLay0=Uf/\d.depth<=10/\l.length<=1000000 then(l.findIdx? λe=>N6 e d).bind λj=>U (.dat (.int (j:Nat)))else J
 |_,_=>J
def Itv(K:d2)(a:Addr)(n:Nat):It :=
 ⟨λi H=>∃xs,D5 K H a xs/\xs.length=n/\i<n,λi H x H'=>H'=H/\∀xs,D5 K H a xs->xs.length=n->xs[n-1-i]? = U x,λi _=>n<=i⟩
def Qm{P:n9}{w:k7}(a it:Addr)(n:Nat):Turn P w K tg (Itv K a n) [it] it (λi h=>h.IsRevIter it a (((n-i:Nat):Int)-1)) where
 mem:=o8
 obj:=λi h f b j=>by
  have e:b=it:=by simpa using j
  subst e;obtain⟨o,e,c,d⟩:=f;exact⟨o,e,λv z=>by simp_all⟩
 keep:=λi h r f k=>f.at λo e=>k it o8 o e
 item:=by
  intro X N F L G i g s O H E I q f x;subst N F L;obtain⟨M,hq,hn,hi⟩:=x;obtain⟨its,Z,p,hz⟩:=I.list hq;have Q:M[n-1-i]? = U (M[n-1-i]'b6):=y4 _;obtain⟨u,R,Y⟩:=Z.get Q;obtain⟨C,y,f2,B,A,D⟩:=q it o8;have l:s.heap.IsRevIter it a ((n-1-i:Nat)):=by rw[show((n-1-i:Nat):Int)=((n-i:Nat))-1 by lia];exact f
  refine wpAny_pyNext_rev_item l p.isList (by simpa using R) λr m S=>?_;have V:Inv X g O H {s with heap:=r}:=I.turned (λb o j e=>(S.2 b j).trans e) C y B A D
  have t:r.IsRevIter it a (((n-(i+1):Nat))-1):=by rw[show n-(i+1)=n-1-i by lia];exact m
  obtain⟨o,e,c,d⟩:=id m;exact⟨u,rfl,AM e c d a6 ⟨_,H,V,Y,⟨rfl,λys hy _=>by rw[I.uX hy hq];exact Q⟩,t,λb j=>(q b j).1⟩⟩
 done:=by
  intro X N F L G i g s O H E I q f x;have:n<=i:=x;obtain⟨C,y,f2,B,A,D⟩:=q it o8;have l:s.heap.IsRevIter it a (-1):=by rw[show(-1:Int)=((n-i:Nat))-1 by simp[*]];exact f
  exact wpAny_pyNext_rev_end (I.ok.hd G) l λr T=>⟨rfl,I.turned (λb o j e=>T b o j e) C y B A D⟩
 self:=λ_ _ _ _ _ f h=>OR f h
def a0x(K:d2)(ta:TA):TI:=λσ H R=>ta σ H λvs H1=>∃a xs,vs=[.ref a]/\D5 K H1 a xs/\R (Itv K a xs.length) H1
def Zy{X:Cx}{x:Expr}{g:TA}{pos:Pos}(t:Gl X "reversed")(m:X.mg "reversed" = J)(n:PA X [a] g)(hs:autoParam (e8 [a] X.env=[(U',eval a X.env)]) d3._auto_1):PI X x (.Call (.Name "reversed" p) [a] [] pos) (a0x X.K g):=by
 intro c s u H R I h;refine Call_ (cP I t m Py (iN (t9 (n pos c s u H _ I h) λB f ⟨C,k,d,j,z⟩=>?_) hs rfl))
 obtain⟨b,l,e,hq,q⟩:=z;subst e;cases j with
 |cons r A =>
  cases A;cases r;obtain⟨y,v,w,D⟩:=d.list hq;refine call_reversed_list w.isList (OR ⟨_,J4 _ rfl,rfl,rfl⟩ ?_);refine⟨f.heap.objs.size,[f.heap.objs.size],_,_,k,rfl,d.kept λb o e=>s9 _ e,Qm b _ l.length,⟨_,J4 _ rfl,rfl,?_⟩,λb i=>?_,q⟩;simp[revObj,v.length]
  . have e:b=f.heap.objs.size:=by simpa using i
    subst e;exact d.yU o6 (d.x5.fresh o6)
noncomputable def uM:List a7->Option (List a7)
 | [.list l]=>U l.reverse
 |_=>J
def WB{X:Cx}{fr:Bool}{P:Expr}{o:TA}{n:DL}{pos:Pos}(M:X.K=K')(G:Gl X "reversed")(F:X.mg "reversed" = J)(m:aY X fr [a] o n)(hs:autoParam (e8 [a] X.env=[(U',eval a X.env)]) d3._auto_1):cW X fr P (.Call (.Name "reversed" p) [a] [] pos) (a0x K' o) (t2 uM n):=by
 subst M;refine⟨Zy G F m.p hs,?_⟩;intro O f A L H E j R S c q;obtain⟨l,C,c⟩:=b5 c;refine m.t O f A L H E l _ S C λZ D T z=>?_;unfold uM at c;split at c
 . rename_i l';cases c;cases z with
   |cons r V =>
    cases V;cases r with
    |lst g s =>
     rename_i b h;have Q:=s.length;refine⟨b,h,rfl,l8.seq g,q _ D T λY u i=>?_⟩;have e:=u.seq (tK.seq g);rw[kq];refine⟨λk=>⟨h,e,rfl,by simp[*]⟩,λk=>by show h.length<=i;simp[*],λx N y k=>?_⟩;obtain⟨B,y⟩:=y;subst B;obtain⟨d,I,w⟩:=s.get' (y h e rfl);refine⟨d9.refl _,d,?_,λvb v _=>oh w u (d9.refl _) v⟩;rw[Es k,<-Q];exact I
 exact nE c
end
section
variable{a z T i1 i2 p:Addr}{Q:Option a9->b9->Prop}{e K k:Bool}{r j g:Nat}{xs ys:Array a9}{y:a9}
abbrev di(h:Heap)(z TI TO:Addr)(f0:a9)(f1:Bool):Prop :=
 h.get? z=U {cls:=.type "zip",dict:=J,data:=.fields #[f0,.bool f1,.bool U',.ref TI,.ref TO],slots:=#[]}
section
variable{prog:n9}{w:k7}{A:t6}{E:a9->b9->Prop}{s:b9}
def Qb{M:Model}{Q:Option Obj->b9->Prop}(h:Q (s.heap.get? a) s):wpAny M A (loadIfAlive a) Q E s:=λ_ _ _=>h
def vU{TI TO:Addr}{Q:Bool->b9->Prop}(hz:di s.heap z TI TO (G9 T) e)(b:∃o,s.heap.get? T=U o)(d:∀h',di h' z TI TO (G9 T) Uf->jv z s.heap h'->Q U' {s with heap:=h'}):wpAny (model prog w) A (Builtin.SmallTypes.ownedTupleIsFree (.ref z)) Q E s:=by
 obtain⟨o,b⟩:=b;refine c5 (F7 hz rfl rfl ?_);show wpAny _ _ (loadIfAlive T >>= _) _ _ _
 refine c5 (Qb ?_);rw[b];refine c5 (F7 hz rfl rfl ?_);cases e with
 |true=>exact i5 (d _ hz (Heap.SameBut.refl ..))
 |false=>exact c5 (lV hz o8 λh' a c=>i5 (d h' a c))
def Ki {TI TO m l:Addr} {k2:Nat} {x:a9} {Q:a9->b9->Prop} (D:eM z TI TO i1 i2 m l) (hz:di s.heap z TI TO (G9 T) K) (P:∃o,s.heap.get? T=U o) (n:L8 s.heap TI (.ref i1) (.ref i2)) (M:s.heap.IsListIter i1 m r) (I:s.heap.IsListIter i2 l k2) (p:s.heap.IsList m xs) (B:s.heap.IsList l ys) (L:xs[r]? = U x) (O:ys[k2]? = U y) (H:∀h',di h' z TI TO (G9 T) Uf->h'.IsListIter i1 m (r + 1)->h'.IsListIter i2 l (k2 + 1)->L8 h' s.heap.objs.size x y->h'.objs.size=s.heap.objs.size + 1 ->
   (∀c o,c≠z->c≠i1->c≠i2->s.heap.get? c=U o->h'.get? c=U o)->Q (.ref s.heap.objs.size) {s with heap:=h'}) :
  wpAny (model prog w) A (Builtin.«zip.__next__» ⟨[.ref z],[]⟩) (λu s'=>∃v,u=.done (.ret v)/\Q v s') E s:=by
 show wpAny _ _ (field (.ref z) 2 >>= _) _ _ _;refine c5 (F7 hz rfl rfl ?_);refine c5 (F7 hz rfl rfl ?_);refine c5 (fg n rfl ?_);refine c5 (vU hz P λG i a=>?_);refine c5 ?_;refine c5 (c5 (da ?_));refine c5 (Ez (M.extBut a.extBut D.i1z) (p.extBut a.extBut D.l1z) L λF j b=>i5 ?_);refine i5 ?_;refine c5 (c5 (da ?_));refine c5 (Ez ((I.extBut a.extBut D.i2z).extBut b.extBut D.i12.symm) ((B.extBut a.extBut D.l2z).extBut b.extBut D.l2i1) O λf h d=>i5 ?_);refine i5 (i5 ?_);show wpAny _ _ (newTuple [x,y] >>= _) _ _ _
 refine c5 (wpAny_newTuple (i5 ⟨_,rfl,?_⟩));have g:f.objs.size=s.heap.objs.size:=by rw[d.1,b.1,a.1]
 have N:∀c o,c≠z->c≠i1->c≠i2->s.heap.get? c=U o->f.get? c=U o:=λc o C t q e=>d.extBut _ _ q (b.extBut _ _ t (a.extBut _ _ C e));have k:L8 (f.push {cls:=.type "tuple",data:=.seq #[x,y]}) f.objs.size x y:=J4 _ rfl;rw[g]at k;rw[g];exact H _ (s9 _ (d.extBut _ _ D.i2z.symm (b.extBut _ _ D.i1z.symm i))) ((j.extBut d.extBut D.i12).at λo e=>s9 _ e) (h.at λo e=>s9 _ e) k (by rw[fh,g]) λc o C t q e=>s9 _ (N c o C t q e)
def EM{TI TO i:Addr}{l:Bool}{Q:Fin->b9->Prop}(u:A.handled=J)(D:eM z TI TO i1 i2 i p)(hz:di s.heap z TI TO (G9 T) l)(q:∃o,s.heap.get? T=U o)(f:L8 s.heap TI (.ref i1) (.ref i2))(r:s.heap.IsListIter i1 i j)(h:s.heap.IsList i xs)(m:xs[j]? = J)(t:∀h' e,(∀c o,c≠z->c≠i1->s.heap.get? c=U o->h'.get? c=U o)->(∃o,h'.get? e=U o/\o.cls=.type "StopIteration")->E (.ref e) {s with heap:=h'}):
  wpAny (model prog w) A (Builtin.«zip.__next__» ⟨[.ref z],[]⟩) Q E s:=by
 show wpAny _ _ (field (.ref z) 2 >>= _) _ _ _;refine c5 (F7 hz rfl rfl ?_);refine c5 (F7 hz rfl rfl ?_);refine c5 (fg f rfl ?_);refine c5 (vU hz q λk g a=>?_);refine c5 ?_;refine c5 (c5 (da ?_));refine c5 (Pa u (r.extBut a.extBut D.i1z) (h.extBut a.extBut D.l1z) m λd e b v=>?_);exact t d e (λc o y n x=>b _ _ n (a.extBut _ _ y x)) v
def Jj {TI TO d b:Addr} {k2:Nat} {x:a9} (D:eM z TI TO i1 i2 d b) (hz:di s.heap z TI TO (G9 T) k) (v:∃o,s.heap.get? T=U o) (e:L8 s.heap TI (.ref i1) (.ref i2)) (n:s.heap.IsListIter i1 d g) (j:s.heap.IsListIter i2 b k2) (f:s.heap.IsList d xs) (h:s.heap.IsList b ys) (l:xs[g]? = U x) (u:ys[k2]? = U y) (i:∀h',di h' z TI TO (G9 T) Uf->h'.IsListIter i1 d (g + 1)->h'.IsListIter i2 b (k2 + 1)->L8 h' s.heap.objs.size x y->h'.objs.size=s.heap.objs.size + 1 ->
   (∀c o,c≠z->c≠i1->c≠i2->s.heap.get? c=U o->h'.get? c=U o)->Q (U (.ref s.heap.objs.size)) {s with heap:=h'}):wpAny (model prog w) A (gK (.ref z)) Q E s:=by
 have a:s.TypeIs (.ref z) "zip":=⟨_,hz,rfl⟩;exact c5 (gR (gI a jy
  (dN jy a xH
   (Ki D hz v e n j f h l u λh' t m q B p r=>i5 (i h' t m q B p r)) (xK _))))
def BU{TI TO f n:Addr}{l:Bool}(r:A.handled=J)(D:eM z TI TO i1 i2 f n)(hz:di s.heap z TI TO (G9 T) l)(p:∃o,s.heap.get? T=U o)(b:L8 s.heap TI (.ref i1) (.ref i2))(q:s.heap.IsListIter i1 f g)(d:s.heap.IsList f xs)(m:xs[g]? = J)(j:∀h',(∀c o,c≠z->c≠i1->s.heap.get? c=U o->h'.get? c=U o)->Q J {s with heap:=h'}):wpAny (model prog w) A (gK (.ref z)) Q E s:=by
 have a:s.TypeIs (.ref z) "zip":=⟨_,hz,rfl⟩;refine c5 (gR (gI a jy
  (dN jy a xH (EM r D hz p b q d m λh' e i t=>?_) (xK _))))
 obtain⟨o,k,h⟩:=t;refine c5 (oZ ⟨o,k,h⟩ xy ?_);exact i5 (j _ i)
end
end
def uD:lE (.type "zip") "__getattr__" = pure J:=by rw[jx,mV];kernel_rfl
def PU:lE (.type "zip") "keys" = pure J:=by rw[jx,mV];kernel_rfl
def CH:rX table "zip.__getattribute__" = U Builtin.«object.__getattribute__» :=
 entryFor_alias (id':="object.__getattribute__") (by kernel_rfl) i6 i6 (by kernel_rfl)
def SN(z TI TO:Addr)(h:a9)(f:Bool)(name:Str)(u:Tok)(c:lE (.type "zip") name=pure J)(a:(["__module__","__name__","__qualname__","__doc__","__annotations__"]:List Str).contains name=U')(hsz:name.length+100<=p8:=by size_fits):
  Meets (Builtin.«object.__getattribute__» ⟨[.ref z,.str name u],[]⟩) (λA R s=>di s.heap z TI TO h f/\raisesAttr (.ref z) name A R s) :=
 Meets.of_wp λe w A R s b=>by
  obtain⟨j,g,d,i,l⟩:=s;obtain⟨k,b⟩:=b;repeat (any_goals (first|assumption|wp_step))
  simp only[a];repeat (any_goals (first|assumption|wp_step))
  exact wpAny_raiseAttrError b.1 b.2 (attrMsg_fits i6 hsz)
section
variable{prog:n9}{w:k7}{A:t6}{E:a9->b9->Prop}{s:b9}
def EL{z TI TO:Addr}{k:a9}{m:Bool}{Q:Option a9->b9->Prop}(j:di s.heap z TI TO k m)(l:A.handled=J)(h:∀h' f,(∀b o,s.heap.get? b=U o->h'.get? b=U o)->Q J {s with heap:=h',toks:=f}):wpAny (model prog w) A (getAttr? (.ref z) "keys") Q E s:=by
 obtain⟨n,g,d,f,p⟩:=s;have i:∀c,(⟨n,g,d,c,p⟩:b9).TypeIs (.ref z) "zip":=λ_=>⟨_,j,rfl⟩
 have:=sub_AttributeError;have:=F.slot_zip_getattribute.lookup;have:=F.slot_zip_getattribute.bind (.ref z);have:=uD;repeat (any_goals (first|assumption|exact i _|((with_reducible show wpAny _ _ (call (Value.builtin "zip.__getattribute__") _ _) _ _ _);refine js F.slot_zip_getattribute (i _) CH (F.args_zip_getattribute_2 _ _) (SN z TI TO k _ "keys" _ PU i6) ⟨j,l,λh' c e a=>?_⟩)|wp_step))
 obtain⟨q,t,r⟩:=a.there;show wpAny _ _ (getattributeRaised _ _ _ _ _ _ _) _ _ _
 repeat (any_goals (first|assumption|wp_step))
 exact h _ _ a.keeps
end
section
variable{T z i1 i2 l1 l2 q:Addr}{res a:a9}{G h0:Heap}{R:Result->b9->Prop}
def ip:plainId "dict.update.loop" = Uf:=by decide +kernel
def iz:rX table "dict.update.loop" = U Builtin.«dict.update.loop»:=entryFor_of_fast (by kernel_rfl)
section
variable{prog:n9}{w:k7}{A:t6}{E:a9->b9->Prop}{s:b9}{κ:Type}[DecidableEq κ]{knd:HeapKind prog w κ}
def qY{X:List (κ×Addr×a9)}(d:(X.map (·.1)).Nodup){j:Nat}{x:κ×Addr×a9}(b:X[j]? = U x):storedH (X.take j) x.1 x.2.1 x.2.2=X.take (j+1):=by
 have e:atKey (X.take j) x.1=J:=atKey_none_of_get λi p a=>by
  rw[List.getElem?_take]at a;obtain⟨f,a⟩:=v8 a;have:=idxH_unique d a b
  simp_all
 rw[storedH_new e];obtain⟨c,rfl⟩:=List.getElem?_eq_some_iff.mp b;rw[List.take_succ,y4 c];rfl
def Be{d:Addr}{x:κ×Addr×a9}{a:List (κ×Addr×a9)}{i:Int}{Q:Fin->b9->Prop}(j:knd.room A)(f:L8 s.heap T (.ref x.2.1) x.2.2)(m:knd.is s.heap x.1 x.2.1)(hd:s.heap.DictOfH knd d a)(hsz:a.length<=p8)(g:∀h' h,h'.DictOfH knd d (storedH a x.1 x.2.1 x.2.2)->jv d s.heap h'->Q (.again (.builtin "dict.update.loop" ⟨[.ref d,.ref z,G9 (i+1),res],[]⟩)) {s with heap:=h',toks:=h}):
  wpAny (model prog w) A (holding [.ref T] (do
   let pair <- (Builtin.Dict.pairItems (.ref T)).tryCatch λe=>do
    if !(<- isInstance e (.type "TypeError"))then throw e
    rule "dict.update.element-no-sequence"
    raiseError "TypeError" s!"cannot convert dictionary update sequence element #{i} to a sequence"
   match pair with
   | [k,v]=>holding [k,v] (dictSet d k v)
   |l =>
    rule "dict.update.element-length"
    raiseError "ValueError" s!"dictionary update sequence element #{i} has length {l.length}; 2 is required") >>= λ_=>again (.builtin "dict.update.loop" ⟨[.ref d,.ref z,G9 (i+1),res],[]⟩)) Q E s:=by refine c5 (da (c5 (wpAny_tryCatch ?_)));refine c5 (oP ⟨_,f,rfl⟩ ?_);refine c5 (fg f rfl (i5 ?_));refine da (wpAny_dictSet_heap j m hd λh' b c=>i5 (g h' _ b c))
structure Zs(knd:HeapKind prog w κ)(h0:Heap)(X:List (κ×Addr×a9))(z TI TO i1 i2 l1 l2 d:Addr):Prop where
 D:eM z TI TO i1 i2 l1 l2
 dz:d≠z
 HV:d≠i1
 NF:d≠i2
 dTI:d≠TI
 dTO:d≠TO
 pTI:L8 h0 TI (.ref i1) (.ref i2)
 pl1:h0.IsList l1 (X.map λx=>V3 x.2.1).toArray
 pl2:h0.IsList l2 (X.map λx=>x.2.2).toArray
 key:∀x∈X,∃o,h0.get? x.2.1=U o/\∀h:Heap,h.get? x.2.1=U o->knd.is h x.1 x.2.1
 ka:∀x∈X,x.2.1≠z/\x.2.1≠TO/\x.2.1≠i1/\x.2.1≠i2/\x.2.1≠d
 l1d:l1≠d
 l2d:l2≠d
 nd:(X.map (·.1)).Nodup
 sz:X.length<=p8
def Kp(z TO i1 i2 d:Addr)(h h':Heap):Prop:=∀c o,c≠z->c≠TO->c≠i1->c≠i2->c≠d->h.get? c=U o->h'.get? c=U o
def Qh{X:List (κ×Addr×a9)}{TI TO d:Addr}(hu:knd.room A.in1)(hh:A.in1.handled=J)(Z:Zs knd G X z TI TO i1 i2 l1 l2 d):
  ∀(k j:Nat) (s:b9) (i:Int) (T:Addr) (f1:Bool),X.length-j=k->j<=X.length->Kp z TO i1 i2 d G s.heap->di s.heap z TI TO (G9 T) f1->(∃o,s.heap.get? T=U o)->T≠z/\T≠i1/\T≠i2/\T≠d->d<(hz s) ->
   s.heap.IsListIter i1 l1 j->s.heap.IsListIter i2 l2 j->s.heap.DictOfH knd d (X.take j) ->
   (∀h' tk,h'.DictOfH knd d X->Kp z TO i1 i2 d s.heap h'->R (.ok (.ret res)) {s with heap:=h',toks:=tk}) ->
   codeAny (model prog w) A (.builtin "dict.update.loop" ⟨[.ref d,.ref z,G9 i,res],[]⟩) R s:=by
 have F:∀{h:Heap},Kp z TO i1 i2 d G h->L8 h TI (.ref i1) (.ref i2):=λk=>k _ _ Z.D.TIz Z.D.TITO Z.D.TIi1 Z.D.TIi2 Z.dTI.symm Z.pTI;have I:∀{h:Heap},Kp z TO i1 i2 d G h->h.IsList l1 (X.map λx=>V3 x.2.1).toArray:=λk=>Z.pl1.at λo e=>k _ _ Z.D.l1z Z.D.l1TO Z.D.l1i1 Z.D.l1i2 Z.l1d e;have kl2:∀{h:Heap},Kp z TO i1 i2 d G h->h.IsList l2 (X.map λx=>x.2.2).toArray:=λk=>Z.pl2.at λo e=>k _ _ Z.D.l2z Z.D.l2TO Z.D.l2i1 Z.D.l2i2 Z.l2d e
 intro k;induction k with
 |zero =>
  intro j s i T f1 hk hj t hz B b N h1 h2 hd hR;have e:j=X.length:=by lia
  subst e;refine xC iz ?_;refine c5 (BU hh Z.D hz B (F t) h1 (I t) i9 λh' q=>?_);refine c5 (i5 (i5 (hR h' s.toks ?_ λc o m C l r p e=>q c o m l e)));rw[DZ]at hd;obtain⟨o,es,ep,e1,e2,e3,e4,e5,e6⟩:=hd;exact⟨o,es,ep,q _ _ Z.dz Z.HV e1,e2,e3,e4,λx g=>by obtain⟨o',H,q2⟩:=Z.key x g;obtain⟨n,u,E,L,O⟩:=Z.ka x g;exact q2 _ (q _ _ n E (t _ _ n u E L O H)),e6⟩
 |succ k ih =>
  intro j s i T f1 hk hj t hz B b N h1 h2 hd hR;have f:j<X.length:=by lia
  have g:=y4 f;refine xC iz ?_;refine c5 (Jj Z.D hz B (F t) h1 h2 (I t) (kl2 t) (x:=.ref X[j].2.1) (y:=X[j].2.2) (by simp[f]) (by simp[f]) λh1' z1 b1 b2 p1 mz q=>?_);have K:=oY f;have v:=λc o m C l r p e=>q c o m l r (t c o m C l r p e)
  have hd1:h1'.DictOfH knd d (X.take j):=by
   obtain⟨o,es,ep,e1,e2,e3,e4,e5,e6⟩:=hd;exact⟨o,es,ep,q _ _ Z.dz Z.HV Z.NF e1,e2,e3,e4,λx g=>by have g:=OQ g;obtain⟨o',H,q2⟩:=Z.key x g;obtain⟨n,u,E,L,O⟩:=Z.ka x g;exact q2 _ (v _ _ n u E L O H),e6⟩
  refine Be hu p1 ?_ hd1 (by rw[pd];have:=Z.sz;lia) λh2' tk M a=>?_;obtain⟨o',H,q2⟩:=Z.key _ K;obtain⟨n,u,E,L,O⟩:=Z.ka _ K;exact q2 _ (v _ _ n u E L O H);rw[qY Z.nd g]at M;refine⟨oQ ip _,ih (j+1) _ (i+1) T Uf b6 f ?_ ?_ ?_ b ?_ ?_ ?_ M λh' tk' n u=>hR h' tk' n ?_⟩;exact λc o m C l r p e=>a.extBut _ _ p (v c o m C l r p e);exact a.extBut _ _ Z.dz.symm z1;obtain⟨o,B⟩:=B;exact⟨o,a.extBut _ _ b.2.2.2 (q _ _ b.1 b.2.1 b.2.2.1 B)⟩;show d<h2'.objs.size;rw[a.1,mz];exact sG N;exact b1.extBut a.extBut Z.HV.symm;exact b2.extBut a.extBut Z.NF.symm;exact λc o m C l r p e=>u c o m C l r p (a.extBut _ _ p (q c o m l r e))
def Kq{X:List (κ×Addr×a9)}{TI TO d:Addr}{b:a9}(hu:knd.room A.in1)(hh:A.in1.handled=J)(Z:Zs knd h0 X z TI TO i1 i2 l1 l2 d)(F:Kp z TO i1 i2 d h0 s.heap)(hz:IsZip s.heap z TI TO .none)(E:L8 s.heap TO a b)(L:s.heap.IsListIter i1 l1 0)(h2:s.heap.IsListIter i2 l2 0)(hd:s.heap.DictOfH knd d [])(hR:∀h' tk,h'.DictOfH knd d X->Kp z TO i1 i2 d s.heap h'->R (.ok (.ret res)) {s with heap:=h',toks:=tk}):
  codeAny (model prog w) A (.builtin "dict.update.loop" ⟨[.ref d,.ref z,G9 0,res],[]⟩) R s:=by
 have B:=F _ _ Z.D.TIz Z.D.TITO Z.D.TIi1 Z.D.TIi2 Z.dTI.symm Z.pTI;have p:=Z.pl1.at λo e=>F _ _ Z.D.l1z Z.D.l1TO Z.D.l1i1 Z.D.l1i2 Z.l1d e;have C:=Z.pl2.at λo e=>F _ _ Z.D.l2z Z.D.l2TO Z.D.l2i1 Z.D.l2i2 Z.l2d e
 have m:d<s.heap.objs.size:=by obtain⟨o,_,_,e,_⟩:=hd;exact q5 e
 refine xC iz ?_;by_cases hX:X=[];subst hX;refine c5 (wpAny_pyNext_zip_end hh Z.D hz B E L h2 p C (.inl rfl) λh' n=>?_);refine c5 (i5 (i5 (hR h' s.toks ?_ λc o k h i j l e=>n c o k h i j e)));obtain⟨o,M,ep,e1,e2,e3,I,e5,e6⟩:=hd;exact⟨o,M,ep,n _ _ Z.dz Z.dTO Z.HV Z.NF e1,e2,e3,I,λx q=>by simp at q,e6⟩
 . have g:=List.length_pos_iff.mpr hX;have q:=y4 g;have r:=oY g;refine c5 (wpAny_pyNext_zip_item Z.D hz B E L h2 p C (x:=.ref X[0].2.1) (y:=X[0].2.2) (by simp[g]) (by simp[g]) λG z1 t1 b1 b2 p1 mz n=>?_);have u:=λc o k h i j l e=>n c o k h i j (F c o k h i j l e)
   have hd1:G.DictOfH knd d (X.take 0):=by obtain⟨o,M,ep,e1,e2,e3,I,e5,e6⟩:=hd;exact⟨o,M,ep,n _ _ Z.dz Z.dTO Z.HV Z.NF e1,e2,e3,I,λx q=>by simp at q,e6⟩
   refine Be hu p1 ?_ hd1 (cY _) λh2' tk v f=>?_;obtain⟨o',q1,q2⟩:=Z.key _ r;obtain⟨K,H,a3,a4,a5⟩:=Z.ka _ r;exact q2 _ (u _ _ K H a3 a4 a5 q1);rw[qY Z.nd q]at v;have lt:∀{c:Addr} {o:Obj},s.heap.get? c=U o->s.heap.objs.size≠c:=λe=>bX (q5 e);refine⟨oQ ip _,Qh hu hh Z (X.length-1) 1 _ (0+1) s.heap.objs.size U' rfl g ?_ ?_ ?_ ⟨lt hz,?_,?_,bX m⟩ ?_ ?_ ?_ v λh' N K H=>hR h' N K ?_⟩;exact λc o k h i j l e=>f.extBut _ _ l (u c o k h i j l e);exact f.extBut _ _ Z.dz.symm z1;exact⟨_,f.extBut _ _ (bX m) p1⟩;obtain⟨t,e⟩:=L;exact lt e.1;obtain⟨t,e⟩:=h2;exact lt e.1;show d<h2'.objs.size;rw[f.1,mz];exact sG m;exact b1.extBut f.extBut Z.HV.symm;exact b2.extBut f.extBut Z.NF.symm;exact λc o k h i j l e=>H c o k h i j l (f.extBut _ _ l (n c o k h i j e))
def AD{X:List (κ×Addr×a9)}{TI TO m:Addr}{b:a9}{Q:a9->b9->Prop}(O:knd.room A.in1.in1)(n:A.in1.in1.handled=J)(Z:Zs knd s.heap X z TI TO i1 i2 m q s.heap.objs.size)(hz:IsZip s.heap z TI TO .none)(l:L8 s.heap TO a b)(L:s.heap.IsListIter i1 m 0)(C:s.heap.IsListIter i2 q 0)(h:∀h' p,h'.DictOfH knd s.heap.objs.size X->Kp z TO i1 i2 s.heap.objs.size s.heap h'->Q (.ref s.heap.objs.size) {s with heap:=h',toks:=p}):
  wpAny (model prog w) A (call (.type "dict") [.ref z]) Q E s:=by
 refine DI (Q₁:=λobj i=>obj=.ref s.heap.objs.size/\i={s with heap:=s.heap.push {cls:=.type "dict",data:=.dict #[]}}) F.kt_called_dict (F.kt_typeCall_dict_1 _) F.entry_dict_init (kt_code_dict_new _ ⟨rfl,rfl⟩) ?_;rintro obj i ⟨rfl,rfl⟩;have d:(s.heap.push {cls:=.type "dict",data:=.dict #[]}).DictOfH knd s.heap.objs.size []:=Heap.DictOfH.new s.heap;have f:∀{c:Addr} {o:Obj},s.heap.get? c=U o->(s.heap.push {cls:=.type "dict",data:=.dict #[]}).get? c=U o:=λe=>s9 _ e;refine⟨d.typeIs,F.args_dict_init_2 _ _,?_⟩;refine c5 ?_;refine c5 (wpAny_notOrdered_dict d.typeIs ?_);refine i5 ?_;refine c5 (oP ⟨_,f hz,rfl⟩ ?_);refine c5 (EL (f hz) n λh' p g=>?_);refine c5 (eO ?_);refine c5 (Eb (g _ _ (f hz)) (i5 ?_));refine⟨oQ ip _,Kq O n Z (λc o _ _ _ _ _ e=>g _ _ (f e)) (g _ _ (f hz)) (g _ _ (f l)) (L.at λo e=>g _ _ (f e)) (C.at λo e=>g _ _ (f e)) ?_ λk j D t=>⟨rfl,h k j D λc o N v B K u e=>t c o N v B K u (g _ _ (f e))⟩⟩;obtain⟨o,M,P,H,r,R,y,S,G⟩:=d;exact⟨o,M,P,g _ _ H,r,R,y,λx I=>by simp at I,G⟩
end
end
noncomputable def asK:a7->Option Key
 | .int i=>U (.inl i)
 | .str x=>U (.inr x)
 |_=>J
noncomputable def iC:List a7->Option (List Key)
 | []=>U []
 |d::r=>(asK d).bind λk=>(iC r).bind λks=>U (k::ks)
noncomputable def mS:a7->Option (List Key)
 | .dict [(.list l,.none)]=>iC l
 |_=>J
noncomputable def jm:List a7->Option (List (List Key))
 | []=>U []
 |d::r=>(mS d).bind λk=>(jm r).bind λks=>U (k::ks)
def lz(k:List Key):iC (k.map Y7)=U k:=by
 induction k with
 |nil=>rfl
 |cons a k h=>cases a<;>exact m2 (Dn · λs=>U (_::s)) h
theorem m7.iC{K:d2}{H:Hp}{l:List a7}:∀{vs:List V} {k:List Key},m7 K H vs l->L2.iC l=U k->vs=k.map kV:=by
 induction l with
 |nil=>intro _ _ h e;cases h;cases e;rfl
 |cons d l i =>
  intro _ _ h e;cases h with
  |cons h t =>
  obtain⟨a,b,e⟩:=b5 e;obtain⟨d,c,e⟩:=b5 e;cases e;rw[i t c];cases h<;>first|(cases b;rfl)|exact nE b
theorem Dt.mS{K:d2}{H:Hp}{v:V}{d:a7}{k:List Key}(h:Dt K H v d)(e:L2.mS d=U k):∃a,v=.ref a/\H a=U (.tup (k.map kV)):=by
 cases h with
 |key h =>
  cases(lz _).symm.trans e;exact⟨_,rfl,h⟩
 |_=>exact nE e
theorem m7.jm{K:d2}{H:Hp}{l:List a7}:∀{vs:List V} {ks:List (List Key)},m7 K H vs l->L2.jm l=U ks->∃as:List Addr,vs=as.map V.ref/\Paired (λa k=>H a=U (.tup (k.map kV))) as ks:=by
 induction l with
 |nil=>intro _ _ h e;cases h;cases e;exact⟨[],rfl,.nil⟩
 |cons d l i =>
  intro _ _ h e;cases h with
  |cons h t =>
  obtain⟨k,b,e⟩:=b5 e;obtain⟨f,d,e⟩:=b5 e;cases e;obtain⟨a,rfl,g⟩:=h.mS b;obtain⟨as,rfl,c⟩:=i t d;exact⟨a::as,rfl,.cons g c⟩
noncomputable def N5(Fl:DL):DV:=λds=>(Fl ds).bind λl=>(iC l).bind λk=>if l.length<=1000000 then U (.dat (B3 k))else J
def VX{X:Cx}{fr:Bool}{es:List Expr}{t:TA}{c:DL}{x1}{pos:Pos}(h:aY X fr es t c):PX X fr (.Tuple es x1 pos) (Qs t) (N5 c):=⟨LM h.p,by
 intro O b n f H s pv Q S a q;obtain⟨l,o,a⟩:=b5 a;obtain⟨k,m,a⟩:=b5 a;obtain⟨j,a⟩:=v8 a;cases a;refine h.t O b n f H s l _ S o λv u e r=>⟨by rw[r.length];exact my j,λp d=>q _ _ (e.trans (d9.new d)) ?_⟩
 obtain⟨g,i⟩:=(S.grow e).dm.fresh d;rw[r.iC m];exact Dt.key (p6.mpr ⟨g,i,E1⟩)⟩
noncomputable def un:a7->a7
 | .dict [(.list l,.none)]=>.tuple l
 |d=>d
theorem yZ{K:d2}{H:Hp}:∀k:List Key,m7 K H (k.map kV) (k.map Y7)
 | []=>.nil
 | .inl i::k=>.cons (.int i) (yZ k)
 | .inr i::k=>.cons (.str i) (yZ k)
theorem Dt.un{K:d2}{H:Hp}{v:V}{d:a7}(h:Dt K H v d):Dt K H v (un d):=by
 cases h with
 |key h=>exact .tup (O0.of h) (yZ _)
 |non=>exact .non
 |bl b=>exact .bl b
 |int i=>exact .int i
 |str x=>exact .str x
 |tup h t=>exact .tup h t
 |lst h t=>exact .lst h t
 |exc c n e a t=>exact .exc c n e a t
 |fn h=>exact .fn h
 |ins e a f t=>exact .ins e a f t
 |dct e a t=>exact .dct e a t
 |dtt e a f t=>exact .dtt e a f t
theorem m7.un{K:d2}{H:Hp}{vs:List V}{l:List a7}(h:m7 K H vs l):m7 K H vs (l.map L2.un):=by
 induction l generalizing vs with
 |nil=>exact h
 |cons _ _ i=>cases h with
  |cons a t=>exact .cons a.un (i t)
section
variable{R S:Addr->List Key->Prop}{as:List Addr}{ks:List (List Key)}{vs us:List a9}{X:Cx}
def x3(ks:List (List Key))(as:List Addr)(vs:List a9)(g:as.length=ks.length)(h:vs.length=ks.length):
  (ks.zip (as.zip vs)).map (λx=>x.1)=ks/\(ks.zip (as.zip vs)).map (λx=>V3 x.2.1)=as.map V3/\(ks.zip (as.zip vs)).map (λx=>x.2.2)=vs/\(ks.zip (as.zip vs)).length=ks.length:=by
 induction ks generalizing as vs with
 |nil=>exact⟨rfl,by cases as<;>trivial,by cases vs<;>trivial,rfl⟩
 |cons k ks i=>cases as with
  |nil=>cases g
  |cons a as=>cases vs with
   |nil=>cases h
   |cons v vs =>
    obtain⟨b,e,d,c⟩:=i as vs (xo g) (xo h);exact⟨m2 (k::·) b,m2 (_::·) e,m2 (v::·) d,m2 (· + 1) c⟩
def Yc(vs:List a9)(p:Paired R as ks):∀x∈ks.zip (as.zip vs),R x.2.1 x.1:=by
 induction p generalizing vs with
 |nil=>intro _ h;cases h
 |cons r t i=>cases vs with
  |nil=>intro _ h;cases h
  |cons v vs =>
   intro x h;rcases List.mem_cons.1 h with rfl|h
   exact r;exact i vs x h
def Vq(f:∀a k,R a k->S a k){ys:List V}(p:Paired R as ks)(v:Vals ys vs)(h:ys.length=ks.length):
  Paired (λ(p:List Key×V) (q:List Key×Addr×a9)=>p.1=q.1/\S q.2.1 p.1/\RelV p.2 q.2.2) (ks.zip ys) (ks.zip (as.zip vs)):=by
 induction p generalizing ys vs with
 |nil=>exact .nil
 |cons r t i=>cases v with
  |nil=>cases h
  |cons a b=>exact .cons ⟨rfl,f _ _ r,a⟩ (i b (xo h))
theorem zl:∀{as:List Addr} {us:List a9},Vals (as.map V.ref) us->us=as.map V3
 | [],_,r=>by cases r;rfl
 |a::as,_,r=>by
  cases r with
  |cons h t=>rw[m6,<-zl t];exact m2 (·::_) h
def IV{a b:Type}{R:a->b->Prop}{l:List a}{m:List b}(h:Paired R l m):l.length=m.length:=by
 induction h with
 |nil=>rfl
 |cons _ _ i=>exact m2 (· + 1) i
def Bz(K:d2):List V->Hp->VK->Prop:=λvs H Q=>∃(p1 p2:Addr) (as:List Addr) (ys:List V) (ks:List (List Key)),vs=[.ref p1,.ref p2]/\D5 K H p1 (as.map V.ref)/\D5 K H p2 ys /\
 Paired (λa k=>H a=U (.tup (k.map kV))) as ks/\ks.Nodup/\ys.length=ks.length/\∀p,H p=J->Q (.ref p) (upd H p (.dT (ks.zip ys)))
def JV{pins:List (Addr×Obj)}{σ:St}{H:Hp}{s:b9}{vs:List V}{Q:VK}(hu:X.A.units+2<G8)(hh:X.A.handled=J)(I:Inv X pins σ H s)(rv:Vals vs us)(h:Bz X.K vs H Q):
  wpAny (model X.prog X.w) X.A (call (.type "zip") us) (λz s1=>wpAny (model X.prog X.w) X.A (call (.type "dict") [z]) (EP X pins σ Q) X.xe s1) X.xe s:=by
 obtain⟨Y,T,O,ys,C,rfl,hs1,W,hk,hn,R,q⟩:=h;cases rv with
 |cons r1 rr =>
 cases rr with
 |cons r2 rr =>
 cases rr;cases r1;cases r2;obtain⟨its1,ri1,t,z1⟩:=I.list hs1;obtain⟨d,G,m,z2⟩:=I.list W;have e1:=zl ri1;subst e1;have la:=IV hk;have lv:d.length=C.length:=by rw[<-G.length,R]
 obtain⟨x1,x2,x3',x4⟩:=x3 C O d la lv;have E:∀x∈C.zip (O.zip d),∃o,s.heap.get? x.2.1=U o/\∀h:Heap,h.get? x.2.1=U o->(lD (T7 X.prog X.w)).is h x.1 x.2.1:=λx y=>by
  have y:=Yc d hk x y;obtain⟨_,its,r,o,v,F,n,g3⟩:=(show P9 X.prog X.w H s.heap x.2.1 (.tup (x.1.map kV))from I.x5 _ _ y);exact⟨o,v,λh e=>⟨o,its.toArray,n,e,F,g3,by simpa using rH r⟩⟩
 have N:Y<s.heap.objs.size:=by obtain⟨o,e,_⟩:=t.isList;exact q5 e
 have M:T<s.heap.objs.size:=by obtain⟨o,e,_⟩:=m.isList;exact q5 e
 have ls:∀{c:Nat} j,c<s.heap.objs.size->c≠s.heap.objs.size+j:=λj h=>by exact E9 (C1 c6 (U5 _ _))
 have l:∀{c:Nat},c<s.heap.objs.size->c≠s.heap.objs.size:=λh=>by exact E9 c6
 have g:∀{i j:Nat},i≠j->s.heap.objs.size+i≠s.heap.objs.size+j:=λh=>by simp[*]
 have L:∀{j:Nat},j≠0->s.heap.objs.size≠s.heap.objs.size+j:=λh=>by simp[*]
 refine call_zip_2 t.isList m.isList λB hz zK HL i1 i2 p P=>?_
 have D:eM (s.heap.objs.size+4) (s.heap.objs.size+2) (s.heap.objs.size+3) s.heap.objs.size (s.heap.objs.size+1) Y T :=
  ⟨g a6,g a6,L a6,g a6,g a6,(L a6).symm,g a6,(L a6).symm,g a6,L a6,ls _ N,ls _ N,l N,ls _ N,ls _ M,ls _ M,l M,ls _ M⟩
 have Z:Zs (lD (T7 X.prog X.w)) B (C.zip (O.zip d)) (s.heap.objs.size+4) (s.heap.objs.size+2) (s.heap.objs.size+3) s.heap.objs.size (s.heap.objs.size+1) Y T B.objs.size:=by
  rw[p];refine⟨D,g a6,(L a6).symm,g a6,g a6,g a6,zK,?_,?_,λx y=>?_,λx y=>?_,ls _ N,ls _ M,?_,?_⟩;rw[x2];exact t.isList.at λo e=>P _ _ e;rw[x3'];exact m.isList.at λo e=>P _ _ e;obtain⟨o,v,F⟩:=E x y;exact⟨o,P _ _ v,F⟩;obtain⟨o,v,_⟩:=E x y;have:=q5 v;exact⟨ls _ this,ls _ this,l this,ls _ this,ls _ this⟩;rw[x1];exact hn;rw[x4,<-la];simpa using z1
 refine AD (show X.A.in1.in1.units<G8 from hu) hh Z hz HL i1 i2 λh' tk hd kp=>?_
 have keep:∀b u,s.heap.get? b=U u->h'.get? b=U u:=λb u e=>by have:=q5 e;exact kp b u (ls _ this) (ls _ this) (l this) (ls _ this) (by show b≠B.objs.size;rw[p];exact ls _ this) (P _ _ e)
 have hp:s.heap.objs.size<=B.objs.size:=by rw[p];simp[*]
 have f:=I.x5.fresh hp;refine⟨.ref B.objs.size,_,I.laid keep hp ?_,rfl,q _ f⟩;obtain⟨o,es,ep,v,F,g3,g4,g5,g6⟩:=hd;refine⟨?_,?_,C.zip (O.zip d),Vq (S:=λa k=>upd H B.objs.size (HO.dT (C.zip ys)) a=U (HO.tup (List.map kV k))) (λa k e=>?_) hk G R,o,es,ep,v,F,g3,g4,g6⟩;rw[List.length_zip,R,Nat.min_self,<-R];exact z2;have:=I.big;exact beq_eq_false_iff_ne.mpr (bX (C1 this hp));rw[w9 (R9 e f)];exact e
def RV{a b:Expr}{t:TA}{p f pos c:Pos}(m:X.A.units+2<G8)(r:X.A.handled=J)(u:Gl X "dict")(y:X.mg "dict" = J)(x:cC "dict" = U (.type "dict"))(g:Gl X "zip")(l:X.mg "zip" = J)(k:cC "zip" = U (.type "zip"))(o:PA X [a,b] t)(v:autoParam (e8 [.Call (.Name "zip" f) [a,b] [] c] X.env=(U',eval (.Call (.Name "zip" f) [a,b] [] c) X.env)::e8 [] X.env) d3._auto_1)(j:autoParam ((p5 pos (e8 [] X.env)).any (·.1)=U') d3._auto_1)(i:autoParam (e8 [a,b] X.env=(U',eval a X.env)::e8 [b] X.env) d3._auto_1)(d:autoParam ((p5 c (e8 [b] X.env)).any (·.1)=U') d3._auto_1)(F:autoParam (p5 pos (e8 [] X.env)=[]) d3._auto_1):
  PE X (.Call (.Name "dict" p) [.Call (.Name "zip" f) [a,b] [] c] [] pos) (vG (Bz X.K) t):=by
 intro e s B H Q I h;refine jD (cP I u y x ?_ a6 a6);refine iN ?_ v j;refine sH (jD (cP I g l k ?_ a6 a6));refine iN (t9 (o c e s B H _ I h) λM G ⟨L,D,C,q,n⟩=>?_) i d;exact t9 (JV m r C q n) λz E w=>xN w
end
section
variable{K K':d2}{y:DL}
def a0l{O:List Addr}{i7 H c H2:Hp}{as:As}{j:St}{ds:Ds}{fr a:Bool}(S:DS K O i7 as j H ds)(e:d9 H c)(k:d9 c H2):∀b o,j9 c (S6 fr as) O b=U o->¬Cell o->j9 H2 (S6 a as) O b=U o:=by
 intro b o g l;obtain⟨i,_,f⟩:=p6.mp g;refine p6.mpr ⟨i,λz=>?_,k _ _ f⟩;obtain⟨_,u,h⟩:=S.new b (nK z);have:=e _ _ h;rw[f]at this;have d:=u.2;rw[<-L1 this]at d;exact l d
noncomputable def Vc:FV
 | [.list a,.list b]=>(jm a).bind λks=>if ks.Nodup/\b.length=ks.length/\jn b=Uf then U (.dat (vi ks b))else J
 |_=>J
def Cz(Fl:DL):DV:=λds=>(Fl ds).bind Vc
def Rh{X:Cx}{fr:Bool}{a b:Expr}{t:TA}{p i pos c:Pos}(R:X.K=K')(hu:X.A.units+2<G8)(B:X.A.handled=J)(P:Gl X "dict")(L:X.mg "dict" = J)(Y:cC "dict" = U (.type "dict"))(m:Gl X "zip")(u:X.mg "zip" = J)(s:cC "zip" = U (.type "zip"))(w:aY X U' [a,b] t y)(E:autoParam (e8 [.Call (.Name "zip" i) [a,b] [] c] X.env=(U',eval (.Call (.Name "zip" i) [a,b] [] c) X.env)::e8 [] X.env) d3._auto_1)(g:autoParam ((p5 pos (e8 [] X.env)).any (·.1)=U') d3._auto_1)(k:autoParam (e8 [a,b] X.env=(U',eval a X.env)::e8 [b] X.env) d3._auto_1)(f:autoParam ((p5 c (e8 [b] X.env)).any (·.1)=U') d3._auto_1)(hn:autoParam (p5 pos (e8 [] X.env)=[]) d3._auto_1):
  PX X fr (.Call (.Name "dict" p) [.Call (.Name "zip" i) [a,b] [] c] [] pos) (vG (Bz K') t) (Cz y):=by
 subst R;refine⟨RV hu B P L Y m u s w.p E g k f hn,?_⟩;intro O e as V H ds pv Q S d q;obtain⟨l,h1,d⟩:=b5 d;refine w.t O e as V H ds l _ S h1 λvs H1 j N=>?_;unfold Vc at d;split at d
 . rename_i la lb;obtain⟨D,h2,d⟩:=b5 d;obtain⟨F,d⟩:=v8 d;obtain⟨T,z,Z⟩:=F;cases d;cases N with
   |cons o h =>
   cases h with
   |cons r h =>
   cases h;cases o with
   |lst I G =>
   cases r with
   |lst C v =>
   obtain⟨bs,rfl,M⟩:=(G.same l8).jm h2;have x:=v.length;refine⟨_,_,bs,_,D,rfl,l8.seq I,l8.seq C,M,T,x.trans z,λp n=>q _ _ (j.trans (d9.new n)) ?_⟩;obtain⟨o,r⟩:=(S.grow j).dm.fresh n;exact Dt.dtt (p6.mpr ⟨o,r,E1⟩) (x.trans z).symm rfl (m7.lf (a0l S j (d9.new n)) v Z)
 exact nE d
noncomputable def rS:List a7->Option (List (List Key))
 | []=>U []
 | .tuple l::r=>(iC l).bind λk=>(rS r).bind λks=>U (k::ks)
 |_=>J
def wY(ks:List (List Key)):rS (ks.map λk=>.tuple (k.map Y7))=U ks:=by
 induction ks with
 |nil=>rfl
 |cons k s h =>
  change (iC _).bind _=_;rw[lz];exact m2 (Dn · λs=>U (k::s)) h
noncomputable def jL(d:a7)(k:List Key):Option (Option a7):=match d with
 | .dict [(.list l,.list vs)]=>(rS l).bind λks=>U (((ks.zip vs).find? λp=>decide (p.1=k)).map (·.2))
 |_=>J
theorem Gw{K:d2}{H:Hp}(k:List Key):∀{ks:List (List Key)} {vs:List V} {l:List a7},m7 K H vs l ->
  (gg (ks.zip vs) k=J/\((ks.zip l).find? λp=>decide (p.1=k)).map (·.2)=J)\/∃v d,gg (ks.zip vs) k=U v/\((ks.zip l).find? λp=>decide (p.1=k)).map (·.2)=U d/\Dt K H v d
 | [],_,_,_=>.inl ⟨rfl,rfl⟩
 |_::_,_,_,.nil=>.inl ⟨rfl,rfl⟩
 |k'::ks,_,_,.cons (x:=x) (d:=d) h t=>by
  by_cases e:k'=k;exact .inr ⟨x,d,uF e,by simp[e],h⟩;rw[iM,iM,uG e,Od];simp only[U4 e];exact Gw k t
theorem Dt.jL{K:d2}{H:Hp}{x:V}{d:a7}{k:List Key}{r:Option a7}(h:Dt K H x d)(e:L2.jL d k=U r):
  ∃a b,x=.ref a/\H a=U (.dT b)/\((gg b k=J/\r=J)\/∃v d',gg b k=U v/\r=U d'/\Dt K H v d'):=by
 cases h with
 |dtt c g f t =>
  rename_i a b i j l;change (rS _).bind _=_ at e;rw[wY]at e;replace e:=L1 e;refine⟨a,b,rfl,c,?_⟩;rw[f,<-e];exact Gw k t
 |dct c g t=>exact nE e
 |key h=>exact nE e
 |_=>exact nE e
noncomputable def ji(Fo Fi:DV):DV:=λds=>(Fo ds).bind λx=>(Fi ds).bind λy=>(mS y.d).bind λk=>(jL x.d k).bind λr=>r.bind λd=>U (.dat d)
noncomputable def iy(Fo Fi Fx:DV):DV:=λds=>(Fo ds).bind λx=>(Fi ds).bind λy=>(Fx ds).bind λz=>(mS y.d).bind λk=>(jL x.d k).bind λr=>U (.dat (r.getD z.d))
section
variable{X:Cx}{fr:Bool}{o i f:Expr}{td ty tx:TE}{Fo Fi Fx:DV}{pos apos cpos:Pos}
def Ri(F:X.A.units+1<G8)(m:PX X fr o td Fo)(l:PX X fr i ty Fi)(hs:autoParam (Ue i) oB._auto_1):PX X fr (.Subscript o i pos) (UB td ty) (ji Fo Fi):=⟨WH F m.p l.p hs,by
 intro O e w n H u pv Q S c q;obtain⟨x,L,c⟩:=b5 c;obtain⟨y,M,c⟩:=b5 c;obtain⟨k,I,c⟩:=b5 c;obtain⟨r,B,c⟩:=b5 c;obtain⟨d,g,c⟩:=b5 c;cases c;refine m.t O e w n H u x _ S L λv C j P=>?_;refine l.t O e w n C u y _ (S.grow j) M λT R s G=>?_
 obtain⟨b,rfl,E⟩:=(G.dt (S.grow j).dm).mS I;obtain⟨a,h,rfl,z,f⟩:=((P.grow s).dt S.dm).jL B;rcases f with ⟨_,f⟩|⟨D,V,f,N,K⟩
 . simp_all
 . rw[N]at g;cases g;exact⟨a,D,rfl,.inr ⟨h,k,b,.inl (p6.mp z).2.2,rfl,(p6.mp E).2.2,f.symm⟩,q _ _ (j.trans s) K⟩⟩
def Lm(V:X.A.units+1<G8)(I:PX X fr o td Fo)(E:PX X fr i ty Fi)(F:PX X fr f tx Fx)(m:M2 X o "get" apos i f cpos:=by exact⟨rfl,rfl,rfl,rfl⟩):PX X fr (.Call (.Attribute o "get" apos) [i,f] [] cpos) (KI td ty tx) (iy Fo Fi Fx):=⟨RW V I.p E.p F.p m,by
 intro O c C s H w pv Q S d q;obtain⟨x,h1,d⟩:=b5 d;obtain⟨y,h2,d⟩:=b5 d;obtain⟨z,B,d⟩:=b5 d;obtain⟨k,Y,d⟩:=b5 d;obtain⟨r,K,d⟩:=b5 d;cases d;refine I.t O c C s H w x _ S h1 λv R h M=>?_;obtain⟨a,u,rfl,N,_⟩:=(M.dt S.dm).jL K;refine⟨a,rfl,.inr ⟨u,.inl (p6.mp N).2.2⟩,?_⟩;refine E.t O c C s R w y _ (S.grow h) h2 λv2 Z l W=>?_;refine F.t O c C s Z w z _ ((S.grow h).grow l) B λv3 H3 n P=>?_
 obtain⟨b,rfl,L⟩:=((W.grow n).dt (S.grow h).dm).mS Y;obtain⟨a',g,e,G,j⟩:=(((M.grow l).grow n).dt S.dm).jL K;cases e;rcases j with ⟨j,D⟩|⟨T,d',j,D,g4⟩
 refine⟨J,.inr ⟨g,k,b,.inl (p6.mp G).2.2,rfl,(p6.mp L).2.2,j.symm⟩,q _ _ ((h.trans l).trans n) ?_⟩;rw[D];exact(P.dt ((S.grow h).grow l).dm)
 . refine⟨U T,.inr ⟨g,k,b,.inl (p6.mp G).2.2,rfl,(p6.mp L).2.2,j.symm⟩,q _ _ ((h.trans l).trans n) ?_⟩;rw[D];exact g4⟩
end
noncomputable def kG:a7->FV
 | .list l,[d]=>tJ (.list (l.map un)) [un d]
 |_,_=>J
def Ll {X:Cx} {fr:Bool} {o e:Expr} {C:TE} {t:TA} {w:DV} {f cpos:Pos} (V:X.A.units + 64 < G8) (N:X.K=K') (u:PX X fr o C w) (B:aY X fr [e] t y) (h:autoParam (U3 o "index" X.env (eval o X.env)=eval o X.env) d3._auto_1) (k:autoParam (((p5 cpos (e8 [e] X.env)).all (λx=>!x.1)&&(Z0 cpos (bL [] X.env)).all (λx=>x.1.isSome)
   && decide ([e].length+([]:List T3).length+(if ([]:List T3).isEmpty then 0 else 1)<30))=Uf) d3._auto_1)
  (i:autoParam ((f.endLine==cpos.line)=Uf) d3._auto_1) (hs:autoParam (e8 [e] X.env=(U',eval e X.env)::e8 [] X.env) d3._auto_1) (c:autoParam ((p5 cpos (e8 [] X.env)).any (·.1)=U') d3._auto_1) :
  PX X fr (.Call (.Attribute o "index" f) [e] [] cpos) (GA K' "list" (GU K') C t) (tO kG w y):=by
 subst N;refine⟨vT px xV Pk (Ms V) u.p B.p h k i hs c,?_⟩;intro O g I z H E pv Q S b q;obtain⟨x,h1,b⟩:=b5 b;obtain⟨l,h2,b⟩:=b5 b;refine u.t O g I z H E x _ S h1 λv R G r1=>?_;have D:=r1.dt S.dm;generalize x.d=xd at b D;unfold kG at b;split at b
 . rename_i M d;unfold tJ at b;simp only at b;obtain⟨n,b⟩:=v8 b;obtain⟨j,L,b⟩:=b5 b;cases b;cases D with
   |lst m ht =>
    rename_i a T;refine⟨.inl ⟨rfl,_,l8.seq m⟩,?_⟩;refine B.t O g I z R E _ _ (S.grow G) h2 λvs Z s Y=>?_
    cases Y with
    |cons r P =>
     cases P;exact⟨a,T,M.map un,_,un d,j,rfl,rfl,s.seq (l8.seq m),((ht.same l8).same s).un,(r.same l8).un,n.1,n.2.1,n.2.2.1,n.2.2.2,L,q _ Z (G.trans s) (Dt.int _)⟩
 exact nE b
end
set_option tactic.hygienic false
section
variable{k:Nat}{A:t6}
section
variable{X:Cx}{bs nb:List Str}{elt tg iter:Expr}{scope:F8}{pos cpos pos':Pos}{wi:TI}{g:TG}{te:TE}{Fi:DL}{gt:a7->Option (List a7)}{Fe:DV}{i:Nat}{x:Str}
def Ls(u:X.N.Nodup)(c:X.N[i]? = U x)(F:Loc X.env.scope x)(m:X.calm=Uf)(B:hU X bs nb scope)(l:cW X Uf tg iter wi Fi)(f:hC bs.length g)(e:∀cl C fp s H pins,PG (N9 X bs nb scope cl C fp s H pins) tg g)(b:rT X.K bs.length g gt)(k:∀cl C fp s H pins,PX (N9 X bs nb scope cl C fp s H pins) Uf elt te Fe)(d:autoParam (Q4 (.ListComp elt [⟨tg,iter,[],0⟩] scope cpos) (U (.Name x pos')) pos.line X.env=pure Uf) d3._auto_1)(r:autoParam (X.fn x=Uf\/X.env.scope.names.lookup x=U .local) dG._auto_1)(hs:autoParam (∀x,bO iter X.env x=pure x) U0._auto_1):D9 X (.Assign [.Name x pos'] (.ListComp elt [⟨tg,iter,[],0⟩] scope cpos) pos) (gj (eX bs wi g vF te) (V5 i)) (I0 i (lu Fi gt Fe)) :=
 ⟨yo u c F m B l.p f e (λ_ _ _ _ _ _=>uR) (λ_ _ _ _ _ _=>(k _ _ _ _ _ _).p) d r hs,by
 intro O a y w H j D o S h q;unfold I0 at h;obtain⟨pv,e1,h⟩:=b5 h;cases h;refine((Rk (pos:=cpos) m B l f e b k hs).t) O a y w H j pv _ S e1 λv G E A=>?_
 obtain⟨n,z⟩:=S.store E i A;exact q _ _ _ z⟩
def D1.u1(r:D1 k A):A.units+1<G8:=by have:=r.un;lia
def D1.u2(r:D1 k A):A.units+2<G8:=by have:=r.un;lia
end
end
def uL:Manifest.owners.lookup (String.ofList ['d','e','s','r','e','v','e','r'].reverse)=U Manifest.sig_reversed:=by kernel_rfl
def nP:Slot "reversed" "__next__" "reversed.__next__" :=
 .of (owner:="reversed") (n:="__next__") (by rw[jx,mV];kernel_rfl) i6 i6 i6
  (by first|exact .inl i6|exact .inr i6) (by rw[lK];kernel_rfl)
def Bp:rX table "reversed.__next__" = U Builtin.«reversed.__next__»:=entryFor_of_tree (by kernel_rfl)
def Bq(a:a9):argsOk "reversed.__next__" ⟨[a],[]⟩:=by delta argsOk;rw[DC (n:=['_','_','t','x','e','n','_','_']) (by kernel_rfl) uL];kernel_rfl
def GN:Slot "reversed" "__iter__" "reversed.__iter__" :=
 .of (owner:="reversed") (n:="__iter__") (by rw[jx,mV];kernel_rfl) i6 i6 i6
  (by first|exact .inl i6|exact .inr i6) (by rw[lK];kernel_rfl)
def QN(a:a9):argsOk "reversed.__iter__" ⟨[a],[]⟩:=by delta argsOk;rw[DC (n:=['_','_','r','e','t','i','_','_']) (by kernel_rfl) uL];kernel_rfl
def QM:rX table "reversed.__iter__" = U Builtin.«dict_keyiterator.__iter__» :=
 entryFor_alias (id':="dict_keyiterator.__iter__") (by kernel_rfl) (by first|rfl|decide +kernel|(delta String.splitOn;simp +decide [String.splitOnAux])) i6 (by kernel_rfl)
def yj:Slot "reversed" "__length_hint__" "reversed.__length_hint__" :=
 .of (owner:="reversed") (n:="__length_hint__") (by rw[jx,mV];kernel_rfl) i6 i6 i6
  (by first|exact .inl i6|exact .inr i6) (by rw[lK];kernel_rfl)
def QO:rX table "reversed.__length_hint__" = U Builtin.«reversed.__length_hint__»:=entryFor_of_tree (by kernel_rfl)
def QP(a:a9):argsOk "reversed.__length_hint__" ⟨[a],[]⟩:=by delta argsOk;rw[DC (n:=['_','_','t','n','i','h','_','h','t','g','n','e','l','_','_']) (by kernel_rfl) uL];kernel_rfl
def GO:Slot "reversed" "__init__" "object.__init__" :=
 .of (owner:="object") (n:="__init__") (by rw[jx,mV];kernel_rfl) i6 i6 i6
  (by first|exact .inl i6|exact .inr i6) (by rw[lK];kernel_rfl)
def QL:lE (.type "reversed") "__len__" = pure J:=by rw[jx,mV];kernel_rfl
def QK:lE (.type "tuple") "__reversed__" = pure J:=by rw[jx,mV];kernel_rfl
def Lf:TypeCalled "reversed" "reversed.__new__" "object.__init__" :=
 ⟨by decide +kernel,by decide +kernel,⟨_,_,PySem.F.mro_reversed⟩,OY,by decide +kernel,by rw[lK];kernel_rfl,GO⟩
def Ld:isSubtype (.type "tuple") (.type "dict")=pure U':=by rw[lK];kernel_rfl
section
variable{h h':Heap}{Q₁ Q:a9->b9->Prop}
def AH(t:Addr)(i:Int):Obj:={cls:=.type "reversed",data:=.fields #[.ref t,G9 i]}
def gY(h:Heap)(a t:Addr)(i:Int):Prop:=∃o,h.get? a=U o/\o.cls=.type "reversed"/\o.data=.fields #[.ref t,G9 i]
section
variable{prog:n9}{w:k7}{A:t6}{E:a9->b9->Prop}{s:b9}{t it:Addr}{items:Array a9}{i:Int}
def gY.typeIs(x:gY s.heap it t i):s.TypeIs (.ref it) "reversed":=let ⟨o,ho,hc,_⟩:=x;⟨o,ho,hc⟩
def gY.at(x:gY h it t i)(e:∀o,h.get? it=U o->h'.get? it=U o):gY h' it t i:=let ⟨o,ho,r⟩:=x;⟨o,e _ ho,r⟩
def VT(ht:P1 s.heap t items)(hz:(items.size:Int)<2 ^ 63)(h:∀tk,Q₁ (.ref s.heap.objs.size) {s with heap:=s.heap.push (AH t ((items.size:Int)-1)),toks:=tk}):
  codeAny (model prog w) A (.call (.builtin "reversed.__new__") ⟨[.type "reversed",.ref t],[]⟩) (wants Q₁ E) s:=by
 refine codeAny_of_tree ?_;refine c5 (eQ (PySem.F.newCall_reversed_1 _) (i5 ⟨oQ PySem.F.plain_reversed_new _,xC PySem.F.entry_reversed_new ?_⟩));refine c5 (eQ (newClass_reversed _) ?_);refine c5 (eQ (by first|rfl|kernel_rfl) ?_);refine c5 (eQ (by first|rfl|kernel_rfl) ?_);refine c5 (oU ht.typeIs QK ?_);refine c5 ?_;refine c5 (oZ ht.typeIs Ld ?_);refine c5 (oU ht.typeIs slot_tuple_getitem.lookup ?_);refine i5 ?_;refine c5 (len_tuple ht hz ?_);refine c5 (i5 ?_);show wpAny _ _ (newObj (.type "reversed") (.fields #[.ref t,G9 (items.size-1)]) >>= _) _ _ _;exact c5 (iL (i5 (h _)))
def XC(ht:P1 s.heap t items)(hz:(items.size:Int)<2 ^ 63)(h:∀tk,Q (.ref s.heap.objs.size) {s with heap:=s.heap.push (AH t ((items.size:Int)-1)),toks:=tk}):wpAny (model prog w) A (call (.type "reversed") [.ref t]) Q E s:=by
 refine DI (Q₁:=λobj s₁=>∃tk,obj=.ref s.heap.objs.size/\s₁={s with heap:=s.heap.push (AH t (items.size-1)),toks:=tk}) Lf (PySem.F.typeCall_reversed_1 _) PySem.F.entry_object_init (VT ht hz λtk=>⟨tk,rfl,rfl⟩) λobj s₁ h₁=>?_;obtain⟨tk,rfl,rfl⟩:=h₁;have hT:Shared.TypeIs {s with heap:=s.heap.push (AH t (items.size-1)),toks:=tk} (.ref s.heap.objs.size) "reversed":=⟨_,J4 _ rfl,rfl⟩;refine⟨hT,PySem.F.args_object_init_2 _ _,object_init_meets GO.lookup OY a6 prog w A.in1 _ _ ⟨hT,rfl,h tk⟩⟩
def VS{i:Nat}{x:a9}{Q:Option a9->b9->Prop}(hit:gY s.heap it t (i:Int))(ht:P1 s.heap t items)(hx:items[i]? = U x)(hz:(items.size:Int)<2 ^ 63)(hQ:∀h' tk,gY h' it t ((i:Int)-1)->jv it s.heap h'->Q (U x) {s with heap:=h',toks:=tk}):wpAny (model prog w) A (gK (.ref it)) Q E s:=by
 obtain⟨o,ho,hc,hd⟩:=id hit;have:i<items.size:=by
  rcases sq i items.size with h|h
  exact h;rw[Array.getElem?_eq_none h]at hx;exact nE hx
 refine c5 (gR (gI hit.typeIs nP
  (dN nP hit.typeIs Bp ?_ (Bq _))))
 refine c5 (eQ rfl ?_);refine c5 (F7 ho hd rfl ?_);refine c5 (F7 ho hd rfl ?_);refine c5 (oU ht.typeIs slot_tuple_getitem.lookup ?_);refine c5 (wpAny_mkInt ?_);refine c5 (gR (PyProof.Rows.getItem_tuple ht j1 b6 (PySem.seqIndex_of b6 b6) hx ?_));refine c5 (F7 ho hd rfl ?_);refine c5 (sy ho hd i9 ?_);refine i5 ⟨x,rfl,i5 (hQ _ _ ?_ (Eo ..))⟩;exact⟨_,ma _ ho (Et (pj hd _)),(OA ..).trans hc,by rw[pj hd];simp⟩
def YI{Q:Option a9->b9->Prop}(hh:A.handled=J)(hit:gY s.heap it t (-1))(hQ:∀h',xm it s.heap h'->Q J {s with heap:=h'}):wpAny (model prog w) A (gK (.ref it)) Q E s:=by
 obtain⟨o,ho,hc,hd⟩:=id hit;refine c5 (gR (gI hit.typeIs nP
  (dN nP hit.typeIs Bp ?_ (Bq _))))
 refine c5 (eQ rfl ?_);refine c5 (F7 ho hd rfl ?_);refine c5 (F7 ho hd rfl ?_);refine c5 (eO ?_);refine c5 ?_;refine c5 (sy ho hd o8 ?_);have ho1:=ma (DA (·.setIfInBounds 1 (G9 (-1)))) ho (Et (pj hd _));refine sy ho1 (pj hd _) o8 ?_;have x1:xm it s.heap ((s.heap.update it (DA (·.setIfInBounds 1 (G9 (-1))))).update it (DA (·.setIfInBounds 0 sf))) :=
  λb o hb e=>(md _ _ (ay hb)).trans ((md _ _ (ay hb)).trans e)
 first
 |show wpAny _ _ (newExc (.type "StopIteration") [] >>= _) _ _ _
 |(refine c5 ?_;show wpAny _ _ (newExc (.type "StopIteration") [] >>= _) _ _ _)
 refine c5 ?_;refine c5 (iL ?_ (by size_fits));refine c5 (eQ (by first|rfl|(simp only[firstArgMember];rfl)) ?_);refine iL ?_ (by size_fits)
 refine c5 (wpAny_handled ?_);first|rw[show A.in1.handled=J from hh]|rw[hh]
 refine c5 (i5 (wpAny_throw ?_));refine c5 (oZ ⟨_,J4 _ rfl,rfl⟩ xy ?_);exact i5 (hQ _ ((x1.push _).push _))
def GL(hit:gY s.heap it t i)(h:Q (.ref it) s):wpAny (model prog w) A (pyIter (.ref it)) Q E s:=by refine wpAny_pyIter_slot hit.typeIs GN (dN GN hit.typeIs QM ?_ (QN _));exact i5 ⟨_,rfl,"reversed",_,hit.typeIs,nP.lookup,h⟩
def qW(x:P1 h t items)(e:∀o,h.get? t=U o->h'.get? t=U o):P1 h' t items:=let ⟨o,ho,r⟩:=x;⟨o,e _ ho,r⟩
def QJ{prog:n9}{w:k7}{A:t6}(hh:A.handled=J)(it t:Addr)(hne:t≠it)(items:Array a9)(hz:(items.size:Int)<2 ^ 63):
  Walks prog w A it [it,t] [it] items.size (λi v=>items[items.size-1-i]? = U v) (λi h=>i<=items.size/\gY h it t ((items.size:Int)-1-(i:Int))/\P1 h t items) where
 sub:=λb hb=>by simp at hb;simp[hb]
 frame:=λ_ _ _ x hk=>⟨x.1,x.2.1.at λo e=>hk it o8 o e,qW x.2.2 λo e=>hk t o8 o e⟩
 item:=λi s Q E hi x hQ=>by
  have hit:=x.2.1;rw[show(items.size:Int)-1-i=((items.size-1-i:Nat)) by omega]at hit;have hx:items[items.size-1-i]? = U (items[items.size-1-i]'b6):=EF b6;refine VS hit x.2.2 hx hz λh' tk hit' hs'=>?_;rw[show((items.size-1-i:Nat):Int)-1=items.size-1-((i+1)) by lia]at hit';exact hQ _ h' tk hx ⟨hi,hit',qW x.2.2 λo eo=>(hs'.2 t hne).trans eo⟩ λb o hb eo=>hs'.extBut b o (λh=>hb (by simp[h])) eo
 done:=λs Q E x hQ=>by
  have hit:=x.2.1;rw[show(items.size:Int)-1-items.size = -1 by lia]at hit;exact YI hh hit λh' he'=>hQ h' s.toks λb o hb eo=>he' b o (λh=>hb (by simp[h])) eo
 self:=λ_ _ _ _ x hQ=>GL x.2.1 hQ
def YH{Q:Bool->b9->Prop}(hit:gY s.heap it t ((items.size:Int)-1))(ht:P1 s.heap t items)(hz:items.size<=2 ^ 20)(h:∀b tk,Q b {s with toks:=tk}):wpAny (model prog w) A (Builtin.List.listLengthHint (.ref it)) Q E s:=by
 obtain⟨o,ho,hc,hd⟩:=id hit;refine c5 (oU hit.typeIs QL ?_);refine c5 (oU hit.typeIs yj.lookup ?_);generalize j9:("reversed.__length_hint__")=id0
 wp_delta
 subst j9;refine c5 (oZ (b:=Uf) hit.typeIs (by rw[lK];kernel_rfl) ?_);refine lL (λhab=>absurd hab a6) (λ_=>?_);refine lL (λhab=>absurd hab i6) (λ_=>?_);refine c5 (eO ?_);refine c5 (eQ (yj.bind _) ?_);refine c5 (gR (dN yj hit.typeIs QO ?_ (QP _)));refine c5 (eQ rfl ?_);refine c5 (F7 ho hd rfl ?_);refine lL (λhab=>absurd hab ax) (λ_=>?_);refine c5 (len_tuple ht b6 ?_);refine c5 (i5 ?_);refine c5 (F7 ho hd rfl ?_);show wpAny _ _ (if (items.size:Int)<items.size-1+1 then _ else _) _ _ _
 rw[b0 j1];refine c5 (wpAny_mkInt (i5 ⟨_,rfl,?_⟩));refine c5 (i5 ?_);have htl:sL (((items.size:Int)-1+1).toNat)=U':=by simp[sL,p8];exact dS
 refine lL (λhab=>absurd hab (by simp[Pz];lia)) (λ_=>?_);refine lL (λhab=>absurd hab j1) (λ_=>?_);exact lL (λhab=>absurd hab (by rw[htl];decide)) (λ_=>i5 (h _ _))
def Le {R:Result->b9->Prop} (hh:A.handled=J) (hit:gY s.heap it t ((items.size:Int) - 1)) (ht:P1 s.heap t items) (hne:t ≠ it) (hz:items.size<=2 ^ 20) (S:Addr) (res:a9) (c₀:Nat) (hS:s.heap.get? S=U { cls:=.type "list",data:=.seq #[] c₀ }) (hR:∀h' tk acc' c',(∀b o,b ≠ S->b ≠ it->s.heap.get? b=U o->h'.get? b=U o)->h'.get? S=U { cls:=.type "list",dict:=J,data:=.seq acc' c',slots:=#[] } ->
   ItemsOf (λi v=>items[items.size-1-i]? = U v) acc' items.size->R (.ok (.ret res)) {s with heap:=h',toks:=tk}) :
  wpAny (model prog w) A.in1 (Builtin.List.listExtendWith (.ref S) (.ref it) res)
   (λfin s'=>match fin with | .done f=>R (.ok f) s' | .again c'=>c'.quiet=Uf/\codeAny (model prog w) A c' R s') (λe s'=>R (.error e) s') s:=by
 obtain⟨o,ho,hc,hd⟩:=id hit;obtain⟨o2,ho2,hc2,_⟩:=id ht;have hSI:S≠it:=λe=>by rw[e,ho]at hS;cases hS;simp at hc
 have hSt:S≠t:=λe=>by rw[e,ho2]at hS;cases hS;simp at hc2
 have hSf:S∉[it,t]:=by simp[hSI,hSt]
 have key:∀h (c₁ tk),(∀b o,b≠S->s.heap.get? b=U o->h.get? b=U o) ->
   h.get? S=U {cls:=.type "list",data:=.seq #[] c₁}->codeAny (model prog w) A (.builtin "list.extend.loop" ⟨[.ref S,.ref it,res],[]⟩) R {s with heap:=h,toks:=tk}:=by
  intro h c₁ tk hk hS₁;refine codeAny_extend_loopS ((QJ (prog:=prog) (w:=w) (A:=A.in1) hh it t hne items b6).toS) (by rw[jt];lia) S hSf res items.size 0 _ #[] c₁ rfl (cY _) ⟨cY _,?_,qW ht λo e=>hk t o (ay hSt) e⟩ hS₁ (ItemsOf.nil _) λs' acc' c' hm hS' hacc=>?_;exact gY.at (by simpa using hit) λo e=>hk it o (ay hSI) e
  . rw[Moved.eq_with hm];refine hR s'.heap s'.toks acc' c' (λb o hb hb2 e=>hm.heap b o (λhmem=>?_) (hk b o hb e)) hS' hacc
    rcases List.mem_cons.mp hmem with e'|hmem
    exact hb e';exact hb2 (mem_singleton.mp hmem)
 refine c5 (oP hit.typeIs ?_);have h1:Po (.ref S) (.ref it)=U':=by simp[Po,hSI]
 rw[b0 (by rw[h1];decide)];refine c5 (GL hit ?_);refine c5 (da (YH hit ht hz λb tk=>?_));refine lL (λ_=>?_) (λ_=>i5 ⟨oQ Pu _,key _ c₀ _ (λb o _ e=>e) hS⟩);refine c5 (eO ?_);refine c5 ?_;refine c5 (DP hS rfl ?_);have hS₂:=ma (gO (·.push sf)) hS rfl;refine DP hS₂ rfl ?_;have hS₃:=ma (gO (·.pop)) hS₂ rfl;exact i5 ⟨oQ Pu _,key _ _ _ (λb o hb e=>(md _ _ (ay hb)).trans ((md _ _ (ay hb)).trans e)) hS₃⟩
def Gj (hh:A.handled=J) (hit:gY s.heap it t ((items.size:Int) - 1)) (ht:P1 s.heap t items) (hne:t ≠ it) (hz:items.size<=2 ^ 20) (hQ:∀h' tk acc' c',(∀b o,b ≠ it->s.heap.get? b=U o->h'.get? b=U o) ->
   h'.get? s.heap.objs.size=U {cls:=.type "list",dict:=J,data:=.seq acc' c',slots:=#[]}->ItemsOf (λi v=>items[items.size-1-i]? = U v) acc' items.size->Q (.ref s.heap.objs.size) {s with heap:=h',toks:=tk}) :
  wpAny (model prog w) A (call (.type "list") [.ref it]) Q E s:=by
 refine DI (Q₁:=λobj s₁=>obj=.ref s.heap.objs.size/\s₁={s with heap:=s.heap.push {cls:=.type "list",data:=.seq #[]}}) PySem.F.called_list (PySem.F.typeCall_list_1 _) PySem.F.entry_list_init
  (code_list_new _ ⟨rfl,rfl⟩) λobj s₁ h₁=>?_
 obtain⟨rfl,rfl⟩:=h₁;have hS:(s.heap.push {cls:=.type "list",data:=.seq #[]}).get? s.heap.objs.size=U {cls:=.type "list",data:=.seq #[]}:=J4 _ rfl;refine⟨⟨_,hS,rfl⟩,PySem.F.args_list_init_2 _ _,?_⟩;refine c5 ?_;refine c5 (fg hS rfl (i5 ?_));refine c5 (DP hS rfl ?_);have hS₂:=ma (gO (λ_=>(#[]))) hS rfl
 have oth:∀b o,s.heap.get? b=U o->((s.heap.push {cls:=.type "list",data:=.seq #[]}).update s.heap.objs.size (gO (λ_=>(#[])))).get? b=U o :=
  λb o e=>(md _ _ (bX (q5 e))).trans (s9 _ e)
 refine c5 (xl ?_);refine Le (A:=A.in1) hh (hit.at λo e=>oth it o e) (qW ht λo e=>oth t o e) hne hz _ .none _ hS₂ λh' tk acc' c' hk hS' hacc=>?_;exact⟨rfl,hQ h' tk acc' c' (λb o hb e=>hk b o (E9 (q5 e)) hb (oth b o e)) hS' hacc⟩
end
end
section
variable{X:Cx}{a:Expr}{p v h:Pos}
def UM(K:d2):List V->Hp->VK->Prop:=λxs H Q=>∃a ys,xs=[.ref a]/\O0 K H a ys/\ys.length<=1000/\∀l,H l=J->Q (.ref l) (upd H l (.lst ys.reverse))
def IU{t:TA}{pos d:Pos}(R:X.A.handled=J)(Z:Gl X "list")(G:X.mg "list" = J)(S:cC "list" = U (.type "list"))(B:Gl X "reversed")(n:X.mg "reversed" = J)(N:PA X [a] t)(O:autoParam (e8 [.Call (.Name "reversed" v) [a] [] d] X.env=(U',eval (.Call (.Name "reversed" v) [a] [] d) X.env)::e8 [] X.env) d3._auto_1)(m:autoParam ((p5 pos (e8 [] X.env)).any (·.1)=U') d3._auto_1)(C:autoParam (e8 [a] X.env=(U',eval a X.env)::e8 [] X.env) d3._auto_1)(j:autoParam ((p5 d (e8 [] X.env)).any (·.1)=U') d3._auto_1)(hn:autoParam (p5 pos (e8 [] X.env)=[]) d3._auto_1):
  PE X (.Call (.Name "list" p) [.Call (.Name "reversed" v) [a] [] d] [] pos) (vG (UM X.K) t):=by
 intro l s V H Q I h;refine jD (cP I Z G S ?_ a6 a6);refine iN ?_ O m;refine sH (jD (cP I B n Py ?_ a6 a6));refine iN (t9 (N d l s V H _ I h) λus s1 ⟨vs,H1,z,P,M⟩=>?_) C j
 obtain⟨b,ys,e,hq,hz,q⟩:=M;subst e;cases P with
 |cons r rr =>
  cases rr;cases r;obtain⟨g,E,x,_⟩:=z.tuple hq;have:=E.length;refine XC x (by simp;lia) λtk=>xN ?_;refine Gj R ⟨_,J4 _ rfl,rfl,rfl⟩ (qW x λo e=>s9 _ e) (E9 (let ⟨o,ho,_⟩:=x;q5 ho)) (by simp;lia) λY T f c F hD y=>?_;refine⟨.ref _,_,z.laid (λb u e=>F b u (E9 (q5 e)) (s9 _ e)) i9 (show P9 X.prog X.w _ Y _ (.lst _)from⟨?_,f.toList,c,?_,by omega⟩),rfl,q _ (z.x5.fresh i9)⟩;rw[kq];omega
  . have W:f.toList=g.reverse:=by
      refine List.ext_getElem? λi=>?_
      rcases sq i g.length with k|k
      . have D:i<f.size:=by rw[y.1];omega
        have L:=y.2 i _ (EF D);rw[Es k,Array.getElem?_toList,EF D,<-L];simp
      rw[ku (by rw[xS,y.1];omega),ku (by rw[kq];exact k)]
    rw[W];exact E.reverse
noncomputable def lr(Fl:DL):DV:=λds=>(Fl ds).bind λl=>match l with
 | [.tuple l]=>if l.length<=1000 then U (.own l.reverse)else J
 |_=>J
def IG{K':d2}{fr:Bool}{t:TA}{s:DL}{pos b:Pos}(y:X.K=K')(D:X.A.handled=J)(G:Gl X "list")(v:X.mg "list" = J)(E:cC "list" = U (.type "list"))(j:Gl X "reversed")(g:X.mg "reversed" = J)(o:aY X fr [a] t s)(z:autoParam (e8 [.Call (.Name "reversed" h) [a] [] b] X.env=(U',eval (.Call (.Name "reversed" h) [a] [] b) X.env)::e8 [] X.env) d3._auto_1)(f:autoParam ((p5 pos (e8 [] X.env)).any (·.1)=U') d3._auto_1)(k:autoParam (e8 [a] X.env=(U',eval a X.env)::e8 [] X.env) d3._auto_1)(e:autoParam ((p5 b (e8 [] X.env)).any (·.1)=U') d3._auto_1)(w:autoParam (p5 pos (e8 [] X.env)=[]) d3._auto_1):
  PX X fr (.Call (.Name "list" p) [.Call (.Name "reversed" h) [a] [] b] [] pos) (vG (UM K') t) (lr s):=by
 subst y;refine⟨IU D G v E j g o.p z f k e w,?_⟩;intro O d B F H I pv Q S c q;obtain⟨l,x,c⟩:=b5 c;refine o.t O d B F H I l _ S x λM P n C=>?_;split at c
 . split at c
   . rename_i N;cases c;cases C with
     |cons r L =>
      cases L;cases r with
      |tup i m =>
       have:=m.length;exact⟨_,_,rfl,l8.cJ i,by simp[*],λp u=>q _ _ (n.trans (d9.new u)) (RX.back (jc u m.reverse) n)⟩
   exact nE c
 exact nE c
end
end L2
namespace Sx
def sm:Nat->(Nat->Int)->Int
 | 0,_=>0
 |n+1,f=>sm n f+f n
def j3{n:Nat}{f g:Nat->Int}(h:∀i,i<n->f i=g i):sm n f=sm n g:=by
 induction n with
 |zero=>rfl
 |succ n a=>rw[sm,sm,a λi b=>h i aW,h n j1]
def fK{n:Nat}{f:Nat->Int}(h:∀i,i<n->f i=0):sm n f=0:=by
 induction n with
 |zero=>rfl
 |succ n a=>rw[sm,a λi b=>h i aW,h n j1];rfl
def gp(n:Nat)(f g:Nat->Int):sm n (λi=>f i+g i)=sm n f+sm n g:=by
 induction n with
 |zero=>rfl
 |succ n a=>rw[sm,sm,sm,a];lia
def z0(n:Nat)(a:Int)(f:Nat->Int):sm n (λi=>a*f i)=a*sm n f:=by
 induction n with
 |zero=>rw[sm,sm,J3]
 |succ n b=>rw[sm,sm,b,bj]
def GH(n:Nat)(a:Int)(f:Nat->Int):sm n (λi=>f i*a)=sm n f*a:=by rw[x9,<-z0];exact j3 λi _=>x9 _ _
def M8{n k:Nat}{f:Nat->Int}(a:k<n)(h:∀i,i<n->i≠k->f i=0):sm n f=f k:=by
 induction n with
 |zero=>simp_all
 |succ n d =>
  rw[sm];by_cases c:k=n;subst c;rw[fK λi b=>h i aW (E9 c6)];simp[*];rw[d (lS (pe c6) c6) λi b a=>h i aW a,h n j1 λz=>c z.symm];simp[*]
def Yy{n k:Nat}{f:Nat->Int}(a:k+1<n)(h:∀i,i<n->i≠k->i≠k+1->f i=0):sm n f=f k+f (k+1):=by
 induction n with
 |zero=>simp_all
 |succ n g =>
  rw[sm];by_cases c:k+1=n;subst c;rw[M8 j1 λi b a=>h i aW a (E9 c6)];rw[g (lS (pe c6) c6) λi b d e=>h i aW d e,h n j1 b6 λz=>c z.symm];simp[*]
def nN(n m:Nat)(f:Nat->Nat->Int):sm n (λi=>sm m λj=>f i j)=sm m λj=>sm n λi=>f i j:=by
 induction n with
 |zero=>rw[sm];exact(fK λ_ _=>rfl).symm
 |succ n a =>
  rw[sm,a,<-gp];rfl
def gm(n:Nat)(f g:Nat->Int):sm n (λi=>f i-g i)=sm n f-sm n g:=by
 have e:(λi=>f i-g i)=λi=>f i+(-1)*g i:=by funext i;lia
 rw[e,gp,z0];lia
def vH{n k:Nat}(f:Nat->Int)(a:k<n):sm n f=f k+sm n λi=>if i=k then 0 else f i:=by
 have:sm n f=sm n λi=>(if i=k then f k else 0)+(if i=k then 0 else f i):=j3 λi _=>by
  by_cases c:i=k;rw[b3 c,b3 c,c];simp[*];rw[b0 c,b0 c];simp[*]
 rw[this,gp,M8 a λi _ h=>by rw[b0 h],b3 rfl]
def skip(j c:Nat):Nat:=if c<j then c else c+1
noncomputable def det:Nat->(Nat->Nat->Int)->Int
 | 0,_=>1
 |n+1,M=>sm (n+1) λj=>(-1) ^ j*M j 0*det n λc r=>M (skip j c) (r+1)
def VM{j c n:Nat}(a:j<n+1)(b:c<n):skip j c<n+1:=by delta skip;split<;>lia
def VL{j c:Nat}:skip j c≠j:=by delta skip;split<;>lia
theorem N0:∀{n:Nat} {M a:Nat->Nat->Int},(∀c r,c<n->r<n->M c r=a c r)->det n M=det n a
 | 0,_,_,_=>rfl
 |n+1,M,a,h=>by
  refine j3 λj b=>?_;rw[h j 0 b j1,N0 λc r d e=>h _ _ (VM b d) j1]
def t4(M:Nat->Nat->Int)(k:Nat)(v:Nat->Int):Nat->Nat->Int:=λc r=>if c=k then v r else M c r
def X8(M:Nat->Nat->Int)(k:Nat)(v:Nat->Int)(r:Nat):t4 M k v k r=v r:=by delta t4;simp
def S7(M:Nat->Nat->Int){k c:Nat}(v:Nat->Int)(r:Nat)(h:c≠k):t4 M k v c r=M c r:=by delta t4;rw[b0 h]
def back(j k:Nat):Nat:=if k<j then k else k-1
def zr{j k:Nat}(h:k≠j):skip j (back j k)=k:=by
 delta back;by_cases c:k<j;rw[b3 c];delta skip;rw[b3 c];rw[b0 c];delta skip;rw[b0 b6];lia
def XG{j k n:Nat}(a:j<n+1)(b:k<n+1)(h:k≠j):back j k<n:=by delta back;split<;>lia
def QB{j c d:Nat}(h:skip j c=skip j d):c=d:=by unfold skip at h;split at h<;>split at h<;>lia
theorem oz:∀{n k:Nat} (M:Nat->Nat->Int) (a b:Int) (u v:Nat->Int),k<n->det n (t4 M k λr=>a*u r+b*v r)=a*det n (t4 M k u)+b*det n (t4 M k v)
 | 0,k,M,a,b,u,v,h=>by exact kn
 |n+1,k,M,a,b,u,v,h=>by
  rw[det,det,det,<-z0,<-z0,<-gp];refine j3 λj g=>?_;by_cases c:k=j
  . subst c;have e:∀w:Nat->Int,det n (λc r=>t4 M k w (skip k c) (r+1))=det n (λc r=>M (skip k c) (r+1)):=λw=>N0 λc r _ _=>S7 _ _ _ VL;rw[e,e,e,X8,X8,X8];generalize (-1) ^ k=s;rw[bj,Dm]
    congr 1
    rw[<-F0,<-F0,<-F0,x9 s a];rw[<-F0,<-F0,<-F0,x9 s b]
  . have e:∀w:Nat->Int,det n (λc r=>t4 M k w (skip j c) (r+1))=det n (t4 (λc r=>M (skip j c) (r+1)) (back j k) λr=>w (r+1)):=λw=>N0 λf r _ _=>by
      delta t4;by_cases d:f=back j k;rw[b3 d,d,zr c,b3 rfl];rw[b0 d,b0 λz=>d (QB (by rw[z,zr c]))]
    rw[e,e,e,S7 _ _ _ (λz=>c z.symm),S7 _ _ _ (λz=>c z.symm),S7 _ _ _ (λz=>c z.symm),oz _ a b (λr=>u (r+1)) (λr=>v (r+1)) (XG g h c)];generalize (-1) ^ j*M j 0=s;rw[bj]
    congr 1
    rw[<-F0,<-F0,x9 s a];rw[<-F0,<-F0,x9 s b]
theorem tR:∀{n k:Nat} {M:Nat->Nat->Int},k+1<n->(∀r,r<n->M k r=M (k+1) r)->det n M=0
 | 0,k,M,h,_=>by simp_all
 |n+1,k,M,h,e=>by
  rw[det,Yy h]
  . have b:det n (λc r=>M (skip k c) (r+1))=det n (λc r=>M (skip (k+1) c) (r+1)):=N0 λc r _ a=>by
      by_cases d:c=k;subst d;rw[show skip c c=c+1 from by delta skip;rw[b0 j1],show skip (c+1) c=c from by delta skip;rw[b3 j1]];exact(e _ j1).symm;rw[show skip k c=skip (k+1) c from by delta skip;split<;>split<;>lia]
    rw[b,e 0 j1,Int.pow_succ];lia
  . intro j f g i;have:det n (λc r=>M (skip j c) (r+1))=0:=by
     by_cases c:j<k;refine tR (k:=k-1) b6 λr a=>?_;rw[show skip j (k-1)=k from by delta skip;rw[b0 ag];lia,show skip j (k-1+1)=k+1 from by delta skip;rw[b0 ag];lia];exact e _ j1;refine tR (k:=k) b6 λr a=>?_;rw[show skip j k=k from by delta skip;rw[b3 b6],show skip j (k+1)=k+1 from by delta skip;rw[b3 b6]];exact e _ j1
    simp_all
def kL(M:Nat->Nat->Int)(k:Nat):t4 M k (M k)=M:=by
 funext c r
 delta t4
 simp_all
def Kr(M:Nat->Nat->Int)(k:Nat)(u v:Nat->Int):t4 (t4 M k u) k v=t4 M k v:=by
 funext c r
 delta t4
 simp_all
def fx(M:Nat->Nat->Int){k l:Nat}(u v:Nat->Int)(h:k≠l):t4 (t4 M k u) l v=t4 (t4 M l v) k u:=by
 funext c r
 delta t4;by_cases a:c=l;rw[b3 a,b0 b6,b3 a];rw[b0 a];by_cases b:c=k;rw[b3 b,b3 b];rw[b0 b,b0 b,b0 a]
def zd{n k:Nat}(M:Nat->Nat->Int)(u v:Nat->Int)(h:k<n):det n (t4 M k λr=>u r+v r)=det n (t4 M k u)+det n (t4 M k v):=by have:=oz M 1 1 u v h;simpa using this
def uo{n i j:Nat}(b:i<n)(c:j<n)(a:i≠j)(M:Nat->Nat->Int)(z:∀w,det n (t4 (t4 M i w) j w)=0)(u v:Nat->Int):det n (t4 (t4 M i u) j v) = - det n (t4 (t4 M i v) j u):=by
 have h:=z λr=>u r+v r;rw[zd _ _ _ c,fx _ _ _ a,fx _ _ _ a,zd _ _ _ b,zd _ _ _ b,fx _ _ _ a.symm,fx _ _ _ a.symm,fx _ _ _ a.symm,fx _ _ _ a.symm,z u,z v]at h;lia
theorem vm:∀(d:Nat) {n a:Nat} {M:Nat->Nat->Int},a+d+1<n->(∀r,r<n->M a r=M (a+d+1) r)->det n M=0
 | 0,n,a,M,h,e=>tR h e
 |d+1,n,a,M,h,e=>by
  have b:M=t4 (t4 M (a+d+1) (M (a+d+1))) (a+d+1+1) (M (a+d+1+1)):=by rw[kL,kL]
  rw[b,uo aL ag j1 M (λw=>tR (k:=a+d+1) ag λr _=>by rw[S7 _ _ _ j1,X8,X8])];rw[vm d (a:=a) aL λr c=>?_];rfl;rw[S7 _ _ _ b6,S7 _ _ _ b6,S7 _ _ _ j1,X8];exact e r c
def qe{n i j:Nat}{M:Nat->Nat->Int}(f:i<n)(d:j<n)(c:i≠j)(e:∀r,r<n->M i r=M j r):det n M=0:=by
 rcases sq i j with h|h
 refine vm (j-i-1) (a:=i) ag λr b=>?_;rw[show i+(j-i-1)+1=j from by omega];exact e r b;refine vm (i-j-1) (a:=j) ag λr b=>?_;rw[show j+(i-j-1)+1=i from by lia];exact(e r b).symm
def TC{n i j:Nat}(c:i<n)(b:j<n)(a:i≠j)(M:Nat->Nat->Int)(u v:Nat->Int):det n (t4 (t4 M i u) j v) = - det n (t4 (t4 M i v) j u) :=
 uo c b a M (λw=>qe c b a λr _=>by rw[S7 _ _ _ a,X8,X8]) u v
theorem za{n k:Nat}(M:Nat->Nat->Int)(h:k<n)(a:Nat->Int)(V:Nat->Nat->Int):∀m,det n (t4 M k λr=>sm m λi=>a i*V i r)=sm m λi=>a i*det n (t4 M k (V i))
 | 0=>by
  have:=oz M 0 0 (λ_=>0) (λ_=>0) h;simp only[aw]at this;exact this
 |m+1=>by
  have:=oz M 1 (a m) (λr=>sm m λi=>a i*V i r) (V m) h;simp only[U2]at this;show det n (t4 M k λr=>sm m (λi=>a i*V i r)+a m*V m r)=sm m (λi=>a i*det n (t4 M k (V i)))+a m*det n (t4 M k (V m));rw[this,za M h a V m]
theorem zb:∀n,det n (λc r=>if c=r then 1 else 0)=1
 | 0=>rfl
 |n+1=>by
  rw[det,M8 (k:=0) j1]
  . have e:det n (λc r=>if skip 0 c=r+1 then 1 else 0)=det n (λc r=>if c=r then 1 else 0):=N0 λc r _ _=>by
      rw[show skip 0 c=c+1 from by delta skip;rw[b0 j1]];by_cases h:c=r;rw[b3 h,b3 j1];rw[b0 h,b0 j1]
    rw[e,zb n,b3 rfl];rfl
  intro j _ a;rw[b0 a,J3,aw]
def sN:Nat->(Nat->Nat)->Nat
 | 0,_=>0
 |n+1,f=>sN n f+f n
def pN:Nat->(Nat->Nat)->Nat
 | 0,_=>1
 |n+1,f=>pN n f*f n
def KU(n:Nat)(f:Nat->Int):(sm n f).natAbs<=sN n λi=>(f i).natAbs:=by
 induction n with
 |zero=>exact Z6 _
 |succ n a =>
  exact i0 (Int.natAbs_add_le _ _) (OP a _)
def AG{n:Nat}{f g:Nat->Nat}(h:∀i,i<n->f i<=g i):sN n f<=sN n g:=by
 induction n with
 |zero=>exact Z6 _
 |succ n a=>exact xx (a λi b=>h i aW) (h n j1)
def a1G{n:Nat}{f g:Nat->Nat}(h:∀i,i<n->f i<=g i):pN n f<=pN n g:=by
 induction n with
 |zero=>exact Z6 _
 |succ n a=>exact xw (a λi b=>h i aW) (h n j1)
def Se{n:Nat}{f g:Nat->Nat}(h:∀i,i<n->f i=g i):pN n f=pN n g:=by
 induction n with
 |zero=>rfl
 |succ n a=>rw[pN,pN,a λi b=>h i aW,h n j1]
def VQ(n:Nat)(f:Nat->Nat):sN (n+1) f=f 0+sN n λi=>f (i+1):=by
 induction n with
 |zero=>rw[sN,sN,sN];exact oM _ _
 |succ n a=>rw[sN,a,sN];exact Nat.add_assoc _ _ _
def VR(n a:Nat)(f:Nat->Nat):sN n (λi=>f i*a)=sN n f*a:=by
 induction n with
 |zero=>rw[sN,sN,Nat.zero_mul]
 |succ n b=>rw[sN,sN,b,Nat.add_mul]
theorem BD(x y:Nat->Nat):∀n,sN (n+1) (λj=>x j*pN n λc=>y (skip j c))<=pN (n+1) λc=>x c+y c
 | 0=>by simp[sN,pN]
 |n+1=>by
  rw[sN];have a:sN (n+1) (λj=>x j*pN (n+1) λc=>y (skip j c))<=sN (n+1) λj=>(x j*pN n λc=>y (skip j c))*y (n+1):=AG λj f=>by
   rw[pN,show skip j n=n+1 from by delta skip;rw[b0 b6],Dz];exact Z6 _
  rw[VR]at a;have b:pN (n+1) (λc=>y (skip (n+1) c))=pN (n+1) y:=Se λc e=>by rw[show skip (n+1) c=c from by delta skip;rw[b3 e]]
  have d:pN (n+1) y<=pN (n+1) λc=>x c+y c:=a1G λc _=>by simp[*]
  rw[b];refine i0 (OP a _) ?_;show _<=(pN (n+1) λc=>x c+y c)*(x (n+1)+y (n+1));rw[Nat.mul_add,oM,sr (x (n+1))];exact xx (lY _ d) (lY _ (BD x y n))
theorem zR:∀(n:Nat) (M:Nat->Nat->Int),(det n M).natAbs<=pN n λc=>sN n λr=>(M c r).natAbs
 | 0,M=>by simp[det,pN]
 |n+1,M=>by
  refine i0 (KU _ _) ?_;have e:(λc=>sN (n+1) λr=>(M c r).natAbs)=λc=>(M c 0).natAbs+sN n λr=>(M c (r+1)).natAbs:=by funext c;rw[VQ]
  rw[e];refine i0 (AG λj a=>?_) (BD (λc=>(M c 0).natAbs) (λc=>sN n λr=>(M c (r+1)).natAbs) n)
  rw[aS,aS];have:((-1) ^ j).natAbs=1:=by simp
  rw[this,Nat.one_mul];exact Nat.mul_le_mul_left _ (zR n _)
end Sx
namespace Sx
structure Pb where
 m:Nat
 n:Nat
 A:Nat->Nat->Int
 b:Nat->Int
 u:Nat->Option Int
 c:Nat->Nat->Int
structure Tb where
 B:Nat->Nat
 full:Nat->Bool
 size:Int
 inv:Nat->Nat->Int
 pr:Nat->Nat->Int
 rt:Nat->Int
def dot(m:Nat)(x y:Nat->Int):Int:=sm m λr=>x r*y r
def jk{m:Nat}{x y x' y':Nat->Int}(h:∀r,r<m->x r=x' r)(h':∀r,r<m->y r=y' r):dot m x y=dot m x' y':=j3 λr a=>by rw[h r a,h' r a]
def tQ(m l:Nat)(x:Nat->Int)(a:Nat->Int)(V:Nat->Nat->Int):dot m x (λr=>sm l λi=>a i*V i r)=sm l λi=>a i*dot m x (V i):=by
 delta dot;have:sm m (λr=>x r*sm l λi=>a i*V i r)=sm m λr=>sm l λi=>a i*(x r*V i r):=j3 λr _=>by rw[<-z0];exact j3 λi _=>by rw[<-F0,<-F0,x9 (x r)]
 rw[this,nN];exact j3 λi _=>z0 _ _ _
def HU(m:Nat)(a:Int)(x y:Nat->Int):dot m (λr=>a*x r) y=a*dot m x y:=by delta dot;rw[<-z0];exact j3 λr _=>F0 _ _ _
def vk(m:Nat)(a:Int)(x y:Nat->Int):dot m x (λr=>a*y r)=a*dot m x y:=by delta dot;rw[<-z0];exact j3 λr _=>by rw[<-F0,<-F0,x9 a]
def HR(m:Nat)(x y z:Nat->Int):dot m x (λr=>y r-z r)=dot m x y-dot m x z:=by delta dot;rw[<-gm];exact j3 λr _=>Int.mul_sub _ _ _
def unit(q:Nat):Nat->Int:=λp=>if p=q then 1 else 0
def qb{m q:Nat}(x:Nat->Int)(h:q<m):dot m x (unit q)=x q:=by
 delta dot;rw[M8 h λi _ a=>by delta unit;rw[b0 a,J3]];delta unit;simp
def Kn{m p:Nat}(x:Nat->Int)(h:p<m):(sm m λq=>x q*unit q p)=x p:=by
 rw[M8 h λi _ a=>by delta unit;rw[b0 (λz=>a z.symm),J3]];delta unit;simp
def Ks{m k:Nat}{M:Nat->Nat->Int}{v w:Nat->Int}(h:∀p,p<m->v p=w p):det m (t4 M k v)=det m (t4 M k w):=N0 λc r _ a=>by
 delta t4
 simp_all
def Tb.M(P:Pb)(T:Tb):Nat->Nat->Int:=λk=>P.A (T.B k)
structure G4(P:Pb)(T:Tb):Prop where
 bn:∀k,k<P.m->T.B k<P.n
 inj:∀k l,k<P.m->l<P.m->T.B k=T.B l->k=l
 sg:∃s:Int,(s=1\/s = -1)/\s*T.size=det P.m (T.M P)/\∀r,r<P.m->∀x,s*dot P.m (T.inv r) x=det P.m (t4 (T.M P) r x)
 pos:0<T.size
 span:∀p q,p<P.m->q<P.m->sm P.m (λk=>T.inv k q*P.A (T.B k) p)=if p=q then T.size else 0
 pr:∀t q,q<P.m->T.pr t q=sm P.m λk=>P.c t (T.B k)*T.inv k q
def VF{s:Int}(h:s=1\/s = -1):s*s=1:=by rcases h with h|h<;>rw[h]<;>rfl
section
variable{P:Pb}{T:Tb}
def G4.left(L:G4 P T){r k:Nat}(b:r<P.m)(g:k<P.m):dot P.m (T.inv r) (P.A (T.B k))=if r=k then T.size else 0:=by
 obtain⟨s,d,e,f⟩:=L.sg;have a:s*dot P.m (T.inv r) (P.A (T.B k))=s*(if r=k then T.size else 0):=by
  rw[(f r b (P.A (T.B k)))];by_cases c:r=k;subst c;rw[b3 rfl,e];exact m2 _ (kL (T.M P) r)
  . rw[b0 c,J3];exact qe b g c λp _=>by
     rw[X8,S7 _ _ _ (λz=>c z.symm)];rfl
 have:s*(s*dot P.m (T.inv r) (P.A (T.B k)))=s*(s*(if r=k then T.size else 0)):=by rw[a]
 rw[<-F0,<-F0,VF d,U2,U2]at this;exact this
theorem G4.by(L:G4 P T)(x:Nat->Int){p:Nat}(a:p<P.m):(sm P.m λk=>dot P.m (T.inv k) x*P.A (T.B k) p)=T.size*x p:=by
 have:(sm P.m λk=>dot P.m (T.inv k) x*P.A (T.B k) p)=sm P.m λk=>sm P.m λq=>x q*(T.inv k q*P.A (T.B k) p):=j3 λk _=>by delta dot;rw[<-GH];exact j3 λq _=>by rw[x9 (T.inv k q),F0]
 rw[this,nN];have:(sm P.m λq=>sm P.m λk=>x q*(T.inv k q*P.A (T.B k) p))=sm P.m λq=>x q*(if p=q then T.size else 0):=j3 λq hq=>by rw[z0,L.span p q a hq]
 rw[this,M8 a λi _ b=>by rw[b0 (λz=>b z.symm),J3],b3 rfl,x9]
def G4.ratio(L:G4 P T){s:Int}(u:s=1\/s = -1)(g:∀r,r<P.m->∀x,s*dot P.m (T.inv r) x=det P.m (t4 (T.M P) r x)){r l:Nat}(c:r<P.m)(f:l<P.m)(b:r≠l)(a x:Nat->Int):
  T.size*(s*det P.m (t4 (t4 (T.M P) l a) r x))=dot P.m (T.inv l) a*dot P.m (T.inv r) x-dot P.m (T.inv r) a*dot P.m (T.inv l) x:=by
 have:T.size*det P.m (t4 (t4 (T.M P) l a) r x)=det P.m (t4 (t4 (T.M P) l a) r λp=>sm P.m λk=>dot P.m (T.inv k) x*P.A (T.B k) p):=by
  have:=oz (t4 (T.M P) l a) T.size 0 x (λ_=>0) c;simp only[so,aw]at this;rw[<-this];exact Ks λp j=>(L.by x j).symm
 have:=za (t4 (T.M P) l a) c (λk=>dot P.m (T.inv k) x) (λk=>P.A (T.B k)) P.m
 have t:(sm P.m λk=>dot P.m (T.inv k) x*det P.m (t4 (t4 (T.M P) l a) r (P.A (T.B k))))=sm P.m λk=>(if k=r then dot P.m (T.inv r) x*(s*dot P.m (T.inv l) a)else 0)+(if k=l then dot P.m (T.inv l) x*(-(s*dot P.m (T.inv r) a))else 0):=j3 λk o=>by
  by_cases d:k=r
  . subst d;rw[b3 rfl,b0 b,so,g l f a]
    congr 1
    rw[fx _ _ _ b.symm];exact m2 (λz=>det P.m (t4 z l a)) (kL (T.M P) k)
  . by_cases e:k=l
    . subst e;rw[b0 d,b3 rfl,N7,g r c a]
      congr 1
      rw[TC f c (λz=>b z.symm) (T.M P) a (P.A (T.B k))]
      congr 1
      exact m2 (λz=>det P.m (t4 z r a)) (kL (T.M P) k)
    rw[b0 d,b0 e];rw[qe o c d λp _=>by rw[S7 _ _ _ d,S7 _ _ _ e,X8];rfl];simp
 have n:(sm P.m λk=>if k=r then dot P.m (T.inv r) x*(s*dot P.m (T.inv l) a)else 0)=dot P.m (T.inv r) x*(s*dot P.m (T.inv l) a):=by rw[M8 c (λi _ h=>by rw[b0 h]),b3 rfl]
 have q:(sm P.m λk=>if k=l then dot P.m (T.inv l) x*(-(s*dot P.m (T.inv r) a))else 0)=dot P.m (T.inv l) x*(-(s*dot P.m (T.inv r) a)):=by rw[M8 f (λi _ h=>by rw[b0 h]),b3 rfl]
 rw[gp,n,q]at t;grind
def Tb.c9(P:Pb)(T:Tb)(a r:Nat):Int:=dot P.m (T.inv r) (P.A a)
def Tb.rest(P:Pb)(T:Tb)(t a:Nat):Int:=P.c t a*T.size-dot P.m (T.pr t) (P.A a)
structure Df(P:Pb)(T:Tb)(a l:Nat)(g:Int)(T':Tb):Prop where
 b:∀k,k<P.m->T'.B k=if k=l then a else T.B k
 size:T'.size=g*T.c9 P a l
 il:∀q,q<P.m->T'.inv l q=g*T.inv l q
 ir:∀r q,r<P.m->q<P.m->r≠l->T.size*T'.inv r q=T.inv r q*(g*T.c9 P a l)-g*T.c9 P a r*T.inv l q
 pr:∀t q,q<P.m->T.size*T'.pr t q=T.pr t q*(g*T.c9 P a l)+g*T.rest P t a*T.inv l q
def G4.exact(L:G4 P T){a l:Nat}(c:l<P.m)(g:Int):∀r q,r<P.m->q<P.m->r≠l->∃z,T.size*z=T.inv r q*(g*T.c9 P a l)-g*T.c9 P a r*T.inv l q:=λr q d hq b=>by obtain⟨s,h,i,f⟩:=L.sg;have e:=L.ratio h f d c b (P.A a) (unit q);rw[qb _ hq,qb _ hq]at e;refine⟨g*(s*det P.m (t4 (t4 (T.M P) l (P.A a)) r (unit q))),?_⟩;delta Tb.c9;grind
def sZ{m l:Nat}(f:Nat->Int)(h:l<m)(g:Nat->Int):(sm m λk=>if k=l then g k else f k)=g l+(sm m f-f l):=by
 rw[vH _ h,b3 rfl,vH f h];have:(sm m λi=>if i=l then 0 else if i=l then g i else f i)=sm m λi=>if i=l then 0 else f i:=j3 λi _=>by simp_all
 lia
def vS(L:G4 P T)(t:Nat)(x:Nat->Int):dot P.m (T.pr t) x=sm P.m λk=>P.c t (T.B k)*dot P.m (T.inv k) x:=by
 delta dot;have:(sm P.m λr=>T.pr t r*x r)=sm P.m λr=>sm P.m λk=>P.c t (T.B k)*(T.inv k r*x r):=j3 λr a=>by rw[L.pr t r a,<-GH];exact j3 λk _=>by rw[F0]
 rw[this,nN];exact j3 λk _=>z0 _ _ _
def CD(L:G4 P T){a l:Nat}(d:l<P.m){g:Int}(b:Nat->Nat->Int)(il:∀q,q<P.m->b l q=g*T.inv l q)(h:∀r q,r<P.m->q<P.m->r≠l->T.size*b r q=T.inv r q*(g*T.c9 P a l)-g*T.c9 P a r*T.inv l q)(t:Nat){q:Nat}(hq:q<P.m):
  T.size*(sm P.m λk=>P.c t (if k=l then a else T.B k)*b k q)=T.pr t q*(g*T.c9 P a l)+g*T.rest P t a*T.inv l q:=by
 have e:(T.size*sm P.m λk=>P.c t (if k=l then a else T.B k)*b k q)=sm P.m λk=>if k=l then T.size*(P.c t a*(g*T.inv l q))else(g*T.c9 P a l)*(P.c t (T.B k)*T.inv k q)-(g*T.inv l q)*(P.c t (T.B k)*T.c9 P a k):=by
  rw[<-z0];refine j3 λk f=>?_;by_cases c:k=l;subst c;rw[b3 rfl,b3 rfl,il q hq];rw[b0 c,b0 c];grind
 rw[e,sZ _ d,gm,z0,z0,<-L.pr t q hq];have:(sm P.m λk=>P.c t (T.B k)*T.c9 P a k)=dot P.m (T.pr t) (P.A a):=(vS L t (P.A a)).symm;delta Tb.rest;grind
def G4.a0G(L:G4 P T){a l:Nat}(c:l<P.m)(g:Int)(t:Nat){q:Nat}(hq:q<P.m):∃z,T.size*z=T.pr t q*(g*T.c9 P a l)+g*T.rest P t a*T.inv l q:=by
 have:∃b:Nat->Nat->Int,(∀q,q<P.m->b l q=g*T.inv l q)/\∀r q,r<P.m->q<P.m->r≠l->T.size*b r q=T.inv r q*(g*T.c9 P a l)-g*T.c9 P a r*T.inv l q:=by
  refine⟨λr q=>if r=l then g*T.inv l q else(T.inv r q*(g*T.c9 P a l)-g*T.c9 P a r*T.inv l q)/T.size,λq _=>by simp,λr q e hq h=>?_⟩;simp only[b0 h];obtain⟨z,f⟩:=L.exact c g r q e hq h;rw[<-f,gJ _ (by have:=L.pos;exact x6)]
 obtain⟨b,i,d⟩:=this;exact⟨_,CD L c b i d t hq⟩
def dA{a x y:Int}(h:0<a)(e:a*x=a*y):x=y:=xZ x6 e
def G4.turn(L:G4 P T){a l:Nat}{g:Int}{T':Tb}(N:a<P.n)(F:∀k,k<P.m->T.B k≠a)(u:l<P.m)(v:g=1\/g = -1)(G:0<g*T.c9 P a l)(Uff:Df P T a l g T'):G4 P T':=by
 obtain⟨s,j,Q,C⟩:=L.sg;have H:∀r x,det P.m (t4 (T'.M P) r x)=det P.m (t4 (t4 (T.M P) l (P.A a)) r x):=λr x=>N0 λc p z _=>by
  delta t4 Tb.M;by_cases i:c=r;rw[b3 i,b3 i];rw[b0 i,b0 i,Uff.b c z];by_cases f:c=l;rw[b3 f,b3 f];rw[b0 f,b0 f]
 have O:det P.m (T'.M P)=det P.m (t4 (T.M P) l (P.A a)):=N0 λc p z _=>by
  delta t4 Tb.M;rw[Uff.b c z];by_cases f:c=l;rw[b3 f,b3 f];rw[b0 f,b0 f]
 have y:=L.pos;refine⟨λk d=>?_,λk D d h e=>?_,⟨s*g,?_,?_,λr w x=>?_⟩,by rw[Uff.size];exact G,λp q o hq=>?_,λt q hq=>?_⟩;rw[Uff.b k d];split;exact N;exact L.bn k d;rw[Uff.b k d,Uff.b D h]at e;split at e;rename_i i;split at e;rename_i f;rw[i,f];exact absurd e.symm (F D h);split at e;exact absurd e (F k d);exact L.inj k D d h e
 . rcases j with j|j<;>rcases v with v|v<;>rw[j,v]<;>simp
 rw[Uff.size,O,<-C l u (P.A a)];delta Tb.c9;grind
 . rw[H];by_cases c:r=l
   . subst c;rw[Kr,<-C r w x];have:dot P.m (T'.inv r) x=g*dot P.m (T.inv r) x:=by rw[<-HU];exact jk (λq hq=>Uff.il q hq) λ_ _=>rfl
     grind
   . have:=L.ratio j C w u c (P.A a) x;refine dA y ?_;have K:T.size*dot P.m (T'.inv r) x=dot P.m (T.inv r) x*(g*T.c9 P a l)-g*T.c9 P a r*dot P.m (T.inv l) x:=by
      rw[<-HU];have:dot P.m (λq=>T.size*T'.inv r q) x=sm P.m λq=>(g*T.c9 P a l)*(T.inv r q*x q)-(g*T.c9 P a r)*(T.inv l q*x q):=j3 λq hq=>by simp only;rw[Uff.ir r q w hq c];grind
      rw[this,gm,z0,z0];delta dot;rw[x9 (g*T.c9 P a l)]
     have E:T.size*(s*g*dot P.m (T'.inv r) x)=s*g*(T.size*dot P.m (T'.inv r) x):=by grind
     rw[E,K];delta Tb.c9;grind
 . refine dA y ?_;have I:(T.size*sm P.m λk=>T'.inv k q*P.A (T'.B k) p)=sm P.m λk=>if k=l then T.size*(g*T.inv l q*P.A a p)else(g*T.c9 P a l)*(T.inv k q*P.A (T.B k) p)-(g*T.inv l q)*(T.c9 P a k*P.A (T.B k) p):=by
    rw[<-z0];refine j3 λk d=>?_;rw[Uff.b k d];by_cases c:k=l;subst c;rw[b3 rfl,b3 rfl,Uff.il q hq];rw[b0 c,b0 c];have:=Uff.ir k q d hq c;grind
   have E:(sm P.m λk=>T.c9 P a k*P.A (T.B k) p)=T.size*P.A a p:=(L.by (P.A a) o)
   rw[I,sZ _ u,gm,z0,z0,E,L.span p q o hq,Uff.size];split<;>grind
 . refine dA y ?_;rw[Uff.pr t q hq,<-CD L u T'.inv Uff.il Uff.ir t hq]
   congr 1
   exact j3 λk d=>by rw[Uff.b k d]
end
end Sx
namespace Sx
def uv(P:Pb)(j:Nat):Int:=(P.u j).getD 0
def Tb.am(P:Pb)(T:Tb)(k:Nat):Int:=dot P.m (T.inv k) T.rt
def fsum(P:Pb)(T:Tb)(f:Nat->Int):Int:=sm P.n λj=>if T.full j=Uf then uv P j*f j else 0
def Tb.sg(T:Tb)(a:Nat):Int:=if T.full a=Uf then -1 else 1
def pO(T:Tb)(a:Nat):(T.full a=Uf/\T.sg a = -1)\/(T.full a=U'/\T.sg a=1):=by delta Tb.sg;simp
structure Ok(P:Pb)(T:Tb):Prop where
 u7:G4 P T
 rt:∀p,p<P.m->T.rt p=P.b p-fsum P T λj=>P.A j p
 fu:∀j,j<P.n->T.full j=Uf->P.u j≠J/\∀k,k<P.m->T.B k≠j
 lo:∀k,k<P.m->0<=T.am P k
 hi:∀k v,k<P.m->P.u (T.B k)=U v->T.am P k<=v*T.size
def mP{P:Pb}{T T':Tb}{a:Nat}(b:a<P.n)(h:∀j,j<P.n->T'.full j=if j=a then !T.full a else T.full j)(f:Nat->Int):fsum P T' f=fsum P T f+T.sg a*(uv P a*f a):=by
 delta fsum;rw[vH _ b,vH (λj=>if T.full j=Uf then uv P j*f j else 0) b,h a b,b3 rfl]
 have:(sm P.n λi=>if i=a then 0 else if T'.full i=Uf then uv P i*f i else 0)=sm P.n λi=>if i=a then 0 else if T.full i=Uf then uv P i*f i else 0:=j3 λi g=>by
  by_cases c:i=a;rw[b3 c,b3 c];rw[b0 c,b0 c,h i g,b0 c]
 rcases pO T a with ⟨d,e⟩|⟨d,e⟩<;>rw[d,e]<;>simp<;>lia
def mO{P:Pb}{T T':Tb}(h:∀j,j<P.n->T'.full j=T.full j)(f:Nat->Int):fsum P T' f=fsum P T f:=j3 λj a=>by rw[h j a]
section
variable{P:Pb}{T T':Tb}
def G4.IB(L:G4 P T){k:Nat}(a:k<P.m)(t:Nat):T.rest P t (T.B k)=0:=by
 delta Tb.rest;rw[vS L,M8 a λi b h=>by rw[L.left b a,b0 h,J3],L.left a a,b3 rfl];simp[*]
def G4.J9(L:G4 P T){y:Nat->Int}{s:Int}(h:∀p,p<P.m->s*T.rt p=sm P.m λk=>y k*P.A (T.B k) p){k:Nat}(a:k<P.m):s*T.am P k=T.size*y k:=by
 delta Tb.am;rw[<-vk];have e:dot P.m (T.inv k) (λr=>s*T.rt r)=dot P.m (T.inv k) λr=>sm P.m λi=>y i*P.A (T.B i) r:=jk (λ_ _=>rfl) λr c=>h r c;rw[e,tQ,M8 a λi b h=>by rw[L.left a b,b0 (λz=>h z.symm),J3],L.left a a,b3 rfl,x9]
def G4.QR(L:G4 P T){p:Nat}(a:p<P.m):(sm P.m λk=>T.am P k*P.A (T.B k) p)=T.size*T.rt p:=L.by T.rt a
structure rV(P:Pb)(T:Tb)(a:Nat)(top bot:Int):Prop where
 nn:0<=top
 pb:0<bot
 own:∀v,P.u a=U v->top<=v*bot
 dn:∀k,k<P.m->0<T.sg a*T.c9 P a k->top*(T.sg a*T.c9 P a k)<=T.am P k*bot
 up:∀k v,k<P.m->T.sg a*T.c9 P a k<0->P.u (T.B k)=U v->top*(-(T.sg a*T.c9 P a k))<=(v*T.size-T.am P k)*bot
structure Kg(P:Pb)(T:Tb)(a:Nat)(T':Tb):Prop where
 b:∀k,k<P.m->T'.B k=T.B k
 size:T'.size=T.size
 inv:∀k q,k<P.m->q<P.m->T'.inv k q=T.inv k q
 pr:∀t q,q<P.m->T'.pr t q=T.pr t q
 full:∀j,j<P.n->T'.full j=if j=a then !T.full a else T.full j
 rt:∀p,p<P.m->T'.rt p=T.rt p-T.sg a*(uv P a*P.A a p)
def G4.same(L:G4 P T)(d:∀k,k<P.m->T'.B k=T.B k)(hs:T'.size=T.size)(f:∀k q,k<P.m->q<P.m->T'.inv k q=T.inv k q)(v:∀t q,q<P.m->T'.pr t q=T.pr t q):G4 P T':=by
 have j:∀c r,c<P.m->r<P.m->T'.M P c r=T.M P c r:=λc r g _=>by delta Tb.M;rw[d c g]
 obtain⟨s,n,o,u⟩:=L.sg;refine⟨λk a=>by rw[d k a];exact L.bn k a,λk l a i e=>L.inj k l a i (by rw[d k a,d l i]at e;exact e),⟨s,n,by rw[hs,o];exact(N0 j).symm,λr h x=>?_⟩,by rw[hs];exact L.pos,λp q b hq=>?_,λt q hq=>?_⟩
 . rw[jk (λq hq=>f r q h hq) (λ_ _=>rfl),u r h x]
   exact N0 λc p g b=>by
    delta t4;split;rfl;exact(j c p g b).symm
 . rw[hs,<-L.span p q b hq];exact j3 λk a=>by rw[f k q a hq,d k a]
 . rw[v t q hq,L.pr t q hq];exact j3 λk a=>by rw[f k q a hq,d k a]
def Ok.flip(K:Ok P T){a:Nat}{v:Int}(x:a<P.n)(t:∀k,k<P.m->T.B k≠a)(l:P.u a=U v)(S:rV P T a v 1)(F:Kg P T a T'):Ok P T'/\∀k,k<P.m->T'.am P k=T.am P k-T.sg a*v*T.c9 P a k:=by
 have h:uv P a=v:=by delta uv;rw[l];rfl
 have am:∀k,k<P.m->T'.am P k=T.am P k-T.sg a*v*T.c9 P a k:=λk d=>by
  delta Tb.am Tb.c9;have e:dot P.m (T'.inv k) T'.rt=dot P.m (T.inv k) λp=>T.rt p-(T.sg a*v)*P.A a p:=jk (λq hq=>F.inv k q d hq) λp f=>by rw[F.rt p f,h,F0]
  rw[e,HR,vk]
 refine⟨⟨(K.u7.same F.b F.size F.inv F.pr),λp f=>?_,λj o i=>?_,λk d=>?_,λk w d g=>?_⟩,am⟩;rw[F.rt p f,K.rt p f,mP x F.full];lia;rw[F.full j o]at i;by_cases c:j=a;subst c;exact⟨by rw[l];simp,λk d=>by rw[F.b k d];exact t k d⟩;rw[b0 c]at i;obtain⟨r,s⟩:=K.fu j o i;exact⟨r,λk d=>by rw[F.b k d];exact s k d⟩;rw[am k d];have:=K.lo k d;by_cases c:0<T.sg a*T.c9 P a k;have:=(S.dn k d) c;grind;have:v*(T.sg a*T.c9 P a k)<=0:=qr S.nn (Int.not_lt.1 c6);grind;rw[F.b k d]at g;rw[am k d,F.size];have:=K.hi k w d g;by_cases c:T.sg a*T.c9 P a k<0;have:=S.up k w d c g;grind;have:0<=v*(T.sg a*T.c9 P a k):=de S.nn (Int.not_lt.1 c6);grind
structure Move(P:Pb)(T:Tb)(a l:Nat)(g:Int)(tp:Bool)(T':Tb):Prop where
 tn:Df P T a l g T'
 full:∀j,j<P.n->T'.full j=if j=a then U' else if j=T.B l then tp else T.full j
 rt:∀p,p<P.m->T'.rt p=T.rt p+(if T.full a=Uf then uv P a*P.A a p else 0)-(if tp=Uf then uv P (T.B l)*P.A (T.B l) p else 0)
structure At(P:Pb)(T:Tb)(a l:Nat)(tp:Bool)(top bot:Int):Prop where
 dn:tp=U'->top=T.am P l/\bot=T.sg a*T.c9 P a l
 up:tp=Uf->top=uv P (T.B l)*T.size-T.am P l/\bot = -(T.sg a*T.c9 P a l)/\P.u (T.B l)≠J
noncomputable def kJ(P:Pb)(T:Tb)(a l:Nat)(top bot:Int)(k:Nat):Int:=if k=l then T.size*(if T.full a=Uf then uv P a*bot-top else top)else T.am P k*bot-T.sg a*T.c9 P a k*top
def KS(m:Nat)(x y:Int)(f g h:Nat->Int):(sm m λk=>(x*f k-y*g k)*h k)=x*(sm m λk=>f k*h k)-y*sm m λk=>g k*h k:=by
 rw[<-z0,<-z0,<-gm];exact j3 λk _=>by grind
def Ok.yy(K:Ok P T){a l:Nat}{g top bot:Int}{tp:Bool}(t:G4 P T')(s:l<P.m)(A:At P T a l tp top bot)(M:Move P T a l g tp T'){k:Nat}(f:k<P.m):(bot*T.size)*T'.am P k=T'.size*kJ P T a l top bot k:=by
 refine t.J9 (λp i=>?_) f
 have e:(sm P.m λk=>kJ P T a l top bot k*P.A (T'.B k) p)=sm P.m λk=>if k=l then T.size*(if T.full a=Uf then uv P a*bot-top else top)*P.A a p else(bot*T.am P k-(T.sg a*top)*T.c9 P a k)*P.A (T.B k) p:=j3 λk f=>by
  rw[M.tn.b k f];delta kJ;by_cases c:k=l;rw[b3 c,b3 c,b3 c];rw[b0 c,b0 c,b0 c];grind
 have r:(sm P.m λk=>T.c9 P a k*P.A (T.B k) p)=T.size*P.A a p:=K.u7.by (P.A a) i
 rw[e,sZ _ s,KS,K.u7.QR i,r,M.rt p i];have j:=A.dn;have h:=A.up;rcases pO T a with ⟨o,q⟩|⟨o,q⟩<;>rw[o]<;>rw[q]at j h ⊢ <;> cases tp
 obtain⟨d,n⟩:=j rfl;simp;grind;obtain⟨d,n,_⟩:=h rfl;simp;grind;obtain⟨d,n⟩:=j rfl;simp;grind;obtain⟨d,n,_⟩:=h rfl;simp;grind
def zI{a b c:Int}(h:0<c)(e:c*a<=c*b):a<=b:=xY e h
def Ok.move(K:Ok P T){a l:Nat}{g top bot:Int}{tp:Bool}(E:a<P.n)(H:∀k,k<P.m->T.B k≠a)(i:l<P.m)(N:g=1\/g = -1)(y:0<g*T.c9 P a l)(S:rV P T a top bot)(A:At P T a l tp top bot)(M:Move P T a l g tp T'):Ok P T':=by
 have C:=K.u7.turn E H i N y M.tn;have O:=K.u7.pos;have:=C.pos;have D:=S.pb;have am:=λk d=>K.yy C i A M (k:=k) d;have s:=H l i;have F:=A5 D O;refine⟨C,λp y=>?_,λj o f=>?_,λk d=>?_,λk w d q=>?_⟩
 . -- rights
   rw[M.rt p y,K.rt p y];have L:∃t:Tb,(∀j,j<P.n->t.full j=if j=a then U' else T.full j)/\fsum P t (λj=>P.A j p)=fsum P T (λj=>P.A j p)-(if T.full a=Uf then uv P a*P.A a p else 0):=by
    refine⟨{T with full:=λj=>if j=a then U' else T.full j},λj _=>rfl,?_⟩;cases h:T.full a;rw[mO (T:=T) λj _=>?_];simp;show(if j=a then U' else T.full j)=T.full j;split;rename_i c;rw[c,h];rfl;rw[mP E λj _=>?_];delta Tb.sg;rw[h];simp;rfl;show(if j=a then U' else T.full j)=if j=a then !T.full a else T.full j;rw[h];rfl
   obtain⟨t,x,W⟩:=L;have u:t.full (T.B l)=U':=by
    rw[x _ (K.u7.bn l i),b0 s];cases h:T.full (T.B l);rfl;exact absurd rfl ((K.fu _ (K.u7.bn l i) h).2 l i)
   have:fsum P T' (λj=>P.A j p)=fsum P t (λj=>P.A j p)+(if tp=Uf then uv P (T.B l)*P.A (T.B l) p else 0):=by
    cases tp
    . rw[mO (T:=t) λj o=>?_];simp;rw[M.full j o,x j o];by_cases c:j=a;rw[b3 c,b3 c];rw[b0 c,b0 c];split;rename_i e;rw[e];have:=u;rw[x _ (K.u7.bn l i),b0 s]at this;exact this.symm;rfl
    . rw[mP (K.u7.bn l i) λj o=>?_];delta Tb.sg;rw[u];simp;rw[M.full j o,u];by_cases c:j=a;rw[b3 c,b0 (λz=>s (by rw[<-z];exact c)),x j o,b3 c];rw[b0 c];split;rfl;rw[x j o,b0 c]
   lia
 . rw[M.full j o]at f;by_cases c:j=a;rw[b3 c]at f;exact nT f;rw[b0 c]at f;by_cases e:j=T.B l;rw[b3 e]at f;refine⟨by rw[e];exact(A.up f).2.2,λk d=>?_⟩;rw[M.tn.b k d];split;exact λz=>c z.symm;rename_i R;rw[e];exact λz=>R (K.u7.inj k l d i z);rw[b0 e]at f;obtain⟨u,I⟩:=K.fu j o f;refine⟨u,λk d=>?_⟩;rw[M.tn.b k d];split;exact λz=>c z.symm;exact I k d
 . -- from a0a on
   have Q:0<=kJ P T a l top bot k:=by
    delta kJ;by_cases c:k=l
    . rw[b3 c];refine de Y8 ?_;split
      . rename_i f;obtain⟨v,G⟩:=Option.ne_none_iff_exists'.mp (K.fu a E f).1;have:=S.own v G;have r:uv P a=v:=by delta uv;rw[G];rfl
        rw[r];simp[*]
      exact S.nn
    rw[b0 c];by_cases e:0<T.sg a*T.c9 P a k;have:=S.dn k d e;lia;have:T.sg a*T.c9 P a k*top<=0:=PM (Int.not_lt.1 c6) S.nn;have:0<=T.am P k*bot:=de (K.lo k d) Y8;lia
   have:0<=T'.size*kJ P T a l top bot k:=de Y8 Q;rw[<-(am k d)]at this;exact zI F (by rw[J3];exact this)
 . have:=am k d;have V:kJ P T a l top bot k<=w*(bot*T.size):=by
    rw[M.tn.b k d]at q;delta kJ;by_cases c:k=l
    . rw[b3 c]at q ⊢;have:=S.nn;have r:uv P a=w:=by delta uv;rw[q];rfl
      have:(if T.full a=Uf then uv P a*bot-top else top)<=w*bot:=by
       split;rw[r];lia;exact(S.own w q)
      have:=cF this (by exact Y8:0<=T.size);lia
    rw[b0 c]at q ⊢;by_cases e:T.sg a*T.c9 P a k<0;have:=S.up k w d e q;grind;have:0<=T.sg a*T.c9 P a k*top:=de (Int.not_lt.1 c6) S.nn;have:=ky (K.hi k w d q) (by exact Y8:0<=bot);lia
   have:T'.size*kJ P T a l top bot k<=T'.size*(w*(bot*T.size)):=cF V Y8;refine zI F ?_;lia
end
end Sx
namespace Sx
def Neg(w:Nat->Int):Prop:=w 0<0\/(w 0=0/\(w 1<0\/(w 1=0/\w 2<0)))
def Neg.mul{w:Nat->Int}{p:Int}(d:0<p)(h:Neg w):Neg λt=>p*w t:=by
 have m:∀x:Int,x<0->p*x<0:=λx c=>Int.mul_neg_of_pos_of_neg d c
 rcases h with h|⟨a,h|⟨b,h⟩⟩
 exact .inl (m _ h);exact .inr ⟨by simp[a],.inl (m _ h)⟩;exact .inr ⟨by simp[a],.inr ⟨by simp[b],m _ h⟩⟩
def Neg.congr{w v:Nat->Int}(e:∀t,t<3->w t=v t)(h:Neg w):Neg v:=by unfold Neg at *;rw[e 0 a6,e 1 a6,e 2 a6]at h;exact h
def Neg.nX{w:Nat->Int}{p:Int}(d:0<p)(h:Neg λt=>p*w t):Neg w:=by
 have m:∀x:Int,p*x<0->x<0:=λx a=>Int.lt_of_not_ge λz=>by
  have:=de (by exact Y8:0<=p) z;lia
 have z:∀x:Int,p*x=0->x=0:=λx a=>(Int.mul_eq_zero.mp a).resolve_left x6
 rcases h with h|⟨b,h|⟨c,h⟩⟩
 exact .inl (m _ h);exact .inr ⟨z _ b,.inl (m _ h)⟩;exact .inr ⟨z _ b,.inr ⟨z _ c,m _ h⟩⟩
def Neg.add{w v:Nat->Int}(h:Neg w)(k:Neg v\/∀t,t<3->v t=0):Neg λt=>w t+v t:=by
 unfold Neg at *;rcases k with k|k
 lia;have:=k 0 a6;have:=k 1 a6;have:=k 2 a6;simp[*]
def fP{w:Nat->Int}(h:∀t,t<3->w t=0):¬Neg w:=by delta Neg;have:=h 0 a6;have:=h 1 a6;have:=h 2 a6;simp[*]
def Mp{w v:Nat->Int}(h:¬Neg w)(k:¬Neg v):¬Neg λt=>w t+v t:=by
 unfold Neg at *
 lia
def BR{w:Nat->Int}{p:Int}(a:0<=p)(h:¬Neg w):¬Neg λt=>p*w t:=by
 rcases Ej a with a|a
 exact λz=>h (z.nX a);refine fP λt _=>?_;rw[<-a,aw]
def vZ{w:Nat->Int}{p:Int}(a:0<=p)(h:Neg w):¬Neg λt=>-(p*w t):=by
 rcases Ej a with a|a
 . have:=h.mul a;unfold Neg at *
   lia
 refine fP λt _=>?_;rw[<-a,aw];rfl
theorem UQ{f:Nat->Nat->Int}:∀m,(∀r,r<m->¬Neg (f r))->¬Neg λt=>sm m λr=>f r t
 | 0,_=>fP λt _=>rfl
 |m+1,h=>Mp (UQ m λr a=>h r aW) (h m j1)
section
variable{P:Pb}{T T' T2:Tb}
noncomputable def Tb.obj(P:Pb)(T:Tb)(t:Nat):Int:=T.size*fsum P T (P.c t)+sm P.m λk=>T.am P k*P.c t (T.B k)
def mF(L:G4 P T)(a t:Nat):(sm P.m λk=>T.c9 P a k*P.c t (T.B k))=P.c t a*T.size-T.rest P t a:=by
 have:(sm P.m λk=>T.c9 P a k*P.c t (T.B k))=dot P.m (T.pr t) (P.A a):=by rw[vS L];exact j3 λk _=>x9 _ _
 delta Tb.rest;lia
def Ok.Tq(K:Ok P T){a:Nat}{v:Int}(h:a<P.n)(g:P.u a=U v)(F:Kg P T a T')(am:∀k,k<P.m->T'.am P k=T.am P k-T.sg a*v*T.c9 P a k)(t:Nat):T'.obj P t=T.obj P t+v*(T.sg a*T.rest P t a):=by
 have d:uv P a=v:=by delta uv;rw[g];rfl
 have e:(sm P.m λk=>T'.am P k*P.c t (T'.B k))=(sm P.m λk=>T.am P k*P.c t (T.B k))-(T.sg a*v)*sm P.m λk=>T.c9 P a k*P.c t (T.B k):=by
  rw[<-z0,<-gm];refine j3 λk f=>?_;rw[am k f,F.b k f];grind
 delta Tb.obj;rw[e,F.size,mP h F.full,d,mF K.u7];grind
def Ny(K:Ok P T){a l:Nat}{g:Int}{tp:Bool}(r:a<P.n)(t:∀k,k<P.m->T.B k≠a)(p:l<P.m)(M:Move P T a l g tp T')(f:Nat->Int):fsum P T' f=fsum P T f-(if T.full a=Uf then uv P a*f a else 0)+(if tp=Uf then uv P (T.B l)*f (T.B l)else 0):=by
 have b:=t l p;have d:=K.u7.bn l p;have q:T.full (T.B l)=U':=by
  cases h:T.full (T.B l);rfl;exact absurd rfl ((K.fu _ d h).2 l p)
 delta fsum;have e:(sm P.n λj=>if T'.full j=Uf then uv P j*f j else 0)=sm P.n λj=>((if T.full j=Uf then uv P j*f j else 0)+(if j=a then -(if T.full a=Uf then uv P a*f a else 0)else 0))+(if j=T.B l then(if tp=Uf then uv P (T.B l)*f (T.B l)else 0)else 0):=j3 λj v=>by
  rw[M.full j v];by_cases c:j=a;have o:j≠T.B l:=λz=>b (by rw[<-z];exact c);simp;lia;by_cases o:j=T.B l;rw[o]at *;simp[b,q];simp[c,o]
 have s:(sm P.n λj=>if j=a then -(if T.full a=Uf then uv P a*f a else 0)else 0) = -(if T.full a=Uf then uv P a*f a else 0):=by rw[M8 r (λi _ h=>by rw[b0 h]),b3 rfl]
 have u:(sm P.n λj=>if j=T.B l then(if tp=Uf then uv P (T.B l)*f (T.B l)else 0)else 0)=(if tp=Uf then uv P (T.B l)*f (T.B l)else 0):=by rw[M8 d (λi _ h=>by rw[b0 h]),b3 rfl]
 rw[e,gp,gp,s,u];rfl
def Ok.SJ(K:Ok P T){a l:Nat}{g top bot:Int}{tp:Bool}(r:a<P.n)(s:∀k,k<P.m->T.B k≠a)(h:l<P.m)(u:G4 P T')(A:At P T a l tp top bot)(M:Move P T a l g tp T')(t:Nat):(bot*T.size)*T'.obj P t=T'.size*(bot*T.obj P t+top*(T.sg a*T.rest P t a)):=by
 have q:((bot*T.size)*sm P.m λk=>T'.am P k*P.c t (T'.B k))=T'.size*sm P.m λk=>if k=l then T.size*(if T.full a=Uf then uv P a*bot-top else top)*P.c t a else(bot*T.am P k-(T.sg a*top)*T.c9 P a k)*P.c t (T.B k):=by
  rw[<-z0,<-z0];refine j3 λk o=>?_;rw[<-F0,K.yy u h A M o,M.tn.b k o];delta kJ;by_cases c:k=l;rw[b3 c,b3 c,b3 c,F0];rw[b0 c,b0 c,b0 c];grind
 rw[sZ _ h,KS,mF K.u7]at q;delta Tb.obj;rw[bj,q,Ny K r s h M];have d:=A.dn;have f:=A.up;rcases pO T a with ⟨p,j⟩|⟨p,j⟩<;>rw[p]<;>rw[j]at d f ⊢ <;> cases tp
 obtain⟨e,i⟩:=d rfl;simp;grind;obtain⟨e,i,_⟩:=f rfl;simp;grind;obtain⟨e,i⟩:=d rfl;simp;grind;obtain⟨e,i,_⟩:=f rfl;simp;grind
def cmp(P:Pb)(T' T:Tb)(t:Nat):Int:=T'.obj P t*T.size-T.obj P t*T'.size
def rQ(t:Nat):T'.size*cmp P T2 T t=T.size*cmp P T2 T' t+T2.size*cmp P T' T t:=by delta cmp;grind
def GK(L:G4 P T)(e:G4 P T')(d:∀k,k<P.m->T'.B k=T.B k)(b:∀p,p<P.m->T'.rt p=T.rt p){k:Nat}(c:k<P.m):T.size*T'.am P k=T'.size*T.am P k:=by
 refine e.J9 (λp a=>?_) c
 rw[b p a,<-L.QR a];exact j3 λi f=>by rw[d i f]
def GJ(K:Ok P T)(K':Ok P T')(b:∀j,j<P.n->T'.full j=T.full j){p:Nat}(a:p<P.m):T'.rt p=T.rt p:=by rw[K.rt p a,K'.rt p a,mO b]
def QH(K:Ok P T)(K':Ok P T')(b:∀k,k<P.m->T'.B k=T.B k)(d:∀j,j<P.n->T'.full j=T.full j)(t:Nat):cmp P T' T t=0:=by
 have:(T.size*sm P.m λk=>T'.am P k*P.c t (T'.B k))=T'.size*sm P.m λk=>T.am P k*P.c t (T.B k):=by
  rw[<-z0,<-z0];refine j3 λk a=>?_;rw[<-F0,GK K.u7 K'.u7 b (λp e=>GJ K K' d e) a,b k a,F0]
 delta cmp Tb.obj;rw[mO d];grind
structure G0(P:Pb)(T:Tb)(a:Nat):Prop where
 an:a<P.n
 u0:P.u a≠U 0
 neg:Neg λt=>T.sg a*T.rest P t a
def G0.nb(E:G0 P T a)(L:G4 P T):∀k,k<P.m->T.B k≠a:=λk b z=>by
 refine fP (λt _=>?_) E.neg;rw[<-z,L.IB b,J3]
inductive Step(P:Pb)(T:Tb)(a:Nat)(top:Int)(T':Tb):Prop
 |flip {v}:P.u a=U v->top=v->rV P T a v 1->Kg P T a T'->Step P T a top T'
 |move {l g tp bot}:l<P.m->(g=1\/g = -1)->0<g*T.c9 P a l->rV P T a top bot->At P T a l tp top bot->Move P T a l g tp T' ->
   (top=0->∀k,k<P.m->(0<T.sg a*T.c9 P a k/\T.am P k=0)\/(T.sg a*T.c9 P a k<0/\∃v,P.u (T.B k)=U v/\T.am P k=v*T.size)->T.B l<=T.B k)->Step P T a top T'
def Step.ok(S:Step P T a top T')(K:Ok P T)(E:G0 P T a):Ok P T':=by
 cases S with
 |flip d g b F=>exact(K.flip E.an (E.nb K.u7) d b F).1
 |move c f e b A M _=>exact K.move E.an (E.nb K.u7) c f e b A M
theorem Step.nn(S:Step P T a top T'):0<=top:=by
 cases S with
 |flip e c b F=>rw[c];exact b.nn
 |move d g f b A M _=>exact b.nn
set_option tactic.hygienic true in
def Step.a1W(S:Step P T a top T')(K:Ok P T)(E:G0 P T a):(0<top->Neg (cmp P T' T))/\(top=0->∀t,cmp P T' T t=0):=by
 have e:∃q:Int,(0<top->0<q)/\(top=0->q=0)/\∃d:Int,0<d/\∀t,d*cmp P T' T t=q*(T.sg a*T.rest P t a):=by
  cases S with
  |flip k m b F =>
   rename_i v;refine⟨top*T.size,λh=>A5 h K.u7.pos,λh=>by rw[h,aw],1,by decide,λt=>?_⟩;delta cmp;rw[(K.Tq E.an k F (K.flip E.an (E.nb K.u7) k b F).2) t,F.size,m];grind
  | @move l g s c j r o b A M u =>
   have f:=K.move E.an (E.nb K.u7) j r o b A M;refine⟨T'.size*top,λh=>A5 f.u7.pos h,λh=>by rw[h,J3],c,b.pb,λt=>?_⟩;have:=K.SJ E.an (E.nb K.u7) j f.u7 A M t;delta cmp;grind
 obtain⟨q,p,q2,d,n,i⟩:=e;constructor;exact λh=>Neg.nX n ((E.neg.mul (p h)).congr λt _=>(i t).symm);intro h t;have:=i t;rw[q2 h,aw]at this;exact(Int.mul_eq_zero.mp this).resolve_left x6
end
end Sx
namespace Sx
theorem LH:∀(N:Nat) (f:Nat->Nat),(∀i,i<=N->f i<N)->∃p q,p<q/\q<=N/\f p=f q
 | 0,f,h=>absurd (h 0 o6) (DN _)
 |N+1,f,h=>by
  by_cases c:∃p,p<=N/\f p=f (N+1);obtain⟨p,d,b⟩:=c;exact⟨p,N+1,xG c6,Z6 _,b⟩
  . have a:=λp j z=>c ⟨p,j,z⟩
    obtain⟨p,q,d,b,e⟩:=LH N (λi=>if f i=N then f (N+1)else f i) λi g=>by have:=h i (ph c6);have:=h (N+1) o6;have:=a i g;split<;>lia
    refine⟨p,q,d,ph c6,?_⟩;have:=a p (i0 aL c6);have:=a q b;split at e<;>split at e<;>lia
def enc(b:Nat)(f:Nat->Nat):Nat->Nat
 | 0=>0
 |k+1=>enc b f k*b+f k
theorem rO{b:Nat}{f:Nat->Nat}:∀k,(∀i,i<k->f i<b)->enc b f k<b ^ k
 | 0,_=>by simp[enc]
 |k+1,h=>by
  have:=h k j1;rw[enc,Dr];have:(enc b f k+1)*b<=b ^ k*b:=lY _ (rO k λi a=>h i aW);lia
theorem yY{b:Nat}{f g:Nat->Nat}:∀k,(∀i,i<k->f i<b)->(∀i,i<k->g i<b)->enc b f k=enc b g k->∀i,i<k->f i=g i
 | 0,_,_,_,i,a=>by exact kn
 |k+1,hf,hg,e,i,a=>by
  rw[enc,enc]at e;have j:=hf k j1;have d:f k=g k:=by have:=m2 (· % b) e;rw[Nat.add_mod,Oo,oK,Nat.mod_mod,Om j,Nat.add_mod,Oo,oK,Nat.mod_mod,Om (hg k j1)]at this;exact this
  by_cases c:i=k;rw[c];exact d
  . refine yY k (λi a=>hf i aW) (λi a=>hg i aW) ?_ i (lS (pe c6) c6)
    have h:0<b:=by lia
    exact Nat.eq_of_mul_eq_mul_right h (by simp_all)
structure Chain(P:Pb) where
 T:Nat->Tb
 a:Nat->Nat
 top:Nat->Int
 cf:Nat->Bool
structure Chain.Ok{P:Pb}(C:Chain P):Prop where
 ok:∀i,Sx.Ok P (C.T i)
 en:∀i,G0 P (C.T i) (C.a i)
 cr:∀i,C.cf i=Uf->∀j,j<C.a i->¬G0 P (C.T i) j
 st:∀i,Step P (C.T i) (C.a i) (C.top i) (C.T (i+1))
 cn:∀i,C.cf (i+1)=Uf↔C.top i=0
def fV(P:Pb)(T:Tb)(j:Nat):Prop:=∃k,k<P.m/\T.B k=j
structure Bd(P:Pb)(T:Tb)(j:Nat)(τ:Bool):Prop where
 b:∀k,k<P.m->T.B k=j->T.am P k=if τ=Uf then uv P j*T.size else 0
 n:¬fV P T j->T.full j=τ
def good(P:Pb)(j:Nat)(τ:Bool):Prop:=uv P j≠0\/(P.u j=J/\τ=U')
section
variable{P:Pb}{T T':Tb}{a l j:Nat}{g bot:Int}{tp τ:Bool}
def Bd.move(K:Ok P T)(K':Ok P T')(s:j<P.n)(t:a<P.n)(r:∀k,k<P.m->T.B k≠a)(o:l<P.m)(i:0<bot)(A:At P T a l tp 0 bot)(M:Move P T a l g tp T')(G:good P j τ)(B:Bd P T j τ):Bd P T' j τ:=by
 have p:=A5 i K.u7.pos;constructor
 . intro k d e;have am:=K.yy K'.u7 o A M d;rw[M.tn.b k d]at e;unfold kJ at am;by_cases c:k=l
   . rw[b3 c]at e am;subst e;have nb:¬fV P T a:=λ⟨k,d,z⟩=>r k d z
     have:=B.n nb;refine dA p ?_;cases τ<;>simp<;>grind
   . rw[b0 c]at e am;have:=B.b k d e;refine dA p ?_;cases τ<;>simp<;>grind
 . intro nb;rw[M.full j s];by_cases c:j=a;exact absurd ⟨l,o,by rw[M.tn.b l o,b3 rfl,c]⟩ nb
   . rw[b0 c];by_cases h:j=T.B l
     . rw[b3 h];have f:=B.b l o h.symm;cases tp with
       |false =>
        have e:=(A.dn rfl).1;cases τ with
        |false=>rfl
        |true =>
         rw[<-e,b3 rfl]at f;rcases G with G|G
         have:=Int.mul_eq_zero.mp f.symm;lia;cases G.2
       |true =>
        obtain⟨e,_,q⟩:=A.up rfl;cases τ with
        |true=>rfl
        |false =>
         rw[f]at e;rcases G with G|G
         rw[<-h,b0 a6,sk]at e;have:=Int.mul_eq_zero.mp e.symm;lia;rw[<-h]at q;exact absurd G.1 q
     rw[b0 h];refine B.n λ⟨k,d,e⟩=>nb ⟨k,d,?_⟩;rw[M.tn.b k d,b0 λz=>h (by rw[<-e,z]),e]
def Bd.same(K:Ok P T)(K':Ok P T')(f:j<P.n)(c:∀k,k<P.m->T'.B k=T.B k)(d:∀j,j<P.n->T'.full j=T.full j)(B:Bd P T j τ):Bd P T' j τ:=by
 constructor
 . intro k a e;rw[c k a]at e;have g:=GK K.u7 K'.u7 c (λp h=>GJ K K' d h) a
   rw[B.b k a e]at g;refine dA K.u7.pos ?_;cases τ<;>simp<;>grind
 intro nb;rw[d j f];exact B.n λ⟨k,a,e⟩=>nb ⟨k,a,by rw[c k a];exact e⟩
def QT(L:G4 P T)(a:G4 P T')(s t:Nat):T.size*T'.rest P t s=T'.size*T.rest P t s+sm P.m λr=>-(T'.c9 P s r*T.rest P t (T'.B r)):=by
 have d:(sm P.m λr=>T'.c9 P s r*dot P.m (T.pr t) (P.A (T'.B r)))=T'.size*dot P.m (T.pr t) (P.A s):=by rw[<-tQ,<-vk];exact jk (λ_ _=>rfl) λp e=>a.by (P.A s) e
 have b:(sm P.m λr=>-(T'.c9 P s r*T.rest P t (T'.B r)))=(sm P.m λr=>T'.c9 P s r*dot P.m (T.pr t) (P.A (T'.B r)))-T.size*sm P.m λr=>T'.c9 P s r*P.c t (T'.B r):=by
  rw[<-z0,<-gm];refine j3 λr _=>?_;delta Tb.rest;grind
 rw[b,d,(mF a s t)];delta Tb.rest;grind
end
structure Zero(P:Pb)(T:Tb)(a:Nat)(T':Tb)(l:Nat)(tp:Bool)(bot:Int):Prop where
 hl:l<P.m
 pb:0<bot
 at_:At P T a l tp 0 bot
 mv:∃g,Move P T a l g tp T'
 Yo:∀k,k<P.m->(0<T.sg a*T.c9 P a k/\T.am P k=0)\/(T.sg a*T.c9 P a k<0/\∃v,P.u (T.B k)=U v/\T.am P k=v*T.size)->T.B l<=T.B k
def Step.zero{P:Pb}{T T':Tb}{a:Nat}(S:Step P T a 0 T')(E:G0 P T a):∃l tp bot,Zero P T a T' l tp bot:=by
 cases S with
 |flip f c b F=>exact absurd rfl (by have:=E.u0;rw[f,<-c]at this;exact this)
 | @move l g tp bot d i h b A M e=>exact⟨l,tp,bot,d,b.pb,A,⟨g,M⟩,e rfl⟩
section
variable{P:Pb}{T T':Tb}{a l j:Nat}{bot:Int}{tp:Bool}
def Zero.a2a(Z:Zero P T a T' l tp bot)(h:fV P T' j)(nb:¬fV P T j):j=a:=by
 obtain⟨g,M⟩:=Z.mv;obtain⟨k,d,e⟩:=h;rw[M.tn.b k d]at e;by_cases c:k=l;rw[b3 c]at e;exact e.symm;rw[b0 c]at e;exact absurd ⟨k,d,e⟩ nb
def Zero.a0P(Z:Zero P T a T' l tp bot)(h:fV P T j)(nb:¬fV P T' j):j=T.B l:=by
 obtain⟨g,M⟩:=Z.mv;obtain⟨k,d,e⟩:=h;by_cases c:k=l;rw[<-c];exact e.symm;exact absurd ⟨k,d,by rw[M.tn.b k d,b0 c];exact e⟩ nb
end
def ie{Q:Nat->Prop}{p q:Nat}(a:Q p)(hs:∀i,p<=i->i<q->Q i->Q (i+1)):∀i,p<=i->i<=q->Q i:=by
 intro i d hq;induction i with
 |zero =>
  have:p=0:=by lia
  rw[<-this];exact a
 |succ i b =>
  by_cases c:p=i+1;rw[<-c];exact a;exact hs i b6 c6 (b b6 aL)
def SA{P:Pb}{C:Chain P}(H:C.Ok){p q:Nat}(hpq:p<q)(hz:∀i,p<=i->i<q->C.top i=0)(hc:∀i,p<=i->i<q->C.cf i=Uf)(hb:∀k,k<P.m->(C.T q).B k=(C.T p).B k)(hf:∀j,j<P.n->(C.T q).full j=(C.T p).full j):False:=by
 have zs:∀i,p<=i->i<q->∃l N bot,Zero P (C.T i) (C.a i) (C.T (i+1)) l N bot:=λi y A=>by have s:=H.st i;rw[hz i y A]at s;exact s.zero (H.en i)
 have Y:∀i,¬fV P (C.T i) (C.a i):=λi ⟨k,I,e⟩=>(H.en i).nb (H.ok i).u7 k I e;have bpq:∀j,fV P (C.T q) j↔fV P (C.T p) j:=λj=>⟨λ⟨k,I,e⟩=>⟨k,I,by rw[<-hb k I];exact e⟩,λ⟨k,I,e⟩=>⟨k,I,by rw[hb k I];exact e⟩⟩
 have fick:∀j i k,p<=i->i<=q->p<=k->k<=q->¬fV P (C.T i) j->fV P (C.T k) j->∃V,p<=V/\V<q/\C.a V=j:=λj i k F L hk1 hk2 nb bk=>by
  apply sO;intro no;have R:∀x,p<=x->x<q->¬fV P (C.T x) j->¬fV P (C.T (x+1)) j:=λx y A E h4=>by obtain⟨l,N,bot,Z⟩:=zs x y A;exact no ⟨x,y,A,(Z.a2a h4 E).symm⟩
  have q1:=ie (Q:=λx=>¬fV P (C.T x) j) nb (λx y A E=>R x b6 A E) q L o6;exact ie (λz=>q1 ((bpq j).mpr z)) (λx y A E=>R x y A E) k hk1 hk2 bk
 have mx:∃i1,p<=i1/\i1<q/\∀i,p<=i->i<q->C.a i<=C.a i1:=by
  have:∀d,p+d<q->∃i1,p<=i1/\i1<=p+d/\∀i,p<=i->i<=p+d->C.a i<=C.a i1:=by
   intro d;induction d with
   |zero =>
    intro _;refine⟨p,Z6 _,by simp[*],λi y A=>?_⟩
    have:i=p:=by lia
    rw[this];exact Z6 _
   |succ d ih =>
    intro hd;obtain⟨i1,y,A,E⟩:=ih aL;by_cases c:C.a (p+(d+1))<=C.a i1;refine⟨i1,y,ph c6,λi K O=>?_⟩;by_cases e:i=p+(d+1);rw[e];exact c;exact E i K b6;refine⟨p+(d+1),by simp[*],Z6 _,λi K O=>?_⟩;by_cases e:i=p+(d+1);rw[e];exact Z6 _;have:=E i K b6;lia
  obtain⟨i1,y,A,E⟩:=this (q-1-p) ag;exact⟨i1,y,by omega,λi K O=>E i K ag⟩
 obtain⟨i1,F,S,W⟩:=mx;have lv:∃o l N bot,p<=o/\o<q/\Zero P (C.T o) (C.a o) (C.T (o+1)) l N bot/\(C.T o).B l=C.a i1:=by
  apply sO;intro no;have R:=λx y A E=>by apply sO;intro h4;obtain⟨l,N,bot,Z⟩:=zs x y A;exact no ⟨x,l,N,bot,y,A,Z,(Z.a0P E h4).symm⟩
  obtain⟨l,N,bot,Z⟩:=zs i1 F S;obtain⟨g,M⟩:=Z.mv;have b1:fV P (C.T (i1+1)) (C.a i1):=⟨l,Z.hl,by rw[M.tn.b l Z.hl,b3 rfl]⟩;exact Y i1 (ie (Q:=λx=>fV P (C.T x) (C.a i1)) ((bpq _).mp (ie (Q:=λx=>fV P (C.T x) (C.a i1)) b1 (λx y A E=>R x (eS (lU c6 c6)) A E) q c6 o6)) (λx y A E=>R x y A E) i1 F aL)
 obtain⟨o,l,N,bot,L,X,Z,hl⟩:=lv;have bd:∀i,p<=i->i<q->good P (C.a i) ((C.T i).full (C.a i))/\∀x,p<=x->x<=q->Bd P (C.T x) (C.a i) ((C.T i).full (C.a i)):=λi y A=>by
  have hn:=(H.en i).an;have G:good P (C.a i) ((C.T i).full (C.a i)):=by
   cases e:P.u (C.a i)with
   |none =>
    refine .inr ⟨e,?_⟩;cases f:(C.T i).full (C.a i);rfl;exact absurd e ((H.ok i).fu _ hn f).1
   |some v =>
    refine .inl λz=>(H.en i).u0 ?_;unfold uv at z;rw[e]at z;have z':v=0:=z;rw[e,z']
  have R:∀x,p<=x->x<q->Bd P (C.T x) (C.a i) ((C.T i).full (C.a i))->Bd P (C.T (x+1)) (C.a i) ((C.T i).full (C.a i)):=λx K O B=>by obtain⟨l,N,bot,Z⟩:=zs x K O;obtain⟨g,M⟩:=Z.mv;exact B.move (H.ok x) (H.ok (x+1)) hn (H.en x).an ((H.en x).nb (H.ok x).u7) Z.hl Z.pb Z.at_ M G
  have B0:Bd P (C.T i) (C.a i) ((C.T i).full (C.a i)):=⟨λk I e=>absurd ⟨k,I,e⟩ (Y i),λ_=>rfl⟩;exact⟨G,ie ((ie B0 (λx K O g3=>R x (i0 c6 c6) O g3) q aL o6).same (H.ok q) (H.ok p) hn (λk I=>(hb k I).symm) λj hj=>(hf j hj).symm) R⟩
 have K1:=H.ok i1;have K2:=H.ok o;have tb2:fV P (C.T o) (C.a i1):=⟨l,Z.hl,hl⟩;have sne:C.a o≠C.a i1:=λz=>Y o (by rw[z];exact tb2)
 have nn1:∀i,p<=i->i<q->C.a i≠C.a i1->¬Neg λt=>(C.T i1).sg (C.a i)*(C.T i1).rest P t (C.a i):=λi K O ne h=>by have:=W i K O;exact(H.cr i1 (hc i1 F S)) (C.a i) (lS c6 c6) ⟨(H.en i).an,(H.en i).u0,h⟩
 refine absurd (((H.en o).neg.mul K1.u7.pos).congr (v:=λt=>(C.T o).size*((C.T o).sg (C.a o)*(C.T i1).rest P t (C.a o))+sm P.m λr=>-(((C.T o).sg (C.a o)*(C.T o).c9 P (C.a o) r)*(C.T i1).rest P t ((C.T o).B r))) λt _=>?_) (Mp (BR (by have:=K2.u7.pos;exact Y8) ?_) (UQ P.m λr hr=>?_))
 . have:=(QT K1.u7 K2.u7 (C.a o)) t;have:(sm P.m λr=>-(((C.T o).sg (C.a o)*(C.T o).c9 P (C.a o) r)*(C.T i1).rest P t ((C.T o).B r)))=(C.T o).sg (C.a o)*sm P.m λr=>-((C.T o).c9 P (C.a o) r*(C.T i1).rest P t ((C.T o).B r)):=by
    rw[<-z0];refine j3 λr _=>?_;grind
   grind
 . -- the entering one
   by_cases c:fV P (C.T i1) (C.a o)
   . obtain⟨k,I,e⟩:=c;exact fP λt _=>by rw[<-e,K1.u7.IB I,J3]
   . have f2:=((bd o L X).2 i1 F aL).n c;have:(C.T o).sg (C.a o)=(C.T i1).sg (C.a o):=by delta Tb.sg;rw[f2]
     rw[this];exact nn1 o L X sne
 . -- the chosen ones
   by_cases c:fV P (C.T i1) ((C.T o).B r)
   . obtain⟨k,I,e⟩:=c;exact fP λt _=>by rw[<-e,K1.u7.IB I,J3];rfl
   . obtain⟨V,K,O,g3⟩:=fick ((C.T o).B r) i1 o F aL L aL c ⟨r,hr,rfl⟩;obtain⟨G,B⟩:=bd V K O;rw[g3]at G B;generalize hτ:(C.T V).full ((C.T o).B r)=τ at G B;have f1:=(B i1 F aL).n c;have am:=(B o L aL).b r hr rfl;by_cases ct:(C.T o).B r=C.a i1
     . -- the greatest
       have erl:=K2.u7.inj r l hr Z.hl (by rw[ct,hl])
       subst erl;have:=Z.pb;have dn:=Z.at_.dn;have R:=Z.at_.up;have etp:τ=N:=by
        cases N with
        |false =>
         cases τ with
         |false=>rfl
         |true =>
          have:=(dn rfl).1;rw[am,b3 rfl]at this;rcases G with G|G
          have:=Int.mul_eq_zero.mp this.symm;have:=K2.u7.pos;lia;cases G.2
        |true =>
         cases τ with
         |true=>rfl
         |false =>
          obtain⟨y,_,A⟩:=R rfl;rw[am]at y;rcases G with G|G
          rw[b0 a6,sk]at y;have:=Int.mul_eq_zero.mp y.symm;have:=K2.u7.pos;lia;exact absurd G.1 A
       have sg1:(C.T i1).sg ((C.T o).B r)=if N=Uf then -1 else 1:=by delta Tb.sg;rw[f1,etp]
       have ng:Neg λt=>(C.T i1).sg ((C.T o).B r)*(C.T i1).rest P t ((C.T o).B r):=by have:=(H.en i1).neg;rw[<-ct]at this;exact this
       rw[sg1]at ng;cases N with
       |false =>
        have:=vZ (p:=(C.T o).sg (C.a o)*(C.T o).c9 P (C.a o) r) b6 ng;simp at this;exact this
       |true =>
        have:=vZ (p:=-((C.T o).sg (C.a o)*(C.T o).c9 P (C.a o) r)) b6 ng;refine λz=>this (z.congr λt _=>?_);grind
     . have:(C.T o).B r<C.a i1:=by
         have:=W V K O;lia
       have hn:=nn1 V K O (by rw[g3];exact ct)
       have Yo:=Z.Yo r hr;cases τ with
       |false =>
        have:(C.T i1).sg ((C.T o).B r)=1:=by delta Tb.sg;rw[f1];rfl
        have:=BR (p:=-((C.T o).sg (C.a o)*(C.T o).c9 P (C.a o) r)) b6 hn;refine λz=>this (z.congr λt _=>?_);grind
       |true =>
        have:(C.T i1).sg ((C.T o).B r) = -1:=by delta Tb.sg;rw[f1];rfl
        have:¬(C.T o).sg (C.a o)*(C.T o).c9 P (C.a o) r<0:=λz=>by
         obtain⟨v,hv⟩:=Option.ne_none_iff_exists'.mp ((K1.fu _ (K2.u7.bn r hr) f1).1);have euv:uv P ((C.T o).B r)=v:=by delta uv;rw[hv];rfl
         have:=Yo (.inr ⟨z,v,hv,by rw[am,b3 rfl,euv]⟩);lia
        have:=BR (p:=(C.T o).sg (C.a o)*(C.T o).c9 P (C.a o) r) (Int.not_lt.1 c6) hn;refine λz=>this (z.congr λt _=>?_);grind
def SD{P:Pb}{C:Chain P}(H:C.Ok):False:=by
 have y:=λi k l=>(H.ok i).u7.bn k l
 let f:=λi j=>if (C.T i).full j=Uf then 1 else 0
 have o:∀i j,j<P.n->f i j<2:=λi j _=>by dsimp only[f];split<;>simp[*]
 let b:=λi=>(enc P.n (C.T i).B P.m*2 ^ P.n+enc 2 (f i) P.n)*2+(if C.cf i=Uf then 1 else 0)
 have l:∀i,b i<(P.n ^ P.m*2 ^ P.n)*2:=λi=>by have r:=rO P.m (y i);have u:=rO P.n (o i);have:(enc P.n (C.T i).B P.m+1)*2 ^ P.n<=P.n ^ P.m*2 ^ P.n:=lY _ r;dsimp only[b];split<;>lia
 obtain⟨p,q,x,_,e⟩:=LH _ b λi _=>l i
 dsimp only[b]at e;have s:(enc P.n (C.T p).B P.m*2 ^ P.n+enc 2 (f p) P.n)=(enc P.n (C.T q).B P.m*2 ^ P.n+enc 2 (f q) P.n)/\(C.cf p=C.cf q):=by cases hp:C.cf p<;>cases hq:C.cf q<;>rw[hp,hq]at e<;>simp only[jC]at e<;>first|exact⟨by lia,rfl⟩|(exfalso;lia)
 obtain⟨s,Y⟩:=s;have R:0<2 ^ P.n:=Nat.two_pow_pos _;have G:enc P.n (C.T p).B P.m=enc P.n (C.T q).B P.m:=by have:=m2 (· / 2 ^ P.n) s;rw[sr,Nat.mul_add_div R,Ol (rO P.n (o p)),sr,Nat.mul_add_div R,Ol (rO P.n (o q))]at this;omega
 have V:enc 2 (f p) P.n=enc 2 (f q) P.n:=by rw[G]at s;simp_all
 have K:=λk l=>(yY P.m (y p) (y q) G k l).symm
 have F:∀j,j<P.n->(C.T q).full j=(C.T p).full j:=λj hj=>by have:=yY P.n (o p) (o q) V j hj;dsimp only[f]at this;cases r:(C.T p).full j<;>cases u:(C.T q).full j<;>rw[r,u]at this<;>simp at this<;>rfl
 have w:=λi=>(H.st i).a1W (H.ok i) (H.en i);have nn:=λi=>(H.st i).nn
 have le:∀d i,Neg (cmp P (C.T (i+d)) (C.T i))\/∀t,t<3->cmp P (C.T (i+d)) (C.T i) t=0:=by
  intro d;induction d with
  |zero=>intro i;exact .inr λt _=>by delta cmp;simp
  |succ d I =>
   intro i;have E:=λt=>rQ (P:=P) (T:=C.T i) (T':=C.T (i+d)) (T2:=C.T (i+d+1)) t;have L:=(H.ok (i+d)).u7.pos;have S:=(H.ok (i+d+1)).u7.pos;by_cases c:0<C.top (i+d)
   . refine .inl (Neg.nX L (Neg.congr (λt _=>(E t).symm) (Neg.add (((w (i+d)).1 c).mul ((H.ok i).u7.pos)) ?_)))
     rcases I i with h|h
     exact .inl (h.mul S)
     . exact .inr λt g=>by rw[h t g,J3]
   . have z:=(w (i+d)).2 (by have:=nn (i+d);lia)
     rcases I i with h|h
     refine .inl (Neg.nX L (Neg.congr (λt _=>?_) (h.mul S)));have:=E t;rw[z t,J3,N7]at this;exact this.symm;refine .inr λt g=>?_;have:=E t;rw[z t,h t g,J3,J3,N7]at this;exact(Int.mul_eq_zero.mp this).resolve_left x6
 have a:∀i,p<=i->i<q->C.top i=0:=λi r u=>by
  apply sO;intro c;have X:0<C.top i:=by have:=nn i;lia
  have O:=le (i-p) p;rw[show p+(i-p)=i from by simp[*]]at O;have N:=le (q-(i+1)) (i+1);rw[show i+1+(q-(i+1))=q from by exact Nat.add_sub_of_le c6]at N
  have Q:=(H.ok p).u7.pos;have M:=(H.ok (i+1)).u7.pos;have Z:Neg (cmp P (C.T (i+1)) (C.T p)):=by
   refine Neg.nX ((H.ok i).u7.pos) (Neg.congr (λt _=>((λt=>rQ (P:=P) (T:=C.T p) (T':=C.T i) (T2:=C.T (i+1)) t) t).symm) (Neg.add (((w i).1 X).mul Q) ?_))
   rcases O with h|h
   exact .inl (h.mul M)
   . exact .inr λt g=>by rw[h t g,J3]
  have W:Neg (cmp P (C.T q) (C.T p)):=by
   refine Neg.nX M (Neg.congr (λt _=>?_) (Neg.add (Z.mul ((H.ok q).u7.pos)) (v:=λt=>(C.T p).size*cmp P (C.T q) (C.T (i+1)) t) ?_));rw[(λt=>rQ (P:=P) (T:=C.T p) (T':=C.T (i+1)) (T2:=C.T q) t) t];exact Int.add_comm _ _
   . rcases N with h|h
     exact .inl (h.mul Q)
     . exact .inr λt g=>by rw[h t g,J3]
  exact fP (λt _=>QH (H.ok p) (H.ok q) K F t) W
 have A:C.cf q=Uf:=by
  have:=(H.cn (q-1)).mpr (a (q-1) b6 b6);rw[show q-1+1=q from by lia]at this;exact this
 have D:∀i,p<=i->i<q->C.cf i=Uf:=λi r u=>by
  by_cases c:i=p;rw[c,Y];exact A;have:=(H.cn (i-1)).mpr (a (i-1) b6 (Nat.sub_lt_of_lt c6));rw[show i-1+1=i from by lia]at this;exact this
 exact SA H x a D K F
end Sx
set_option maxHeartbeats 4000000
namespace Law
open PySem L2
section
abbrev e9:=b7 0
abbrev i3:=b7 1
abbrev t8:=b7 2
abbrev u5:=b7 3
abbrev D2:=b7 4
abbrev aa:=b7 5
abbrev eu:=b7 6
abbrev jU:=b7 7
abbrev kS:=b7 8
abbrev vJ:=b7 9
abbrev p0:=fC (.int 0)
abbrev j2:=fC (.int 1)
abbrev E4:=fC (.int 2)
abbrev jW:=fC (.int 3)
abbrev nY:=fC (.int 4)
abbrev UP:=fC (.int 5)
abbrev BP:=fC (.int 6)
abbrev Ml:=fC (.int 8)
abbrev Su:=fC (.int 10)
abbrev uU:=fC (.int 12)
abbrev aV:=fC .none
abbrev m4(a:DV):=a8 a d6
abbrev h8(a b:DV):=a8 a (a8 b d6)
abbrev N1(a b c:DV):=a8 a (a8 b (a8 c d6))
abbrev oC(a b c d:DV):=a8 a (a8 b (a8 c (a8 d d6)))
abbrev zY(a b c d e:DV):=a8 a (a8 b (a8 c (a8 d (a8 e d6))))
abbrev ar6(a b c d e f:DV):=a8 a (a8 b (a8 c (a8 d (a8 e (a8 f d6)))))
abbrev c7:=b8 l7
abbrev o3:=b8 C8
abbrev B7:a7:=(.tuple [(.int 0),(.int 1)])
abbrev dF:a7:=(.tuple [(.int 0),(.int 1),(.int 2)])
abbrev v7:a7:=(.tuple [(.int 0),(.int 1)])
abbrev ly:a7:=(.tuple [(.tuple [(.int 0),(.int 1)]),(.tuple [(.int 0),(.int 1)]),(.tuple [(.int 0),(.int 1)])])
abbrev CY:a7:=(.tuple [(.tuple [(.int 1),(.int 1)]),(.tuple [(.int 0),(.int 1)]),(.tuple [(.int 0),(.int 1)])])
abbrev vr:a7:=(.tuple [(.tuple [(.int 0),(.int 1)]),(.tuple [(.int 1),(.int 1)]),(.tuple [(.int 0),(.int 1)])])
def aA:DB:=k9 (b8 pR i3 p0)
def aB:DO:=c8 (d8 2 (b8 bH e9 i3)) (c8 (d8 0 i3) (d8 1 t8))
def E3:FV:=w5 2 3 (c8 (jh (wa 1) aA aB) (V4 0))
def M4:FV:=w5 2 3 (c8 (G3 (k9 (b8 F3 i3 p0)) wC A4) (c8 (d8 2 (b4 E3 (h8 (b4 nG (m4 e9)) (b4 nG (m4 i3))))) (c8 (G3 (k9 (b8 ug i3 p0)) (d8 2 (dU aG t8)) A4) (p4 (f9 (h8 (b8 O7 e9 t8) (b8 O7 i3 t8)))))))
noncomputable def jG:FV:=w5 2 5 (c8 (d8 2 (b4 E3 (h8 (c7 e9 j2) (c7 i3 j2)))) (c8 (d8 3 (b8 n8 (o3 (c7 e9 p0) (b8 O7 (c7 i3 j2) t8)) (o3 (c7 i3 p0) (b8 O7 (c7 e9 j2) t8)))) (c8 (d8 4 (b4 E3 (h8 (b4 nG (m4 u5)) t8))) (p4 (f9 (h8 (b8 O7 u5 D2) (o3 (b8 O7 (c7 e9 j2) t8) (b8 O7 (c7 i3 j2) D2))))))))
def X3:FV:=w5 2 2 (p4 (b4 jG (h8 e9 (f9 (h8 (dU aG (c7 i3 p0)) (c7 i3 j2))))))
def P2:FV:=w5 2 5 (c8 (d8 2 (b4 E3 (h8 (b4 nG (m4 (c7 e9 p0))) (c7 i3 j2)))) (c8 (d8 3 (b4 E3 (h8 (b4 nG (m4 (c7 i3 p0))) (c7 e9 j2)))) (c8 (d8 4 (o3 (b8 O7 (c7 e9 p0) t8) (b8 O7 (c7 i3 p0) u5))) (p4 (f9 (h8 D2 (o3 (b8 O7 (c7 e9 j2) u5) (b8 O7 (c7 i3 j2) t8))))))))
def sR:FV:=w5 2 2 (c8 (G3 (k9 (b8 F3 (c7 i3 p0) p0)) wC A4) (p4 (b4 P2 (h8 e9 (b4 M4 (h8 (c7 i3 j2) (c7 i3 p0)))))))
def fZ:FV:=w5 2 2 (p4 (b8 ug (o3 (c7 e9 p0) (c7 i3 j2)) (o3 (c7 i3 p0) (c7 e9 j2))))
def Q6:DO:=d8 1 (o3 (c7 (b4 M4 (h8 i3 t8)) p0) t8)
def C6:FV:=w5 1 3 (c8 (d8 1 j2) (c8 (A8 (D8 e9) (A1 2) Q6) (V4 1)))
def fY:FV:=w5 2 2 (p4 (o3 (c7 e9 p0) (b8 O7 i3 (c7 e9 j2))))
def mm:DV:=c7 (c7 e9 t8) j2
def hF:FV:=w5 2 2 (p4 (b4 C6 (m4 (j5 (D8 e9) j8 j6 mm))))
def P7:DV:=f9 (h8 e9 (b4 fY (h8 (c7 i3 u5) D2)))
def P4:DB:=k9 (b8 pR (c7 i3 u5) (fC B7))
def eV:FV:=w5 3 3 (p4 (j5 (t2 aR (m4 e9)) (G5 2) P4 P7))
def hE:FV:=w5 2 3 (c8 (I0 2 (b8 cx (D6 (m4 p0)) e9)) (c8 (aP 2 i3 j2) (V4 2)))
def nH:DV:=o3 e9 i3
def jF:FV:=w5 2 2 (p4 (b4 Bj (m4 (j5 (t2 aT (h8 e9 i3)) (G5 2) j6 nH))))
def N2:DV:=o3 (c7 t8 e9) i3
def R6:FV:=w5 2 2 (p4 (b4 Bj (m4 (j5 (D8 i3) (G5 2) j6 N2))))
def qu:DV:=b8 O7 (b8 gk (o3 e9 aa) (o3 D2 i3)) eu
def fA:FV:=w5 5 5 (c8 (G3 (qo (k9 (b8 F3 t8 p0)) (k9 (b8 F3 u5 D2))) (V4 0) A4) (p4 (j5 (t2 aT (h8 e9 i3)) (G5 2) j6 qu)))
def aJ:DV:=c7 (c7 (t5 "Table" "weights" i3) t8) e9
def B5:FV:=w5 2 2 (p4 (j5 (D8 (t5 "Table" "chosen" e9)) j8 j6 aJ))
def W8:DV:=eG (k9 (b8 lj e9 aV)) aV (b4 P2 (h8 e9 (f9 (h8 j2 i3))))
def W7:DV:=c7 e9 j2
def J6:DV:=c7 e9 j2
def J2:DB:=k9 (b8 cQ e9 aV)
def W6:DV:=b4 fY (h8 e9 (D3 "Table" 1 "unit"))
def W5:DV:=eG (k9 (b8 lj e9 aV)) aV (b4 fY (h8 e9 (D3 "Table" 1 "unit")))
def T4:List PV->Option (PV×Ds):=ou 3 5 (c8 (d8 3 (j5 (t2 aT (h8 t8 (D3 "Table" 0 "scales"))) (G5 2) j6 W8)) (c8 (d8 4 (b8 n8 (j5 (D8 i3) j8 j6 W7) (j5 (D8 u5) j8 J2 J6))) (c8 (P8 "Table" 0 "unit" gE (b4 C6 (m4 D2))) (c8 (P8 "Table" 0 "rights" fe (j5 (D8 i3) j8 j6 W6)) (P8 "Table" 0 "limits" gE (j5 (D8 u5) j8 j6 W5))))))
def N3:DV:=b4 P2 (h8 (c7 e9 D2) (f9 (h8 i3 j2)))
def bx:DV:=c7 e9 j2
def bw:DV:=b4 fY (h8 e9 aa)
def U7:DO:=c8 (d8 3 (j5 (t2 aT (h8 i3 (D3 "Table" 0 "scales"))) (G5 2) j6 N3)) (c8 (d8 4 (b4 C6 (m4 (j5 (D8 u5) j8 j6 bx)))) (c8 (mN "Table" 0 "multiples" D2) (mN "Table" 0 "weights" (j5 (D8 u5) j8 j6 bw))))
def Q5:List PV->Option (PV×Ds):=ou 2 5 (c8 (P8 "Table" 0 "multiples" fe (D6 d6)) (c8 (P8 "Table" 0 "weights" fe (D6 d6)) (A8 (D8 (fC dF)) (A1 2) U7)))
def fI:DV:=b4 hF (h8 u5 e9)
def fH:DV:=b4 eV (N1 D2 e9 i3)
def fG:DV:=b4 hE (h8 (b4 u9 (m4 eu)) e9)
def fE:DV:=R3 (J8 "Table" "first_prices" B5 (K9 1) (m4 e9))
def X4:List PV->Option (PV×Ds):=ou 6 6 (c8 (P8 "Table" 0 "scales" gE (j5 (t2 E2 (m4 (b4 u9 (m4 i3)))) j8 j6 fI)) (c8 (P8 "Table" 0 "columns" gE (j5 (t2 aR (m4 (D3 "Table" 0 "scales"))) (G5 2) j6 fH)) (c8 (F6 (E6 "Table" "set_weights" 0 Q5 (E8 i3 cm))) (c8 (F6 (E6 "Table" "set_limits" 0 T4 (E8 u5 (E8 D2 cm)))) (c8 (P8 "Table" 0 "chosen" fe (b4 wg (m4 aa))) (c8 (P8 "Table" 0 "full" fe (b8 cx (D6 (m4 (fC (.bool U')))) (b4 u9 (m4 i3)))) (c8 (P8 "Table" 0 "size" gE j2) (c8 (P8 "Table" 0 "inverse" gE (j5 (t2 E2 (m4 (b4 u9 (m4 aa)))) j8 j6 fG)) (P8 "Table" 0 "prices" fe (j5 (D8 (fC dF)) j8 j6 fE))))))))))
def M0:FV:=w5 3 3 (p4 (b8 gk (o3 (c7 (c7 (t5 "Table" "weights" e9) i3) t8) (t5 "Table" "size" e9)) (b4 R6 (h8 (c7 (t5 "Table" "prices" e9) i3) (c7 (t5 "Table" "columns" e9) t8)))))
def el:DV:=b4 jF (h8 e9 (t5 "Table" "rights" i3))
def L4:FV:=w5 1 1 (p4 (j5 (D8 (t5 "Table" "inverse" e9)) j8 j6 el))
def hP:DV:=b4 R6 (h8 e9 (c7 (t5 "Table" "columns" i3) t8))
def P6:FV:=w5 2 2 (p4 (j5 (D8 (t5 "Table" "inverse" e9)) j8 j6 hP))
def bB:DO:=aQ "Table" 0 "rights" u5 (b8 n8 (gD "Table" 0 "rights" u5) (o3 t8 D2))
def E7:List PV->Option (PV×Ds):=ou 2 5 (c8 (d8 2 (eG (k9 (gD "Table" 0 "full" i3)) (c7 (D3 "Table" 0 "limits") i3) (dU aG (c7 (D3 "Table" 0 "limits") i3)))) (c8 (aQ "Table" 0 "full" i3 (yV (gD "Table" 0 "full" i3))) (A8 (D8 (c7 (D3 "Table" 0 "columns") i3)) (bE 2 (A7 3 (A7 4 bF))) bB)))
def bA:DO:=c8 (d8 8 (o3 (dU aG D2) (R3 (J8 "Table" "rest" M0 (K9 0) (h8 jU i3))))) (aQ "Table" 0 "prices" jU (b4 fA (zY (gD "Table" 0 "prices" jU) eu kS aa (D3 "Table" 0 "size"))))
def dP:DV:=b4 fA (zY e9 kS (o3 eu i3) jU (D3 "Table" 2 "size"))
def bu:DV:=o3 aa e9
def br:List PV->Option (PV×Ds):=ou 4 10 (c8 (G3 (k9 (gD "Table" 0 "full" i3)) (F6 (E6 "Table" "flip" 0 E7 (E8 i3 cm))) A4) (c8 (d8 4 (eG (k9 (b8 wx (c7 u5 t8) p0)) j2 (dU aG j2))) (c8 (d8 5 (o3 D2 (c7 u5 t8))) (c8 (d8 6 (c7 (D3 "Table" 0 "inverse") t8)) (c8 (A8 (D8 (fC dF)) (A1 7) bA) (c8 (I0 9 (j5 (t2 aT (h8 (D3 "Table" 0 "inverse") u5)) (G5 2) j6 dP)) (c8 (aP 9 t8 (j5 (D8 eu) j8 j6 bu)) (c8 (wD 9 (P8 "Table" 0 "inverse" gE vJ)) (c8 (P8 "Table" 0 "size" gE aa) (aQ "Table" 0 "chosen" t8 i3))))))))))
def iX:DO:=c8 (d8 4 (o3 t8 (J8 "Table" "rest" M0 e9 (h8 u5 i3)))) (G3 (k9 (b8 pR D2 p0)) (p4 (eG (k9 (b8 ug D2 p0)) (f9 (h8 u5 D2)) aV)) A4)
def jJ:FV:=w5 2 5 (c8 (G3 (k9 (b8 F3 (c7 (t5 "Table" "limits" e9) i3) p0)) (p4 aV) A4) (c8 (d8 2 (eG (k9 (c7 (t5 "Table" "full" e9) i3)) (dU aG j2) j2)) (c8 (A8 (D8 (fC dF)) (A1 3) iX) (p4 aV))))
def X0:DO:=c8 (d8 5 (b4 jJ (h8 e9 D2))) (G3 (qo (k9 (b8 cQ aa aV)) (wW (k9 (b8 lj t8 aV)) (k9 (b8 yA aa u5)))) (c8 (d8 2 D2) (c8 (d8 3 aa) (G3 (k9 i3) (V4 2) A4))) A4)
def fB:FV:=w5 2 6 (c8 (d8 2 aV) (c8 (d8 3 aV) (c8 (A8 (t2 E2 (m4 (b4 u9 (m4 (t5 "Table" "full" e9))))) (A1 4) X0) (V4 2))))
def jK:DO:=c8 (d8 7 (c7 (t5 "Table" "chosen" e9) aa)) (c8 (d8 8 (c7 (t5 "Table" "limits" e9) jU)) (c8 (d8 9 (o3 D2 (c7 t8 aa))) (G3 (k9 (b8 wx vJ p0)) (cU 3 (f9 (zY eu vJ jU aa (fC (.bool U'))))) (G3 (qo (k9 (b8 ug vJ p0)) (k9 (b8 cQ kS aV))) (cU 3 (f9 (zY (b8 gk (o3 kS (t5 "Table" "size" e9)) eu) (dU aG vJ) jU aa (fC (.bool Uf))))) A4))))
def gb:FV:=w5 3 10 (c8 (I0 3 (D6 d6)) (c8 (G3 (k9 (b8 cQ (c7 (t5 "Table" "limits" e9) i3) aV)) (cU 3 (f9 (zY (c7 (t5 "Table" "limits" e9) i3) j2 i3 aV (fC (.bool U'))))) A4) (c8 (d8 4 (eG (k9 (c7 (t5 "Table" "full" e9) i3)) (dU aG j2) j2)) (c8 (A8 (t2 aR (m4 (J8 "Table" "amounts" L4 e9 d6))) (bE 2 (A7 5 (A7 6 bF))) jK) (V4 3)))))
def mf:FV:=w5 2 4 (c8 (d8 2 (o3 (c7 e9 p0) (c7 i3 j2))) (c8 (d8 3 (o3 (c7 i3 p0) (c7 e9 j2))) (p4 (NA (b8 ug t8 u5) (CA (b8 F3 t8 u5) (b8 ug (c7 e9 E4) (c7 i3 E4)))))))
def X5:DO:=G3 (wW (k9 (b8 lj i3 aV)) (k9 (b4 mf (h8 t8 i3)))) (d8 1 t8) A4
def Z3:FV:=w5 1 3 (c8 (d8 1 aV) (c8 (A8 (D8 e9) (A1 2) X5) (V4 1)))
def jH:List PV->Option (PV×Ds):=ou 4 4 (c8 (G3 (k9 (b8 lj (c7 u5 jW) aV)) (c8 (F6 (E6 "Table" "flip" 0 E7 (E8 i3 cm))) ll) A4) (c8 (F6 (E6 "Table" "turn" 0 br (E8 i3 (E8 (c7 u5 jW) (E8 t8 cm))))) (G3 (k9 (c7 u5 nY)) (F6 (E6 "Table" "flip" 0 E7 (E8 (c7 u5 E4) cm))) A4)))
def qx:DV:=eG (k9 i3) e9 (fC B7)
def kB:DO:=aP 2 u5 (b4 M4 (h8 (o3 D2 (c7 (t5 "Table" "scales" e9) u5)) (o3 (t5 "Table" "size" e9) (t5 "Table" "unit" e9))))
def aH:FV:=w5 2 5 (c8 (I0 2 (j5 (t2 aT (h8 i3 (t5 "Table" "full" e9))) (G5 2) j6 qx)) (c8 (A8 (t2 aT (h8 (t5 "Table" "chosen" e9) (J8 "Table" "amounts" L4 e9 d6))) (bE 2 (A7 3 (A7 4 bF))) kB) (V4 2)))
def dq:DV:=b4 M4 (h8 (c7 (c7 (t5 "Table" "prices" i3) e9) t8) (o3 (t5 "Table" "size" i3) (c7 (t5 "Table" "multiples" i3) e9)))
def hG:FV:=w5 2 3 (c8 (d8 2 (j5 (D8 (fC dF)) j8 j6 dq)) (p4 (b4 X9 (m4 t8))))
def kA:DO:=aP 3 D2 (b4 M4 (h8 (o3 (dU aG aa) (c7 (t5 "Table" "scales" e9) D2)) (t5 "Table" "size" e9)))
def iI:FV:=w5 3 6 (c8 (I0 3 (b8 cx (D6 (m4 (fC B7))) (b4 u9 (m4 (t5 "Table" "full" e9))))) (c8 (aP 3 i3 (f9 (h8 (c7 (t5 "Table" "scales" e9) i3) j2))) (c8 (A8 (t2 aT (h8 (t5 "Table" "chosen" e9) t8)) (bE 2 (A7 4 (A7 5 bF))) kA) (V4 3))))
def az:DB:=k9 (b8 cQ eu aV)
def W9:DO:=c8 (d8 7 (R3 (J8 "Table" "paces" P6 (K9 5) (m4 eu)))) (c8 (d8 8 (b4 Z3 (m4 (R3 (b4 gb (N1 (K9 5) eu jU)))))) (c8 (G3 (k9 (b8 lj kS aV)) (p4 (f9 (N1 (fC (.str "endless")) (R3 (b4 aH (h8 (K9 5) u5))) (R3 (b4 iI (N1 (K9 5) eu jU)))))) A4) (c8 (F6 (jj jH (gw 5 (E8 eu (E8 jU (E8 kS cm)))))) (d8 6 (R3 (b4 fB (h8 (K9 5) (b8 F3 (c7 kS p0) p0))))))))
def qw:DV:=R3 (b4 hG (h8 (K9 6) e9))
def mh:FV:=w5 5 9 (c8 (I0 5 (tP "Table" X4 (zY e9 i3 t8 u5 D2))) (c8 (d8 6 (R3 (b4 fB (h8 (K9 5) (fC (.bool U')))))) (c8 (jh (Jl az W9) az W9) (p4 (f9 (N1 (fC (.str "best")) (R3 (b4 aH (h8 (K9 5) u5))) (j5 (t2 E2 (m4 (b4 u9 (m4 i3)))) j8 j6 qw)))))))
def pB:FV:=w5 2 2 (p4 (f9 (N1 (b4 jG (h8 (c7 e9 p0) (c7 i3 p0))) (b4 jG (h8 (c7 e9 j2) (c7 i3 j2))) (b4 jG (h8 (c7 e9 E4) (c7 i3 E4))))))
def bp:FV:=w5 2 2 (p4 (f9 (N1 (b4 P2 (h8 (c7 e9 p0) i3)) (b4 P2 (h8 (c7 e9 j2) i3)) (b4 P2 (h8 (c7 e9 E4) i3)))))
def kI:FV:=w5 1 1 (p4 (f9 (N1 (f9 (h8 p0 j2)) (f9 (h8 p0 j2)) (f9 (h8 e9 j2)))))
def bZ:FV:=w5 1 1 (p4 (eG (k9 (b8 UY (c7 e9 j2) (c7 e9 p0))) (f9 (h8 j2 j2)) (f9 (h8 (dU aG j2) j2))))
def bP:FV:=w5 1 1 (p4 (b4 X3 (h8 (fC v7) (b4 bZ (m4 e9)))))
def bq:FV:=w5 2 4 (c8 (I0 2 (D6 (h8 (f9 (oC (N5 (h8 (fC (.str "lacked")) e9)) (fC CY) (f9 (h8 (c7 i3 j2) j2)) (D6 (m4 (f9 (h8 e9 (b4 bZ (m4 i3)))))))) (f9 (oC (N5 (h8 (fC (.str "spilt")) e9)) (fC ly) aV (D6 (m4 (f9 (h8 e9 (b4 bP (m4 i3))))))))))) (c8 (d8 3 (c7 i3 E4)) (c8 (G3 (k9 (b8 cQ u5 aV)) (c8 (cU 2 (f9 (oC (N5 (h8 (fC (.str "bought")) e9)) (b4 kI (m4 (c7 u5 p0))) (f9 (h8 (c7 u5 j2) j2)) (D6 (m4 (f9 (h8 e9 (b4 bZ (m4 i3))))))))) (cU 2 (f9 (oC (N5 (h8 (fC (.str "given")) e9)) (b4 kI (m4 (dU aG (c7 u5 E4)))) (f9 (h8 (c7 u5 jW) j2)) (D6 (m4 (f9 (h8 e9 (b4 bP (m4 i3)))))))))) A4) (V4 2))))
def jZ:DV:=f9 (h8 e9 (b4 X3 (h8 (fC v7) (c7 aa nY))))
def jY:DV:=f9 (h8 e9 (f9 (h8 j2 j2)))
def cG:FV:=w5 2 8 (c8 (d8 2 (b4 u9 (m4 (c7 e9 p0)))) (c8 (d8 3 (c7 (c7 e9 p0) i3)) (c8 (d8 4 (c7 e9 j2)) (c8 (d8 5 (j5 (t2 ic (h8 (b8 n8 t8 i3) (o3 E4 t8))) j8 j6 jZ)) (c8 (d8 6 (j5 (t2 ic (h8 (b8 n8 t8 i3) (o3 E4 t8))) j8 j6 jY)) (c8 (d8 7 (eG (k9 (b8 F3 i3 (b8 gk t8 j2))) (c7 D2 BP) p0)) (p4 (D6 (N1 (f9 (oC (N5 (h8 (fC (.str "filled")) i3)) (fC ly) (f9 (h8 (c7 D2 E4) j2)) (b8 n8 (D6 (m4 (f9 (h8 i3 (b4 bP (m4 u5)))))) aa))) (f9 (oC (N5 (h8 (fC (.str "taken")) i3)) (fC ly) (f9 (h8 (c7 D2 jW) j2)) (b8 n8 (D6 (m4 (f9 (h8 i3 (b4 P2 (h8 (b4 bZ (m4 u5)) (c7 D2 UP))))))) eu))) (f9 (oC (N5 (h8 (fC (.str "level")) i3)) (b4 kI (m4 (dU aG jU))) (f9 (h8 (c7 D2 p0) j2)) (D6 (m4 (f9 (h8 (b8 n8 t8 i3) (f9 (h8 j2 j2)))))))))))))))))
def bR:DO:=c8 (d8 6 (D6 (h8 (f9 (h8 aa (b4 bP (m4 (c7 (c7 e9 p0) aa))))) (f9 (h8 u5 (f9 (h8 j2 j2))))))) (cU 4 (f9 (oC (N5 (N1 (fC (.str "worked")) aa i3)) (fC ly) (f9 (h8 (c7 t8 nY) j2)) eu)))
def dO:FV:=w5 2 7 (c8 (d8 2 (c7 (c7 e9 E4) i3)) (c8 (d8 3 (b8 n8 (o3 E4 (b4 u9 (m4 (c7 e9 p0)))) i3)) (c8 (I0 4 (D6 (m4 (f9 (oC (N5 (h8 (fC (.str "undone")) i3)) (fC vr) (f9 (h8 (c7 t8 j2) j2)) (D6 (m4 (f9 (h8 u5 (f9 (h8 j2 j2))))))))))) (c8 (A8 (t2 ic (h8 (c7 t8 E4) (b8 n8 (c7 t8 jW) j2))) (A1 5) bR) (V4 4)))))
def dR:DO:=c8 (rM 1 (b4 bq (h8 t8 u5))) (rM 1 (b4 cG (h8 e9 t8)))
def dQ:DO:=rM 1 (b4 dO (h8 e9 t8))
def hH:FV:=w5 1 4 (c8 (I0 1 (D6 d6)) (c8 (A8 (t2 aR (m4 (c7 e9 p0))) (bE 2 (A7 2 (A7 3 bF))) dR) (c8 (A8 (t2 E2 (m4 (b4 u9 (m4 (c7 e9 E4))))) (A1 2) dQ) (V4 1))))
def aI:DV:=b8 cx (D6 (m4 (fC v7))) (b4 u9 (m4 i3))
def iS:DO:=wB 2 aa u5 eu
def iR:DO:=A8 (D8 (c7 D2 jW)) (bE 2 (A7 5 (A7 6 bF))) iS
def mW:FV:=w5 2 7 (c8 (I0 2 (lu (t2 E2 (m4 i3)) j8 aI)) (c8 (A8 (t2 aR (m4 e9)) (bE 2 (A7 3 (A7 4 bF))) iR) (V4 2)))
def qK:DV:=f9 (h8 (b4 nG (m4 (b8 gk (c7 e9 j2) (c7 e9 p0)))) j2)
def jS:DV:=f9 (h8 (c7 e9 j2) j2)
def iO:FV:=w5 1 3 (c8 (d8 1 (j5 (D8 (c7 e9 p0)) j8 j6 qK)) (c8 (d8 2 (b8 cx (D6 (m4 (f9 (h8 (c7 (c7 e9 j2) j2) j2)))) (b4 u9 (m4 (c7 e9 p0))))) (p4 (b8 n8 (b8 n8 i3 t8) (j5 (D8 (c7 e9 E4)) j8 j6 jS)))))
def hJ:DV:=N5 (h8 (eG (k9 (b8 F3 (b4 bZ (m4 i3)) (f9 (h8 j2 j2)))) (fC (.str "lacked")) (fC (.str "spilt"))) e9)
def mZ:DV:=N5 (h8 (fC (.str "level")) e9)
def hI:DV:=N5 (h8 (fC (.str "undone")) e9)
def cc:FV:=w5 1 3 (c8 (d8 1 (j5 (t2 aR (m4 (c7 e9 p0))) (G5 2) j6 hJ)) (c8 (d8 2 (j5 (t2 E2 (m4 (b4 u9 (m4 (c7 e9 p0))))) j8 j6 mZ)) (p4 (b8 n8 (b8 n8 i3 t8) (j5 (t2 E2 (m4 (b4 u9 (m4 (c7 e9 E4))))) j8 j6 hI)))))
def qs:FV:=w5 3 4 (c8 (d8 3 (b4 X3 (h8 (b4 P2 (h8 (c7 e9 nY) i3)) t8))) (c8 (G3 (k9 (b4 fZ (h8 u5 (fC v7)))) (p4 (f9 (h8 (fC v7) (b4 X3 (h8 (fC v7) u5))))) A4) (p4 (f9 (h8 (b4 sR (h8 u5 (c7 e9 nY))) (fC v7))))))
def uC:DV:=iy t8 (N5 (N1 (fC (.str "worked")) D2 e9)) (fC v7)
def iT:DO:=c8 (d8 4 (f9 (h8 (iy i3 (N5 (h8 (fC (.str "bought")) u5)) (fC v7)) (iy i3 (N5 (h8 (fC (.str "given")) u5)) (fC v7))))) (c8 (d8 5 (b4 qs (N1 (c7 e9 j2) (ji i3 (N5 (h8 (fC (.str "filled")) u5))) (ji i3 (N5 (h8 (fC (.str "taken")) u5)))))) (c8 (d8 6 (j5 (t2 E2 (m4 (b4 u9 (m4 (c7 e9 E4))))) j8 j6 uC)) (cU 2 (b8 n8 (b8 n8 D2 aa) (f9 (h8 (ji i3 (N5 (h8 (fC (.str "lacked")) u5))) (b4 X9 (m4 eu))))))))
def mX:FV:=w5 2 7 (c8 (I0 2 (D6 d6)) (c8 (A8 (t2 E2 (m4 (b4 u9 (m4 (c7 e9 p0))))) (A1 3) iT) (p4 (nA (b4 X9 (m4 t8))))))
def fo:DV:=b4 bp (h8 i3 (b4 bZ (m4 e9)))
def cj:DO:=c8 (d8 5 (b4 pB (h8 aa (b4 bp (h8 eu (f9 (h8 (dU aG j2) j2))))))) (cU 4 aa)
def iP:FV:=w5 2 7 (c8 (d8 2 (b4 u9 (m4 (c7 e9 p0)))) (c8 (d8 3 (j5 (t2 aT (h8 (c7 e9 p0) i3)) (G5 2) j6 fo)) (c8 (I0 4 (D6 d6)) (c8 (d8 5 (fC ly)) (c8 (A8 (t2 uM (m4 (gC mB i3 (N4 t8) (N4 (o3 E4 t8))))) (A1 6) cj) (c8 (tM 4 Du) (p4 (nA (f9 (N1 (b4 X9 (m4 u5)) (b4 X9 (m4 D2)) (b4 X9 (m4 (gC mB i3 (N4 (o3 E4 t8)) kh)))))))))))))
def qO:DV:=c7 e9 p0
def qN:DV:=c7 e9 j2
def qM:DV:=c7 e9 E4
def qL:DV:=tO kG u5 (m4 e9)
def iQ:FV:=w5 1 8 (c8 (d8 1 (b4 hH (m4 e9))) (c8 (d8 2 (j5 (D8 i3) j8 j6 qO)) (c8 (d8 3 (j5 (D8 i3) j8 j6 qN)) (c8 (d8 4 (j5 (D8 i3) j8 j6 qM)) (c8 (d8 5 (b4 iO (m4 e9))) (c8 (d8 6 (j5 (D8 (b4 cc (m4 e9))) j8 j6 qL)) (c8 (d8 7 (b4 mh (zY u5 (b4 mW (h8 i3 (b4 u9 (m4 aa)))) aa D2 eu))) (p4 (f9 (h8 (b4 mX (h8 e9 (Cz (h8 t8 (c7 jU j2))))) (b4 iP (h8 e9 (c7 jU E4)))))))))))))
def B8:FV:=w5 3 5 (c8 (d8 3 p0) (c8 (G3 (k9 (b8 wx (b4 u9 (m4 e9)) p0)) (c8 (d8 3 (c7 e9 (b8 bH i3 (b4 u9 (m4 e9))))) (G3 (k9 (b8 F3 (b8 bH (c7 e9 p0) E4) j2)) (p4 (b8 bH (b8 bH (b8 Iy (b8 O7 u5 E4) (o3 (fC (.int 32)) (b8 O7 i3 (b4 u9 (m4 e9))))) (b8 IP E4 (fC (.int 32)))) t8)) A4)) A4) (c8 (d8 4 (b8 bH (o3 (b8 n8 (b8 bH u5 (fC (.int 1000003))) j2) (b8 n8 (b8 n8 (o3 i3 i3) i3) (fC (.int 41)))) (fC (.int 999983)))) (p4 (b8 bH (b8 O7 (b8 bH (o3 (b8 bH (o3 D2 (b8 n8 D2 (fC (.int 7919)))) (fC (.int 2147483647))) (fC (.int 69621))) (fC (.int 2147483629))) (fC (.int 11))) t8)))))
def kz:DB:=k9 (b8 wx u5 p0)
def kC:DO:=c8 (d8 4 (b8 bH t8 u5)) (c8 (d8 2 u5) (d8 3 D2))
def fD:FV:=w5 2 5 (c8 (d8 2 (b4 nG (m4 e9))) (c8 (d8 3 i3) (c8 (jh (wa 3) kz kC) (p4 (f9 (h8 (b8 O7 e9 t8) (b8 O7 i3 t8)))))))
def R5:FV:=w5 2 2 (p4 (b4 fD (h8 (b8 n8 (o3 (c7 e9 p0) (c7 i3 j2)) (o3 (c7 i3 p0) (c7 e9 j2))) (o3 (c7 e9 j2) (c7 i3 j2)))))
def P5:FV:=w5 2 2 (p4 (b4 fD (h8 (o3 (c7 e9 p0) (c7 i3 p0)) (o3 (c7 e9 j2) (c7 i3 j2)))))
def qy:DV:=b4 R5 (h8 (c7 i3 e9) (b4 P5 (h8 (c7 t8 e9) u5)))
def mi:FV:=w5 3 3 (p4 (b4 X9 (m4 (j5 (t2 E2 (m4 jW)) j8 j6 qy))))
def dk:FV:=w5 1 1 (p4 (f9 (h8 (b8 gk p0 (c7 e9 p0)) (c7 e9 j2))))
noncomputable def J5:FV:=w5 3 4 (c8 (d8 3 (c7 (D6 (ar6 j2 j2 j2 j2 j2 (fC (.int 1000)))) (b4 B8 (N1 e9 j2 BP)))) (p4 (o3 u5 (b4 B8 (N1 e9 i3 (b8 n8 t8 j2))))))
noncomputable def gd:FV:=w5 2 4 (c8 (I0 2 (D6 (oC (f9 (h8 j2 j2)) (f9 (h8 j2 E4)) (f9 (h8 (fC (.int 9)) Su)) (f9 (h8 E4 jW))))) (c8 (d8 3 (b8 n8 j2 (b4 B8 (N1 e9 (b8 n8 i3 j2) uU)))) (c8 (cU 2 (b4 fD (h8 (b8 n8 j2 (b4 B8 (N1 e9 (b8 n8 i3 E4) u5))) u5))) (p4 (yW 2 (b4 B8 (N1 e9 i3 UP)))))))
noncomputable def iV:DO:=c8 (d8 4 (b8 n8 (fC (.int 100)) (o3 (fC (.int 20)) u5))) (c8 (d8 5 aV) (c8 (G3 (k9 (b8 wx (b4 B8 (N1 e9 D2 nY)) p0)) (c8 (d8 6 (b8 gk (b4 B8 (N1 e9 (b8 n8 D2 j2) (fC (.int 27)))) BP)) (c8 (d8 7 (b8 gk (b4 B8 (N1 e9 (b8 n8 D2 jW) (fC (.int 27)))) BP)) (d8 5 (f9 (oC eu (b4 J5 (N1 e9 (b8 n8 D2 E4) uU)) jU (b4 J5 (N1 e9 (b8 n8 D2 nY) uU))))))) A4) (cU 2 (f9 (N1 (b4 J5 (N1 e9 (b8 n8 D2 UP) uU)) (b4 J5 (N1 e9 (b8 n8 D2 BP) uU)) aa)))))
def iU:DO:=c8 (d8 4 (b8 n8 (fC (.int 200)) (o3 Su (b7 11)))) (c8 (d8 12 (b4 B8 (N1 e9 D2 i3))) (c8 (d8 13 (b8 n8 (b7 12) (b4 B8 (N1 e9 (b8 n8 D2 j2) (b8 gk i3 (b7 12)))))) (cU 10 (f9 (zY (b8 n8 (fC (.str "work")) (c7 (fC (.str "ab")) (b7 11))) (b4 J5 (N1 e9 (b8 n8 D2 E4) uU)) (b7 12) (b7 13) (b4 J5 (N1 e9 (b8 n8 D2 jW) Ml)))))))
def jI:FV:=w5 1 14 (c8 (d8 1 (c7 (D6 (a8 j2 (a8 E4 (ar6 E4 jW jW E4 jW j2)))) (b4 B8 (N1 e9 Su Ml)))) (c8 (I0 2 (D6 d6)) (c8 (A8 (t2 E2 (m4 i3)) (A1 3) iV) (c8 (d8 8 (b4 J5 (N1 e9 (fC (.int 20)) uU))) (c8 (d8 9 (f9 (oC kS (b4 B8 (N1 e9 (fC (.int 21)) (b8 n8 kS j2))) (b4 J5 (N1 e9 (fC (.int 22)) Ml)) (b4 J5 (N1 e9 (fC (.int 23)) Ml))))) (c8 (d8 9 (b8 n8 vJ (f9 (N1 (b4 gd (h8 e9 (fC (.int 30)))) (b4 gd (h8 e9 (fC (.int 40)))) (b4 B8 (N1 e9 (fC (.int 24)) (fC (.int 13)))))))) (c8 (I0 10 (D6 d6)) (c8 (A8 (t2 E2 (m4 (c7 (D6 (ar6 p0 p0 j2 j2 E4 E4)) (b4 B8 (N1 e9 (fC (.int 11)) BP))))) (A1 11) iU) (p4 (nA (f9 (N1 (b4 X9 (m4 t8)) vJ (b4 X9 (m4 (b7 10)))))))))))))))
def mj:FV:=w5 1 1 (c8 (G3 (k9 (b8 lj (c7 e9 E4) aV)) (p4 (f9 (oC p0 p0 p0 p0))) A4) (p4 (c7 e9 E4)))
def nJ:DO:=d8 3 (b4 R5 (h8 u5 (f9 (h8 (c7 eu j2) j2))))
def iW:DO:=d8 3 (b4 R5 (h8 u5 (b4 dk (m4 (b7 10)))))
def nI:DO:=c8 (d8 8 (c7 i3 jU)) (c8 (d8 9 (b4 mj (m4 (c7 (c7 e9 p0) jU)))) (c8 (d8 2 (b4 R5 (h8 t8 (c7 kS nY)))) (c8 (d8 4 (b4 R5 (h8 D2 (b4 P5 (h8 (f9 (h8 (c7 vJ p0) j2)) (c7 kS p0)))))) (c8 (d8 4 (b4 R5 (h8 D2 (b4 P5 (h8 (f9 (h8 (b8 gk p0 (c7 vJ E4)) j2)) (c7 kS j2)))))) (c8 (d8 5 (b4 R5 (h8 aa (b4 R5 (h8 (b4 P5 (h8 (c7 (c7 e9 j2) nY) (c7 kS E4))) (b4 dk (m4 (c7 kS jW)))))))) (A8 (D8 (c7 kS UP)) (A1 10) iW))))))
def mY:FV:=w5 2 11 (c8 (d8 2 (f9 (h8 p0 j2))) (c8 (d8 3 (f9 (h8 p0 j2))) (c8 (d8 4 (f9 (h8 p0 j2))) (c8 (d8 5 (f9 (h8 (c7 (c7 e9 j2) j2) j2))) (c8 (A8 (D8 (c7 e9 E4)) (A1 6) nJ) (c8 (A8 (t2 E2 (m4 (b4 u9 (m4 i3)))) (A1 7) nI) (p4 (f9 (N1 t8 u5 (b4 R5 (h8 D2 (b4 P5 (h8 (f9 (h8 (b8 gk p0 (c7 (c7 e9 j2) BP)) j2)) aa)))))))))))))
def fw:DO:=(c8 (d8 4 aV) (c8 (G3 (k9 (b8 cQ (b8 l7 u5 E4) aV)) (d8 4 (f9 (a8 (b8 l7 (b8 l7 u5 E4) p0) (a8 (b8 C8 i3 (b8 l7 (b8 l7 u5 E4) j2)) (a8 (b8 l7 (b8 l7 u5 E4) E4) (a8 (b8 C8 i3 (b8 l7 (b8 l7 u5 E4) jW)) d6)))))) A4) (cU 2 (f9 (a8 (b8 C8 i3 (b8 l7 u5 p0)) (a8 (b8 C8 i3 (b8 l7 u5 j2)) (a8 D2 d6)))))))
def jT:DV:=(b8 C8 t8 e9)
def fq:DV:=(f9 (a8 (b8 l7 e9 p0) (a8 (b8 C8 t8 (b8 l7 e9 j2)) (a8 (b8 l7 e9 E4) (a8 (b8 l7 e9 jW) (a8 (b8 C8 t8 (b8 l7 e9 nY)) d6))))))
def eU:FV:=w5 2 7 (c8 (I0 2 (D6 d6)) (c8 (A8 (D8 (b8 l7 e9 p0)) (A1 3) fw) (c8 (d8 5 (b8 n8 (b4 X9 (a8 (j5 (D8 (gC mB (b8 l7 e9 j2) kh (N4 nY))) j8 j6 jT) d6)) (gC mB (b8 l7 e9 j2) (N4 nY) kh))) (c8 (d8 6 (b4 X9 (a8 (j5 (D8 (b8 l7 e9 E4)) j8 j6 fq) d6))) (p4 (nA (f9 (a8 (b4 X9 (a8 t8 d6)) (a8 aa (a8 eu d6))))))))))
def F1:FV:=w5 1 1 (p4 (b4 mY (h8 e9 (c7 (b4 iQ (m4 e9)) p0))))
def qt:FV:=w5 1 5 (c8 (d8 1 (b4 jI (a8 e9 d6))) (c8 (d8 2 (b4 F1 (a8 i3 d6))) (c8 (d8 3 (b4 B8 (a8 e9 (a8 (fC (.int 901)) (a8 nY d6))))) (c8 (G3 (k9 (b8 F3 u5 p0)) (p4 (b8 F3 (b4 F1 (a8 i3 d6)) t8)) A4) (c8 (G3 (k9 (b8 F3 u5 j2)) (p4 (b8 F3 (b4 F1 (a8 (f9 (a8 (b8 l7 i3 p0) (a8 (b8 l7 i3 j2) (a8 (b4 X9 (a8 (lr (a8 (b8 l7 i3 E4) d6)) d6)) d6)))) d6)) t8)) A4) (c8 (G3 (k9 (b8 F3 u5 E4)) (p4 (b8 F3 (b4 F1 (a8 (f9 (a8 (b8 n8 (b8 l7 i3 p0) (f9 (a8 (f9 (a8 p0 (a8 p0 (a8 aV d6)))) d6))) (a8 (b8 l7 i3 j2) (a8 (b8 l7 i3 E4) d6)))) d6)) t8)) A4) (c8 (d8 4 (b8 n8 E4 (b4 B8 (a8 e9 (a8 (fC (.int 900)) (a8 Ml d6)))))) (p4 (b8 F3 (b4 F1 (a8 (b4 eU (a8 i3 (a8 D2 d6))) d6)) (b4 mi (a8 (f9 (a8 (f9 (a8 p0 (a8 j2 d6))) (a8 (f9 (a8 p0 (a8 j2 d6))) (a8 (f9 (a8 p0 (a8 j2 d6))) d6)))) (a8 t8 (a8 (f9 (a8 D2 (a8 j2 d6))) d6)))))))))))))
end
end Law
set_option maxHeartbeats 400000
set_option hygiene false
local macro_rules | `(tactic| walk_at "r") => `(tactic| simp only[L2.w5, L2.k6, L2.j0, L2.QF, L2.yS, L2.MD, L2.bI, L2.rz, L2.G3, L2.p4, L2.V4, L2.A4, L2.kH, L2.A8, L2.jh, L2.wD, L2.yT, L2.b7, L2.fC, L2.b8, L2.dU, L2.b4, L2.f9, L2.D6, L2.gC, L2.eG, L2.CA, L2.NA, L2.yV, L2.nA, L2.bU, L2.j5, L2.kh, L2.N4, L2.TV, L2.a8, L2.d6, L2.k9, L2.qo, L2.wW, L2.j6, L2.t2, L2.D8, L2.IA, L2.KZ, L2.Sg, L2.LQ, L2.qf, L2.mR, L2.A1, L2.bE, L2.A7, L2.bF, L2.j8, L2.G5, L2.PV.tS, L2.PV.JP, L2.wa,
 L2.Ua,L2.Qy,L2.Xf,L2.Xv,L2.Xw,L2.vg,L2.SF,L2.og,L2.Tc,L2.Ub,L2.SE,L2.ME,L2.Cc,L2.Kz,L2.Qn,L2.Jv,L2.MB,L2.VJ,L2.Td,L2.Gf,L2.TL,L2.KL,L2.NB,L2.yW,L2.tM,L2.kF,L2.a2g,L2.a2f,L2.a2e,L2.a2d,L2.a2c,L2.a2b,String.reduceBEq,
 g8,Option.bind_none,oT,Option.map_none,m6,oO,W2,gU,o1,W0,Z8,Z9,gH,Ei,Pj,me,Nat.reduceAdd,Nat.reduceSub,Nat.reduceEqDiff,Nat.reduceLeDiff,Nat.reduceLT,Int.reduceToNat,Int.cast_ofNat_Int,eq_self,
 L9,if_false,reduceIte,decide_eq_true_eq,decide_true,decide_false,jC,OB,decide_eq_false_iff_not,Bool.not_true,Bool.not_false,not_true_eq_false,not_false_eq_true,Bool.true_or,Bool.false_or,Bool.or_true,Bool.or_false,Bool.and_true,Bool.true_and,Bool.and_false,DJ,reduceCtorEq,and_self])
set_option hygiene true
namespace Law
open PySem L2
section
variable{y z a D N E:Int}{p q:Q2}{k:Nat}{ns:List Int}
abbrev gc(a b:Int):Int:=(m3 a b:Nat)
theorem Cn(x y:Int):m3 y (x.fmod y)=m3 x y:=by
 rw[Int.fmod_def];apply Nat.dvd_antisymm
 . apply Int.dvd_gcd
   . have d:((m3 y (x-y*x.fdiv y)):Int)∣y:=gW ..;have a:((m3 y (x-y*x.fdiv y)):Int)∣x-y*x.fdiv y:=gX ..;have b:=Int.dvd_add a (Ph (c:=x.fdiv y) d)
     rwa [Int.sub_add_cancel]at b
   exact gW ..
 apply Int.dvd_gcd;exact gX ..;exact Int.dvd_sub (gW ..) (Ph (gX ..))
theorem nZ(x:Int)(h:y≠0):(x.fmod y).natAbs<y.natAbs:=by
 rcases Int.lt_or_gt_of_ne h with a|a
 . have e:Int.fmod x y=x % y+if 0<=y\/y∣x then 0 else y:=Int.fmod_eq_emod
   have:=Int.emod_lt x h;split at e<;>omega
 have:=pw x a;have:=xP x a;omega
def o5(t b:Int):Int×Int:=(t.fdiv (if b<0 then -gc t b else gc t b),b.fdiv (if b<0 then -gc t b else gc t b))
structure k8(m:Nat)(q:Int×Int):Prop where
 pos:0<q.2
 low:m3 q.1 q.2=1
 bt:Bt m q.1
 bb:Bt m q.2
theorem k8.mono{m n:Nat}{q:Int×Int}(h:k8 m q)(a:m<=n):k8 n q:=⟨h.pos,h.low,h.bt.mono a,h.bb.mono a⟩
theorem cO{t b:Int}{m:Nat}(d:0<b)(f:Bt m t)(a:Bt m b):k8 m (o5 t b):=by
 have g:0<m3 t b:=qq t x6;have e:o5 t b=(t/gc t b,b/gc t b):=by delta o5;rw[b0 (Int.not_lt.2 Y8),W3 _ j1,W3 _ j1]
 have c:gc t b∣b:=gX ..;rw[e];refine⟨EG d j1 c,sM g,?_,?_⟩
 . have:=f.fdiv (j:=gc t b)
   rwa [W3 _ j1]at this
 . have:=a.fdiv (j:=gc t b)
   rwa [W3 _ j1]at this
theorem Tp{m n:Nat}{p q:Int×Int}(j:k8 m p)(hq:k8 n q)(h:p.1*q.2-q.1*p.2=0):p=q:=by
 obtain⟨a,b⟩:=p;obtain⟨c,d⟩:=q;have pb:=j.pos;have e:a*d=c*b:=by have:=h;exact Int.sub_eq_zero.1 c6
 have k:b∣d:=by
  have z:b∣a*d:=⟨c,by rw[e,x9]⟩
  have i:b.natAbs∣a.natAbs*d.natAbs:=by rw[<-aS];exact Int.natAbs_dvd_natAbs.mpr z
  have g:xk b.natAbs a.natAbs:=by rw[xF];exact j.low
  exact Int.natAbs_dvd_natAbs.mp (g.dvd_of_dvd_mul_left i)
 have k2:d∣b:=by
  have z:d∣c*b:=⟨a,by rw[<-e,x9]⟩
  have i:d.natAbs∣c.natAbs*b.natAbs:=by rw[<-aS];simp_all
  have g:xk d.natAbs c.natAbs:=by rw[xF];exact hq.low
  exact Int.natAbs_dvd_natAbs.mp (g.dvd_of_dvd_mul_left i)
 have f:b=d:=by have:=dJ hq.pos k;have:=dJ pb k2;exact Int.le_antisymm c6 c6
 subst f;have:=sP x6 e;rw[this]
theorem wA{m:Nat}{t b:Int}(a:b≠0)(h:Bt m b):Bt m (gc t b):=h.of_le (by have:=Int.gcd_le_natAbs_right t a;simp[*])
theorem UZ{t b:Int}(a:b≠0):gc t b≠0:=by have:=qq t a;simp[*]
theorem a0A(t b:Int):gc (if t<0 then -t else t) (if b<0 then -b else b)=gc t b:=by
 show((m3 _ _):Int)=(m3 t b)
 have a:∀x y:Int,m3 (if x<0 then -x else x) y=m3 x y:=λx y=>by split<;>simp
 have c:∀x y:Int,m3 x (if y<0 then -y else y)=m3 x y:=λx y=>by split<;>simp
 rw[a,c]
abbrev fr(q:Int×Int):a7:=.tuple [.int q.1,.int q.2]
def Z5(p q:Int×Int):Int×Int:=o5 (p.1*q.2+q.1*p.2) (p.2*q.2)
def cN(p q:Int×Int):Int×Int:=o5 (p.1*q.2-q.1*p.2) (p.2*q.2)
def C3(p q:Int×Int):Int×Int:=o5 (p.1*q.1) (p.2*q.2)
def kM(p q:Int×Int):Bool:=decide (p.1*q.2<q.1*p.2)
abbrev Q2:=Int×Int
def val(q:Q2):Rat:=(q.1:Rat)/(q.2:Rat)
theorem dE{b:Int}(h:b≠0):(b:Rat)≠0:=by exact_mod_cast h
theorem du{t b:Int}(d:0<b):val (o5 t b)=(t:Rat)/(b:Rat):=by
 have e:o5 t b=(t/gc t b,b/gc t b):=by delta o5;rw[b0 (Int.not_lt.2 Y8),W3 _ j1,W3 _ j1]
 have c:t/gc t b*gc t b=t:=xR (gW ..);have a:b/gc t b*gc t b=b:=xR (gX ..);rw[e];show((t/gc t b:Int):Rat)/((b/gc t b:Int))=_;have:=dE (show gc t b≠0 by lia)
 generalize gc t b=g at *;have:((t/g:Int):Rat)*g=t:=by exact_mod_cast c
 have:((b/g:Int):Rat)*g=b:=by exact_mod_cast a
 grind
theorem Qe(a:0<p.2)(hq:0<q.2):val (Z5 p q)=val p+val q:=by
 delta Z5;rw[du (A5 a hq)];have:=dE (show p.2≠0 by exact x6);have:=dE (show q.2≠0 by exact x6);delta val
 push_cast
 grind
theorem zm(a:0<p.2)(hq:0<q.2):val (cN p q)=val p-val q:=by
 delta cN;rw[du (A5 a hq)];have:=dE (show p.2≠0 by exact x6);have:=dE (show q.2≠0 by exact x6);delta val
 push_cast
 grind
theorem qU(a:0<p.2)(hq:0<q.2):val (C3 p q)=val p*val q:=by
 delta C3;rw[du (A5 a hq)];delta val
 push_cast
 grind
theorem val_inj{m n:Nat}(a:k8 m p)(hq:k8 n q)(h:val p=val q):p=q:=by
 refine Tp a hq ?_;have:=dE (show p.2≠0 by have:=a.pos;exact x6);have:=dE (show q.2≠0 by have:=hq.pos;exact x6)
 have:(p.1:Rat)/p.2=q.1/q.2:=h;have e:(p.1:Rat)*q.2-q.1*p.2=0:=by grind
 exact_mod_cast e
theorem val_one(n:Int):val (n,1)=(n:Rat):=by
 show(n:Rat)/1=n;grind
theorem rf{m n:Nat}(a:k8 m p)(hq:k8 n q):k8 (m+n+1) (Z5 p q) :=
 cO (A5 a.pos hq.pos) ((a.bt.mul hq.bb).add ((hq.bt.mul a.bb).mono (lJ (oM _ _)))) ((a.bb.mul hq.bb).mono j1)
theorem ak{m n:Nat}(a:k8 m p)(hq:k8 n q):k8 (m+n) (C3 p q) :=
 cO (A5 a.pos hq.pos) (a.bt.mul hq.bt) (a.bb.mul hq.bb)
theorem kW{m:Nat}{n:Int}(h:Bt m n)(a:1<=m):k8 m (n,1):=⟨by simp,by simp,h,Bt.mono ⟨by simp⟩ a⟩
theorem EK(x y:Int)(z:Option PV):aA [iD x,iD y,z]=U (!decide (y=0)):=by rfl
theorem Uh(x:Int)(z:Option PV)(h:y≠0):aB [iD x,iD y,z]=U (.next [iD y,iD (x.fmod y),iD (x.fmod y)]):=by delta aB;walk_at "r";rw[Y3 h];walk_at "r"
theorem jl{x:Int}(l:0<=x)(k:0<=y):E3 [.int x,.int y]=sd (.int (gc x y)):=by
 delta E3;walk_at "r";obtain⟨m,n,⟨a,b,f,rfl,i,g,c⟩,j⟩:=zk (Fc:=aA) (λd=>∃a b f,d=[iD a,iD b,f]/\gc a b=gc x y/\0<=a/\0<=b) (λd=>wa 1 d-1) (by
  rintro d ⟨a,b,f,rfl,i,g,c⟩;rw[EK];by_cases h:b=0;left;simp[h]
  . right;refine⟨by simp[h],_,Uh a f h,⟨b,a.fmod b,_,rfl,?_,c,pw a b6⟩,?_⟩;rw[<-i];show((m3 b (a.fmod b)):Int)=(m3 a b);rw[Cn]
    . have:=nZ a h;assumption) (y.natAbs+1) [iD x,iD y,J] ⟨x,y,J,rfl,rfl,l,k⟩ (by walk_at "r";simp[*])
 rw[EK]at j;have o:b=0:=by simpa using j
 subst o;have e:gc a 0=a:=by show((m3 a 0))=a;rw[OG];exact lX c6
 rw[n,<-i,e];walk_at "r"
theorem eF{t b:Int}(d:b≠0)(c:Bt 8000 b):M4 [.int t,.int b]=sd (fr (o5 t b)):=by
 delta M4;walk_at "r";rw[b0 d];walk_at "r";rw[jl (by split<;>lia) (by split<;>lia),a0A];walk_at "r";have f:=UZ (t:=t) d;have a:=wA (t:=t) d c;delta o5;by_cases e:b<0;simp only[b3 e];walk_at "r";rw[C4 j1 a.neg,C4 j1 a.neg];rfl;simp only[b0 e];walk_at "r";rw[C4 f a,C4 f a];rfl
theorem BX{t b x:Int}(m:0<b)(g:0<y)(c:m3 x y=1)(a:t*y=x*b):o5 t b=(x,y):=by
 have d:y∣b:=by
  have z:y∣x*b:=⟨t,by rw[<-a,x9]⟩
  have l:y.natAbs∣x.natAbs*b.natAbs:=by rw[<-aS];simp_all
  have i:xk y.natAbs x.natAbs:=by rw[xF];exact c
  exact Int.natAbs_dvd_natAbs.mp (i.dvd_of_dvd_mul_left l)
 obtain⟨k,rfl⟩:=d;have:0<k:=by
  rcases bW 0 k with h|h
  exact h;have:=qr (N8 g) h;lia
 have j:t=x*k:=by
  have:t*y=(x*k)*y:=by rw[a,F0,x9 y k]
  exact sP x6 this
 subst j;have e:m3 (x*k) (y*k)=k.natAbs:=by rw[Int.gcd_mul_right,c,Nat.one_mul]
 have f:gc (x*k) (y*k)=k:=by show((m3 _ _))=k;rw[e];exact lX Y8
 delta o5;rw[b0 (Int.not_lt.2 Y8),f,W3 _ Y8,W3 _ Y8,OL _ x6,OL _ x6]
theorem iA{x:Int}(b:m3 x y=1)(a:m3 x z=1):m3 x (y*z)=1:=by
 show Nat.gcd x.natAbs (y*z).natAbs=1;rw[aS];exact Nat.Coprime.mul_right b a
theorem ar{x:Int}(b:m3 x y=1)(a:z∣y):m3 x z=1 :=
 Nat.Coprime.coprime_dvd_right (Int.natAbs_dvd_natAbs.mpr a) b
theorem K4{x:Int}(h:m3 x y=1):m3 y x=1:=by rw[xn];exact h
theorem HZ{x k:Int}(h:m3 x y=1):m3 (x+k*y) y=1:=by simp_all
theorem RK{b c d:Int}(I:0<b)(hd:0<d)(G:m3 a b=1)(H:m3 c d=1):
  let s:=gc b d
  let t:=a*d.fdiv s+c*b.fdiv s
  let e:=gc t s
  0<s/\0<e/\o5 (a*d+c*b) (b*d)=(t.fdiv e,b.fdiv s*d.fdiv e):=by
 have F:0<m3 b d:=qq b x6;have L:0<gc b d:=by lia
 obtain⟨b',g⟩:gc b d∣b:=gW ..;obtain⟨d',f⟩:gc b d∣d:=gX ..;have y:m3 b' d'=1:=by
  have:=sM F;have v:b/((m3 b d))=b':=by
   conv=>lhs;lhs;rw[g]
   rw[gJ _ x6]
  have q2:d/((m3 b d))=d':=by
   conv=>lhs;lhs;rw[f]
   rw[gJ _ x6]
  rwa [v,q2]at this
 intro s t e;have q:gc b d=s:=rfl;have z:b.fdiv s=b':=by rw[W3 _ Y8];rw[q]at g;rw[g,gJ _ x6]
 have C:d.fdiv s=d':=by rw[W3 _ Y8];rw[q]at f;rw[f,gJ _ x6]
 have r:t=a*d'+c*b':=by show a*d.fdiv s+c*b.fdiv s=_;rw[z,C]
 have w:0<m3 t s:=qq t x6;have A:0<e:=by show(0:Int)<((m3 t s));exact Int.natCast_pos.2 c6
 refine⟨L,A,?_⟩;rw[q]at g f
 clear_value s
 obtain⟨n,i⟩:e∣t:=gW ..;obtain⟨m,k⟩:e∣s:=gX ..;have o:m3 n m=1:=by
  have:=sM w;have v:t/((m3 t s))=n:=by
   show t/e=n;rw[i,gJ _ x6]
  have q2:s/((m3 t s))=m:=by
   show s/e=m;rw[k,gJ _ x6]
  rwa [v,q2]at this
 clear_value e
 have p:0<b':=by
  rcases bW 0 b' with h|h
  exact h;have:=qr (N8 (show(0:Int)<s by lia)) h;lia
 have x:0<d':=by
  rcases bW 0 d' with h|h
  exact h;have:=qr (N8 (show(0:Int)<s by lia)) h;lia
 have u:0<m:=by
  rcases bW 0 m with h|h
  exact h;have:=qr (N8 A) h;lia
 have D:m3 t b'=1:=by
  rw[r];have:=K4 (iA (K4 (ar G ⟨s,by rw[g,x9]⟩)) y);exact HZ this
 have E:m3 t d'=1:=by
  rw[r,Int.add_comm];have:=K4 (iA (K4 (ar H ⟨s,by rw[f,x9]⟩)) (K4 y));exact HZ this
 have dt:n∣t:=⟨e,by rw[i,x9]⟩
 have K:d.fdiv e=m*d':=by rw[W3 _ Y8,f,k,F0,gJ _ x6]
 have B:t.fdiv e=n:=by rw[W3 _ Y8,i,gJ _ x6]
 rw[z,K,B];apply BX (A5 I hd) (A5 p (A5 u x));exact iA (K4 (ar (K4 D) dt)) (iA o (K4 (ar (K4 E) dt)))
 . have e1 : a * d + c * b = s * t := by rw [r, bj]; conv => lhs; rw [g, f]
                                         simp only[lQ]
   rw[e1,i]
   conv=>rhs;rw[g,f]
   rw[k];simp only[lQ,x9]
theorem KC{b c d:Int}(t:0<b)(hd:0<d)(G:m3 a b=1)(H:m3 c d=1):
  let e:=gc a d
  let f:=gc c b
  0<e/\0<f/\o5 (a*c) (b*d)=(a.fdiv e*c.fdiv f,b.fdiv f*d.fdiv e):=by
 have l:∀{x y:Int},0<y->∃x' y',0<gc x y/\x=gc x y*x'/\y=gc x y*y'/\0<y'/\m3 x' y'=1/\x.fdiv (gc x y)=x'/\y.fdiv (gc x y)=y':=by
  intro x y O;have E:0<m3 x y:=qq x x6;have w:0<gc x y:=by lia
  obtain⟨x',k⟩:gc x y∣x:=gW ..;obtain⟨y',j⟩:gc x y∣y:=gX ..
  have q1 : x / gc x y = x' := by conv => lhs; lhs; rw [k]
                                  rw[gJ _ x6]
  have q2 : y / gc x y = y' := by conv => lhs; lhs; rw [j]
                                  rw[gJ _ x6]
  refine⟨x',y',w,k,j,?_,?_,?_,?_⟩
  . rcases bW 0 y' with h|h
    exact h;have:=qr (N8 w) h;lia
  . have:=sM E
    rwa [q1,q2]at this
  rw[W3 _ Y8,q1];rw[W3 _ Y8,q2]
 obtain⟨N,L,z,m,n,I,D,A,r⟩:=l hd;obtain⟨M,P,q,p,o,pb,K,v,u⟩:=l t;intro e f;have B:gc a d=e:=rfl;have F:gc c b=f:=rfl;rw[B]at z m n A r;rw[F]at q p o v u;refine⟨z,q,?_⟩
 clear_value e f
 rw[A,r,v,u];apply BX (A5 t hd) (A5 pb I);have C:=K4 (ar (K4 (ar G ⟨f,by rw[o,x9]⟩)) ⟨e,by rw[m,x9]⟩);exact K4 (iA (K4 (iA C D)) (K4 (iA K (K4 (ar (K4 (ar H ⟨e,by rw[n,x9]⟩)) ⟨f,by rw[p,x9]⟩)))))
 . conv=>lhs;rw[m,p]
   conv=>rhs;rw[o,n]
   simp only[lQ,x9]
theorem yR(t b:Int):gc (if t<0 then -t else t) b=gc t b:=by
 show((m3 _ _):Int)=(m3 t b)
 split<;>simp
theorem a0z{m:Nat}{t b:Int}(c:0<b)(h:Bt m b):Bt m (gc b t):=h.of_le (by have:=Int.gcd_le_natAbs_left (a:=b) t x6;simp[*])
theorem kP{m n:Nat}(a:k8 m p)(hq:k8 n q)(h:m+n<=7998):P2 [fr p,fr q]=sd (fr (C3 p q)):=by
 have g:Bt 60000 p.1:=a.bt.mono (i0 (i0 (U5 _ _) c6) a6);have i:Bt 60000 p.2:=a.bb.mono (i0 (i0 (U5 _ _) c6) a6);have d:Bt 60000 q.1:=hq.bt.mono (i0 (i0 (cD _ _) c6) a6);have e:Bt 60000 q.2:=hq.bb.mono (i0 (i0 (cD _ _) c6) a6);obtain⟨k,j,f⟩:=KC a.pos hq.pos a.low hq.low;have b:Bt 8000 (gc p.1 q.2):=(wA (by have:=hq.pos;exact x6) hq.bb).mono (i0 (i0 (cD _ _) c6) a6);have c:Bt 8000 (gc q.1 p.2):=(wA (by have:=a.pos;exact x6) a.bb).mono (i0 (i0 (U5 _ _) c6) a6);have:=a.pos;have:=hq.pos;delta P2;walk_at "r";rw[jl (by split<;>lia) Y8,yR];walk_at "r";rw[jl (by split<;>lia) Y8,yR];walk_at "r";simp only[C4 (show gc p.1 q.2≠0 by exact x6) b,C4 (show gc q.1 p.2≠0 by exact x6) c];walk_at "r";rw[l9 g.fdiv d.fdiv];walk_at "r";simp only[C4 (show gc p.1 q.2≠0 by exact x6) b,C4 (show gc q.1 p.2≠0 by exact x6) c];walk_at "r";rw[l9 i.fdiv e.fdiv];delta C3;rw[f];rfl
abbrev ez(ns:List Int):a7:=.list (ns.map .int)
theorem GI(ns:List Int):(ns.map P0).length=ns.length:=(o9 ..)
theorem Lb{i:Int}(a:0<=i)(h:i<ns.length):R7 (ns.map P0) i=U (.int (ns.getD i.toNat 0)):=by
 rw[ck (n:=i.toNat) ((Int.toNat_of_nonneg c6).symm) (by simp;simp[*]),C5,y4 j1];simp[y4 (show i.toNat<ns.length by simp[*])]
def vj:DO:=(c8 (d8 4 (b8 bH (b8 C8 (b8 n8 (b8 bH (b7 3) (fC (.int 1000003))) (fC (.int 1))) (b8 n8 (b8 n8 (b8 C8 (b7 1) (b7 1)) (b7 1)) (fC (.int 41)))) (fC (.int 999983)))) (p4 (b8 bH (b8 O7 (b8 bH (b8 C8 (b8 bH (b8 C8 (b7 4) (b8 n8 (b7 4) (fC (.int 7919)))) (fC (.int 2147483647))) (fC (.int 69621))) (fC (.int 2147483629))) (fC (.int 11))) (b7 2))))
theorem NC{d:a7}{k m c:Int}(g:0<=k)(f:k<=1000000)(e:0<m):∃r:Int,vj [sd d,iD k,iD m,iD c,J]=U (.ret (.dat (.int r)))/\0<=r/\r<m:=by
 have b:∀z:Int,0<=z.fmod m/\z.fmod m<m:=λz=>⟨pw z e,xP z e⟩;have a:Bt 62 k:=Bt.small b6 (xO c6 a6);have bk:Bt 200 (k*k+k+41):=((((a.mul a).add (a.mono a6)).add (Bt.mono (Bt.small a6 a6) a6))).mono a6;delta vj;walk_at "r";rw[Y3 a6];walk_at "r";rw[l9 (a.mono a6) (a.mono a6)];walk_at "r";rw[l9 (Bt.mC b6 b6) (bk.mono a6)];walk_at "r";rw[Y3 a6];walk_at "r";rw[l9 (Bt.mC b6 b6) (Bt.mC b6 b6)];walk_at "r";rw[Y3 a6];walk_at "r";rw[l9 (Bt.mC b6 b6) Bt.lit];walk_at "r";rw[Y3 a6];walk_at "r";rw[C4 a6 Bt.lit];walk_at "r";rw[Y3 x6];exact⟨_,rfl,b _⟩
theorem R4{k m:Int}(l:ns.length<=63)(d:0<=k)(e:k<=1000000)(f:0<m):∃r:Int,B8 [ez ns,.int k,.int m]=sd (.int r)/\0<=r/\r<m:=by
 have g:∀z:Int,0<=z.fmod m/\z.fmod m<m:=λz=>⟨pw z f,xP z f⟩
 have a:∀c,∃r:Int,(vj [sd (ez ns),iD k,iD m,iD c,J]).bind IW=sd (.int r)/\0<=r/\r<m:=λc=>by obtain⟨r,h,j⟩:=NC d e f;rw[h];exact⟨r,rfl,j⟩
 delta B8;walk_at "r";rw[GI];by_cases b:(0:Int)<ns.length
 . rw[b3 b,Y3 x6];walk_at "r";rw[Lb (pw k b) (xP k b)];walk_at "r";rw[Lb (oI 0) b];walk_at "r";rw[Y3 a6];walk_at "r";by_cases i:Int.fmod (ns.getD 0 0) 2=1
   . rw[b3 i,GI];have:0<=k.fdiv ns.length:=Int.fdiv_nonneg d j1;have:k.fdiv ns.length<=k:=by
      have:=OU k ns.length;lia
     rw[C4 a6 Bt.lit,C4 x6 (Bt.mC (En _) b6)];walk_at "r";rw[l9 Bt.lit (Bt.mC ag ag)];walk_at "r";rw[QC ag,RH ⟨by decide,by decide,by decide⟩];walk_at "r";rw[Y3 a6];walk_at "r";rw[Y3 x6];walk_at "r";exact⟨_,rfl,g _⟩
   rw[b0 i];simp only[j0];exact a _
 rw[b0 b];simp only[j0];exact a 0
theorem Ii(x y:Int)(a b z:Option PV):kz [a,b,iD x,iD y,z]=U (decide (0<y)):=by rfl
theorem XN(x:Int)(a b z:Option PV)(h:y≠0):kC [a,b,iD x,iD y,z]=U (.next [a,b,iD y,iD (x.fmod y),iD (x.fmod y)]):=by delta kC;walk_at "r";rw[Y3 h];walk_at "r"
theorem norm_eq{t b:Int}(r:0<b)(l:Bt 8000 b):fD [.int t,.int b]=sd (fr (o5 t b)):=by
 delta fD;walk_at "r";obtain⟨n,p,⟨a,c,j,rfl,k,m,g⟩,o⟩:=zk (Fc:=kz) (λi=>∃a c j,i=[iD t,iD b,iD a,iD c,j]/\gc a c=gc t b/\0<=a/\0<=c) (λi=>wa 3 i-1) (by
  rintro i ⟨a,c,j,rfl,k,m,g⟩;rw[Ii];by_cases h:c=0;left;simp[h]
  . right;refine⟨by simp;lia,_,XN a _ _ j h,⟨c,a.fmod c,_,rfl,?_,g,pw a b6⟩,?_⟩;rw[<-k];show((m3 c (a.fmod c)):Int)=(m3 a c);rw[Cn]
    . have:=nZ a h;assumption) (b.natAbs+1) [iD t,iD b,iD (if t<0 then -t else t),iD b,J] ⟨_,b,J,rfl,by
       show((m3 (if t<0 then -t else t) b):Int)=(m3 t b)
       split<;>simp,by split<;>lia,Y8⟩ (by walk_at "r";simp[*])
 rw[Ii]at o;have q:c=0:=by lia
 subst q;have e:gc a 0=a:=by show((m3 a 0))=a;rw[OG];exact lX c6
 rw[e]at k;subst k;rw[p];walk_at "r";have d:=UZ (t:=t) (show b≠0 by exact x6);have f:=wA (t:=t) (show b≠0 by exact x6) l;rw[C4 d f,C4 d f];delta o5;rw[b0 (Int.not_lt.2 Y8)];rfl
theorem Iv{m n:Nat}(a:k8 m p)(hq:k8 n q)(h:m+n<=7998):R5 [fr p,fr q]=sd (fr (Z5 p q)):=by have d:Bt 60000 p.1:=a.bt.mono (i0 (i0 (U5 _ _) c6) a6);have e:Bt 60000 p.2:=a.bb.mono (i0 (i0 (U5 _ _) c6) a6);have b:Bt 60000 q.1:=hq.bt.mono (i0 (i0 (cD _ _) c6) a6);have c:Bt 60000 q.2:=hq.bb.mono (i0 (i0 (cD _ _) c6) a6);delta R5;walk_at "r";simp only[l9,d,e,b,c];walk_at "r";rw[norm_eq (A5 a.pos hq.pos) ((a.bb.mul hq.bb).mono dS)];rfl
theorem tD{m n:Nat}(a:k8 m p)(hq:k8 n q)(h:m+n<=7998):P5 [fr p,fr q]=sd (fr (C3 p q)):=by have d:Bt 60000 p.1:=a.bt.mono (i0 (i0 (U5 _ _) c6) a6);have e:Bt 60000 p.2:=a.bb.mono (i0 (i0 (U5 _ _) c6) a6);have b:Bt 60000 q.1:=hq.bt.mono (i0 (i0 (cD _ _) c6) a6);have c:Bt 60000 q.2:=hq.bb.mono (i0 (i0 (cD _ _) c6) a6);delta P5;walk_at "r";simp only[l9,d,e,b,c];walk_at "r";rw[norm_eq (A5 a.pos hq.pos) ((a.bb.mul hq.bb).mono dS)];rfl
structure Tr where
 a:Q2
 b:Q2
 c:Q2
noncomputable def u4(x:Tr):a7:=.tuple [fr x.a,fr x.b,fr x.c]
structure cu(m:Nat)(x:Tr):Prop where
 a:k8 m x.a
 b:k8 m x.b
 c:k8 m x.c
theorem rG(x:Tr):l7 (u4 x) (.int 0)=sd (fr x.a):=rfl
theorem rF(x:Tr):l7 (u4 x) (.int 1)=sd (fr x.b):=rfl
theorem rE(x:Tr):l7 (u4 x) (.int 2)=sd (fr x.c):=rfl
theorem a2V:U8 0 3=[.int 0,.int 1,.int 2]:=rfl
noncomputable def pS(x y:Tr)(q:Q2):Tr:=⟨Z5 x.a (C3 y.a q),Z5 x.b (C3 y.b q),Z5 x.c (C3 y.c q)⟩
theorem a1O{m n:Nat}{x y:Tr}(e:cu m x)(d:cu n y)(hq:k8 k q)(h:m+(n+k)<=7998):mi [u4 x,u4 y,fr q]=sd (u4 (pS x y q)):=by delta mi;walk_at "r";rw[O3 a6];walk_at "r";rw[a2V];simp only[D4,qy];walk_at "r";rw[rG,rG,rF,rF,rE,rE];walk_at "r";rw[tD d.a hq (i0 (cD _ _) c6),tD d.b hq (i0 (cD _ _) c6),tD d.c hq (i0 (cD _ _) c6)];walk_at "r";rw[Iv e.a (ak d.a hq) ag,Iv e.b (ak d.b hq) ag,Iv e.c (ak d.c hq) ag];rfl
def a2Z(q:Q2):Q2:=(0-q.1,q.2)
theorem zt(q:Q2):S3 (fr q)=Uf:=by rfl
theorem Hu(p q:Q2):pR (fr p) (fr q)=sd (.bool (decide (p≠q))):=by
 show(if S3 (fr p)=Uf/\S3 (fr q)=Uf then U (PV.dat (.bool (!PyData.eqv (fr p) (fr q))))else J)=_
 rw[b3 ⟨zt p,zt q⟩];have e:N6 (fr p) (fr q)=decide (p=q):=by rw[oV];simp[N6,sv,Prod.ext_iff]
 rw[e];simp
noncomputable def a0M(x y:Tr):Bool:=if x.a≠y.a then kM x.a y.a else if x.b≠y.b then kM x.b y.b else if x.c≠y.c then kM x.c y.c else U'
structure Sh(k:Nat)(d:a7):Prop where
 c:d.canLay0=Uf
 d:d.depth<=k
theorem Sh.shaped{k:Nat}{d:a7}(h:Sh k d)(a:k<=64):S3 d=Uf:=by have:=h.d;simp only[S3,pa];exact⟨h.c,by lia⟩
theorem YC(i:Int):Sh 0 (.int i):=⟨by rfl,by simp[sj]⟩
theorem KY{k:Nat}:∀{l:List a7},(∀x∈l,Sh k x)->bN l=Uf/\oS l<=k
 | [],_=>⟨by rfl,by simp[oS]⟩
 |x::r,h=>by
  obtain⟨a,b⟩:=KY (l:=r) λy f=>h y (by simp[f]);have e:=h x o8;refine⟨by simp[bN,e.c,a],?_⟩;have:=e.d;simp only[oS];exact Nat.max_le.2 ⟨c6,c6⟩
theorem KW{l:List a7}(h:∀x∈l,Sh k x):Sh (k+1) (.tuple l):=by obtain⟨a,b⟩:=KY h;exact⟨by assumption,by simp only[sj];simp[*]⟩
theorem a1r(q:Q2):Sh 1 (fr q):=KW λx a=>by simp at a;rcases a with rfl|rfl<;>exact YC _
mutual
theorem CF:∀d:a7,d.canLay0=Uf->N6 d d=Uf
 | .none,_=>rfl
 | .bool b,_=>by simp[N6]
 | .int i,_=>by simp[N6]
 | .str x,_=>by simp[N6]
 | .list a,h=>by rw[N6];exact rN a (by assumption)
 | .tuple a,h=>by rw[N6];exact rN a (by assumption)
 | .dict _,h=>by assumption
theorem rN:∀l:List a7,bN l=Uf->sv l l=Uf
 | [],_=>rfl
 |x::r,h=>by
  have a:x.canLay0=Uf/\bN r=Uf:=by simpa [bN]using h
  rw[sv,CF x a.1,rN r a.2];rfl
end
theorem a0H{l:Nat}{d e:a7}(hd:Sh k d)(b:Sh l e)(a:autoParam (k<=64) a6._auto_1)(c:autoParam (l<=64) a6._auto_1):F3 d e=sd (.bool (N6 d e)):=by
 delta F3;split;rfl;rw[b3 ⟨hd.shaped a,b.shaped c⟩]
theorem Tw{d:a7}(hd:Sh k d)(a:autoParam (k<=64) a6._auto_1):F3 d d=sd (.bool Uf):=by rw[a0H hd hd a a,CF d hd.c]
structure FD(D M:Int)(q:Q2):Prop where
 pos:0<q.2
 low:m3 q.1 q.2=1
 dvd:q.2∣D
 uf:(q.1.natAbs:Int)<=M*q.2
theorem FD.mono{M b:Int}(h:FD D M q)(hd:D∣b)(c:M<=a):FD b a q :=
 ⟨h.pos,h.low,jw h.dvd hd,Q0 h.uf (ky c (N8 h.pos))⟩
theorem FD.a3e{M:Int}(h:FD D M q)(hD:0<D)(b:Bt k D)(a:Bt k (M*D)):k8 k q:=by
 have l:=dJ hD h.dvd;have p:=h.pos;have:=h.uf;have hM:0<=M:=by
  rcases bW M 0 with c|c
  have:=xX c p;lia;exact c
 have:=cF l hM;exact⟨p,h.low,a.of_le b6,b.of_le b6⟩
theorem Q9{t b:Int}(d:0<b):0<(o5 t b).2/\m3 (o5 t b).1 (o5 t b).2=1/\(o5 t b).1*b=t*(o5 t b).2/\(o5 t b).2∣b:=by
 have f:0<m3 t b:=qq t x6;have e:o5 t b=(t/gc t b,b/gc t b):=by delta o5;rw[b0 (Int.not_lt.2 Y8),W3 _ j1,W3 _ j1]
 have h:gc t b∣t:=gW ..;have a:gc t b∣b:=gX ..;have c:=xR a;rw[e];refine⟨EG d j1 a,sM f,?_,⟨gc t b,c.symm⟩⟩;generalize gc t b=g at *;have:t/g*b=t/g*(b/g*g):=by rw[c]
 rw[this,x9 (b/g) g,<-F0,(xR h)]
theorem Xg{t b c:Int}(a:0<b)(h:t*D=c*b):(o5 t b).2∣D:=by
 obtain⟨p,l,e,_⟩:=Q9 a;generalize (o5 t b).1=x at *;generalize (o5 t b).2=y at *;have k:x*D=c*y:=by
  apply sP (show b≠0 by exact x6);grind
 have z:y∣x*D:=⟨c,by rw[k,x9]⟩
 have f:y.natAbs∣x.natAbs*D.natAbs:=by rw[<-aS];exact Int.natAbs_dvd_natAbs.mpr z
 have d:xk y.natAbs x.natAbs:=by rw[xF];exact l
 exact Int.natAbs_dvd_natAbs.mp (d.dvd_of_dvd_mul_left f)
theorem Hz{t b M:Int}(d:0<b)(h:(t.natAbs:Int)<=M*b):(((o5 t b).1).natAbs:Int)<=M*(o5 t b).2:=by
 obtain⟨p,l,e,_⟩:=Q9 d;generalize (o5 t b).1=x at *;generalize (o5 t b).2=y at *;have f:x.natAbs*b=t.natAbs*y:=by
  have:=m2 Int.natAbs e;rw[aS,aS]at this;have a:b.natAbs=b:=by lia
  have c:y.natAbs=y:=by lia
  rw[<-a,<-c]
  exact_mod_cast this
 apply Int.le_of_mul_le_mul_right _ d;rw[f];have:=ky h (N8 p)
 calc t.natAbs*y<=M*b*y:=this
  _=M*y*b:=by simp only[lQ,x9]
theorem FD.plus{M:Int}(b:FD D M p)(hq:FD D N q):FD D (M+N) (Z5 p q):=by
 have d:=A5 b.pos hq.pos;obtain⟨a,l,_,_⟩:=Q9 d;obtain⟨u,f⟩:=b.dvd;obtain⟨v,e⟩:=hq.dvd;refine⟨a,l,Xg (c:=p.1*u+q.1*v) d ?_,Hz d ?_⟩
 . have h:p.1*q.2*D=p.1*u*(p.2*q.2):=by rw[f];simp only[lQ,x9]
   have g:q.1*p.2*D=q.1*v*(p.2*q.2):=by rw[e];simp only[lQ,x9]
   rw[Dm,Dm,h,g]
 . have:=ky b.uf (N8 hq.pos);have:=ky hq.uf (N8 b.pos);have:((p.1*q.2).natAbs)=p.1.natAbs*q.2:=by
    rw[aS];have:q.2.natAbs=q.2:=by have:=hq.pos;exact lX Y8
    push_cast;rw[this]
   have:((q.1*p.2).natAbs)=q.1.natAbs*p.2:=by
    rw[aS];have:p.2.natAbs=p.2:=by have:=b.pos;exact lX Y8
    push_cast;rw[this]
   lia
theorem FD.times{M:Int}(b:FD D M p)(hq:FD E N q):FD (D*E) (M*N) (C3 p q):=by
 have c:=A5 b.pos hq.pos;obtain⟨a,l,_,d⟩:=Q9 c;refine⟨a,l,jw d (Int.mul_dvd_mul b.dvd hq.dvd),Hz c ?_⟩;have:((p.1*q.1).natAbs:Int)=p.1.natAbs*q.1.natAbs:=by rw[aS];rfl
 rw[this];have e:0<=M*p.2:=by have:=b.uf;lia
 calc p.1.natAbs*q.1.natAbs<=(M*p.2)*(N*q.2):=xv b.uf hq.uf j1 e
  _=M*N*(p.2*q.2):=by simp only[lQ,x9]
structure TD(D M:Int)(x:Tr):Prop where
 a:FD D M x.a
 b:FD D M x.b
 c:FD D M x.c
theorem nQ(lo:Int)(n:Nat):(U8 lo n).length=n:=by simp[U8]
def Ij(l m:List a7):List a7:=oN (λx y=>.tuple [x,y]) l m
theorem PR(l m:List a7):aT [.list l,.list m]=U (Ij l m):=rfl
abbrev q0:Q2:=(0,1)
theorem ot{m:Nat}(a:1<=m):k8 m q0:=kW (Bt.mono ⟨by decide⟩ a) a
abbrev mQ(l:List Q2):a7:=.list (l.map fr)
noncomputable def O2:Option Q2->a7
 |none=>.none
 |some q=>fr q
abbrev a3I(l:List (Option Q2)):a7:=.list (l.map O2)
abbrev R8(l:List (List Q2)):a7:=.list (l.map mQ)
def a1c(k:Nat)(l:List Q2):Prop:=∀q∈l,k8 k q
end
section
variable{g:Nat->a7}
noncomputable abbrev rl(n:Nat)(f:Nat->a7):List a7:=(p9 n).map f
abbrev il(n:Nat)(f:Nat->Int):a7:=.list (rl n λi=>.int (f i))
theorem u6(n:Nat)(f:Nat->a7):(rl n f).length=n:=by simp[rl]
theorem B9{n i:Nat}(f:Nat->a7)(h:i<n):R7 (rl n f) (i:Int)=U (f i):=by
 rw[ck rfl (by rw[u6];exact h),C5,lW h];rfl
theorem Lg{n i:Nat}(f:Nat->a7)(h:i<n):R7 (rl n f) (0+(i:Int))=U (f i):=by rw[N7];exact B9 f h
theorem Y1{n:Nat}{f:Nat->a7}(h:∀i,i<n->f i=g i):rl n f=rl n g:=xQ λi a=>h i (mem_range.mp a)
theorem gr{n i:Nat}(f:Nat->a7)(x:a7):(rl n f).set i x=rl n λk=>if k=i then x else f k:=by
 apply oX i9;intro k b a;simp only[DY,oW,Eh];by_cases c:i=k;rw[b3 c,b3 c.symm];rw[b0 c,b0 λz=>c z.symm]
theorem vQ{n i:Nat}{f:Nat->a7}{d:a7}(h:(rl n f)[i]? = U d):i<n/\d=f i:=by
 have a:i<n:=by
  by_cases c:i<n;exact c;rw[ku (by rw[u6];exact lO c6)]at h;exact nE h
 rw[C5,lW a]at h;cases h;exact⟨a,rfl⟩
theorem VV(n:Nat)(f:Nat->a7):rl n f++[f n]=rl (n+1) f:=by simp[rl,gG]
theorem YN(n:Nat)(x:a7):(o1 n [x]).flatten=rl n λ_=>x:=by
 induction n with
 |zero=>rfl
 |succ n a=>rw[List.replicate_succ',List.flatten_append,a,<-VV];simp
theorem XQ{n:Nat}(f g:Nat->a7):Ij (rl n f) (rl n g)=rl n λi=>.tuple [f i,g i]:=by
 apply oX (by simp[Ij]);intro k b a;simp[Ij]
theorem iY(f g:Nat->a7)(n:Nat):aT [.list (rl n f),.list (rl n g)]=U (rl n λi=>.tuple [f i,g i]):=by rw[PR,XQ]
theorem oy:∀(n:Nat) (f:Nat->a7) (o:Int),O8 o (rl n f)=rl n λi=>.tuple [.int (o+(i:Int)),f i]
 | 0,f,o=>rfl
 |n+1,f,o=>by
  have e:∀g:Nat->a7,rl (n+1) g=g 0::rl n λi=>g (i+1):=λg=>by rw[rl,List.range_succ_eq_map,m6,cA];rfl
  rw[e,e,O8,oy n]
  congr 1
  simp
  . exact Y1 λi _=>by rw[show o+1+i=o+((i+1:Nat))from by lia]
theorem vP(n:Nat):U8 0 n=rl n λi=>.int (i:Int):=by exact xQ λi _=>by rw[N7]
theorem C9{Fe:DV}{ds:Ds}{n:Nat}{f:Nat->a7}{gt:a7->Option (List a7)}(h:∀i,i<n->∃bs pv,gt (f i)=U bs/\Fe (L7 bs++ds)=U pv/\pv.d=g i):D4 gt j6 Fe ds (rl n f)=U (rl n g):=by
 have a:∀k,k<=n->D4 gt j6 Fe ds ((rl n f).drop (n-k))=U ((rl n g).drop (n-k)):=by
  intro k;induction k with
  |zero=>intro _;rw[Nat.sub_zero,Ex (by simp[rl]),Ex (by simp[rl])];rfl
  |succ k m =>
   intro o;have b:n-(k+1)<n:=by lia
   have c:∀f:Nat->a7,(rl n f).drop (n-(k+1))=f (n-(k+1))::(rl n f).drop (n-k):=λf=>by
    rw[pz (by simpa [rl]using b),show n-(k+1)+1=n-k from by lia];simp[rl]
   rw[c,c];obtain⟨bs,pv,j,e,l⟩:=h _ b;unfold D4;simp only[j,g8,j6,L9];rw[e];rw[m aL];simp only[g8,l]
 have:=a n o6;rw[Nat.sub_self]at this;exact this
theorem Xp(n:Nat)(f:Nat->Int):intsOf (rl n λi=>.int (f i))=U ((p9 n).map f):=ints_map f _
theorem KJ(n:Nat)(f:Nat->Int):((p9 n).map f).sum=Sx.sm n f:=by
 induction n with
 |zero=>rfl
 |succ n a=>rw[gG,V9,List.sum_append,a,Sx.sm];simp
noncomputable abbrev ej(c:List (Nat×Int)):a7:=.list (c.map λe=>.tuple [.int (e.1:Int),.int e.2])
def D0:List (Nat×Int)->Nat->Int
 | [],_=>0
 |e::c,r=>(if e.1=r then e.2 else 0)+D0 c r
theorem CL{m:Nat}(f:Nat->Int):∀c:List (Nat×Int),(∀e∈c,e.1<m)->(c.map λe=>f e.1*e.2).sum=Sx.dot m f (D0 c)
 | [],_=>by
  delta Sx.dot;rw[Sx.fK λi _=>by rw[D0,J3]];rfl
 |e::c,h=>by
  rw[m6,List.sum_cons,(CL f c λx g=>h x (m5 _ g))]
  delta Sx.dot;have d:(Sx.sm m λr=>f r*D0 (e::c) r)=Sx.sm m λr=>(if r=e.1 then f e.1*e.2 else 0)+f r*D0 c r:=Sx.j3 λr _=>by
   rw[D0];by_cases z:e.1=r;rw[b3 z,b3 z.symm,z,bj];rw[b0 z,b0 λy=>z y.symm,N7,N7]
  have a:(Sx.sm m λr=>if r=e.1 then f e.1*e.2 else 0)=f e.1*e.2:=by rw[Sx.M8 (h e m8) λi _ b=>by rw[b0 b],b3 rfl]
  rw[d,Sx.gp,a]
theorem Y6{n:Nat}(h:n<=1000){f:Nat->a7}:(rl n f).length<=1000000:=by rw[u6];exact dS
theorem IL{m:Nat}{f g:Nat->Int}(c:m<=1000)(b:∀i,i<m->Bt 60000 (f i))(d:∀i,i<m->Bt 60000 (g i)):jF [il m f,il m g]=sd (.int (Sx.dot m f g)):=by
 delta jF;walk_at "r";rw[iY];walk_at "r";rw[b3 (Y6 c),C9 λi a=>⟨_,_,rfl,by delta nH;walk_at "r";rw[l9 (b i a) (d i a)],rfl⟩];walk_at "r";rw[Xp];walk_at "r";rw[KJ];rfl
theorem wO{m:Nat}{f:Nat->Int}{c:List (Nat×Int)}(p:c.length<=1000)(a:∀e∈c,e.1<m/\Bt 60000 e.2)(k:∀i,i<m->Bt 60000 (f i)):R6 [il m f,ej c]=sd (.int (Sx.dot m f (D0 c))):=by
 delta R6;walk_at "r";have e:D4 (G5 2) j6 N2 [sd (il m f),sd (ej c)] (c.map λe=>.tuple [.int e.1,.int e.2])=U (c.map λe=>.int (f e.1*e.2)):=by
  have:∀l:List (Nat×Int),(∀e∈l,e.1<m/\Bt 60000 e.2)->D4 (G5 2) j6 N2 [sd (il m f),sd (ej c)] (l.map λe=>.tuple [.int e.1,.int e.2])=U (l.map λe=>.int (f e.1*e.2)):=by
   intro l;induction l with
   |nil=>intro _;rfl
   |cons x l o =>
    intro h;obtain⟨b,g⟩:=h x m8;rw[m6,D4];simp only[G5,W2,gU,L9,g8,mR,qf,W0,Z8];have d:N2 [sd (.int x.1),sd (.int x.2),sd (il m f),sd (ej c)]=sd (.int (f x.1*x.2)):=by delta N2;walk_at "r";rw[B9 _ b];walk_at "r";rw[l9 (k _ b) g]
    rw[d];rw[o λy n=>h y (m5 _ n)];rfl
  exact this c a
 rw[b3 (by rw[o9];exact dS),e];walk_at "r";rw[ints_map,g8,CL f c λe j=>(a e j).1];rfl
theorem zo{m:Nat}{f g:Nat->Int}{fa pv sz:Int}(j:m<=1000)(o:∀i,i<m->Bt 20000 (f i))(n:∀i,i<m->Bt 20000 (g i))(l:Bt 20000 fa)(q:Bt 20000 pv)(p:Bt 8000 sz)(s:0<sz):
  ∃r,fA [il m f,il m g,.int fa,.int pv,.int sz]=U r/\r.d=il m λi=>(f i*pv-fa*g i).fdiv sz:=by
 have k:(fa=0/\pv=sz)\/¬(fa=0/\pv=sz):=Classical.em _;rcases k with ⟨a,h⟩|c
 subst a h;refine⟨.dat (il m f),?_,?_⟩;delta fA;walk_at "r";show lF (rl m λi=>.int (f i))=.list (rl m λi=>.int ((f i*pv-0*g i).fdiv pv));rw[Y1 λi _=>?_];rw[aw,sk,Int.mul_fdiv_cancel _ x6]
 . refine⟨.own (rl m λi=>.int ((f i*pv-fa*g i).fdiv sz)),?_,rfl⟩
   delta fA;walk_at "r";have e:(if fa=0 then(U (decide (pv=sz)))else U U')=U U':=by
    by_cases a:fa=0;rw[b3 a,U4 λz=>c ⟨a,z⟩];rw[b0 a]
   rw[e];walk_at "r";rw[iY];walk_at "r";rw[b3 (Y6 j),C9 λi b=>⟨_,_,rfl,by delta qu;walk_at "r";rw[l9 ((o i b).mono a6) (q.mono a6),l9 (l.mono a6) ((n i b).mono a6)];walk_at "r";rw[C4 x6 p],rfl⟩];rfl
end
end Law
set_option hygiene false
local macro_rules | `(tactic| walk_at "f") => `(tactic| repeat (first|rw[b3 trivial]|rw[b0 i6]))
set_option hygiene true
namespace Law
open PySem L2
structure G7 where
 m:Nat
 n:Nat
 sc:Nat->Int
 col:Nat->List (Nat×Int)
 mu:Nat->Int
 wt:Nat->Nat->Int
 un:Int
 lim:Nat->Option Int
def ei:Option Int->a7
 |none=>.none
 |some v=>.int v
def G7.pb(Q:G7)(b:Nat->Int):Sx.Pb:=⟨Q.m,Q.n,λj=>D0 (Q.col j),b,Q.lim,Q.wt⟩
noncomputable def v9(Q:G7)(T:Sx.Tb):List (Str×PF):=[("scales",.dat (il Q.n Q.sc)),("columns",.dat (.list (rl Q.n λj=>ej (Q.col j)))),("multiples",.own (rl 3 λt=>.int (Q.mu t))),("weights",.own (rl 3 λt=>il Q.n (Q.wt t))),("unit",.dat (.int Q.un)),("rights",.own (rl Q.m λp=>.int (T.rt p))),("limits",.dat (.list (rl Q.n λj=>ei (Q.lim j)))),("chosen",.own (rl Q.m λk=>.int (T.B k:Int))),("full",.own (rl Q.n λj=>.bool (T.full j))),("size",.dat (.int T.size)),("inverse",.dat (.list (rl Q.m λk=>il Q.m (T.inv k)))),("prices",.own (rl 3 λt=>il Q.m (T.pr t)))]
abbrev l5(Q:G7)(T:Sx.Tb):OD:=.ins "Table" (v9 Q T)
def p7(Q:G7)(T:Sx.Tb):a7:=(l5 Q T).d
abbrev Mm:List Str:=["scales","columns","multiples","weights","unit","rights","limits","chosen","full","size","inverse","prices"]
noncomputable abbrev lT(Q:G7)(T:Sx.Tb):List a7:=[(il Q.n Q.sc),(.list (rl Q.n λj=>ej (Q.col j))),.list (rl 3 λt=>.int (Q.mu t)),.list (rl 3 λt=>il Q.n (Q.wt t)),(.int Q.un),.list (rl Q.m λp=>.int (T.rt p)),(.list (rl Q.n λj=>ei (Q.lim j))),.list (rl Q.m λk=>.int (T.B k:Int)),.list (rl Q.n λj=>.bool (T.full j)),(.int T.size),(.list (rl Q.m λk=>il Q.m (T.inv k))),.list (rl 3 λt=>il Q.m (T.pr t))]
theorem Yp(Q:G7)(T:Sx.Tb):p7 Q T=yM "Table" Mm (lT Q T):=rfl
theorem X2(Q:G7)(T:Sx.Tb):tI "Table" (p7 Q T)=U (Mm.map .str,lT Q T):=by rw[Yp];exact Nl _ _ _
theorem NW(w:Option Addr)(Q:G7)(T:Sx.Tb):PV.d (.ob w (.ins "Table" (v9 Q T)))=p7 Q T:=rfl
theorem zX(b:Bool):Vh (PV.d (.dat (.bool b)))=U b:=rfl
section
variable(Q:G7)(T:Sx.Tb)
theorem wF:O6 "Table" "scales" (p7 Q T)=U ((il Q.n Q.sc)):=by delta O6;rw[X2,g8];simp only[m6,K7];walk_at "f"
theorem zF:m9 "scales" (v9 Q T)=U (.dat (il Q.n Q.sc)):=by simp only[v9,m9];walk_at "f"
theorem um:O6 "Table" "columns" (p7 Q T)=U ((.list (rl Q.n λj=>ej (Q.col j)))):=by delta O6;rw[X2,g8];simp only[m6,K7];walk_at "f"
theorem we:m9 "columns" (v9 Q T)=U (.dat (.list (rl Q.n λj=>ej (Q.col j)))):=by simp only[v9,m9];walk_at "f"
theorem qE:O6 "Table" "multiples" (p7 Q T)=U (.list (rl 3 λt=>.int (Q.mu t))):=by delta O6;rw[X2,g8];simp only[m6,K7];walk_at "f"
theorem rq:m9 "multiples" (v9 Q T)=U (.own (rl 3 λt=>.int (Q.mu t))):=by simp only[v9,m9];walk_at "f"
theorem uj:O6 "Table" "weights" (p7 Q T)=U (.list (rl 3 λt=>il Q.n (Q.wt t))):=by delta O6;rw[X2,g8];simp only[m6,K7];walk_at "f"
theorem wc:m9 "weights" (v9 Q T)=U (.own (rl 3 λt=>il Q.n (Q.wt t))):=by simp only[v9,m9];walk_at "f"
theorem Cu:O6 "Table" "unit" (p7 Q T)=U ((.int Q.un)):=by delta O6;rw[X2,g8];simp only[m6,K7];walk_at "f"
theorem HA:m9 "unit" (v9 Q T)=U (.dat (.int Q.un)):=by simp only[v9,m9];walk_at "f"
theorem wG:O6 "Table" "rights" (p7 Q T)=U (.list (rl Q.m λp=>.int (T.rt p))):=by delta O6;rw[X2,g8];simp only[m6,K7];walk_at "f"
theorem ro:m9 "rights" (v9 Q T)=U (.own (rl Q.m λp=>.int (T.rt p))):=by simp only[v9,m9];walk_at "f"
theorem wI:O6 "Table" "limits" (p7 Q T)=U ((.list (rl Q.n λj=>ei (Q.lim j)))):=by delta O6;rw[X2,g8];simp only[m6,K7];walk_at "f"
theorem zG:m9 "limits" (v9 Q T)=U (.dat (.list (rl Q.n λj=>ei (Q.lim j)))):=by simp only[v9,m9];walk_at "f"
theorem wJ:O6 "Table" "chosen" (p7 Q T)=U (.list (rl Q.m λk=>.int (T.B k:Int))):=by delta O6;rw[X2,g8];simp only[m6,K7];walk_at "f"
theorem ry:m9 "chosen" (v9 Q T)=U (.own (rl Q.m λk=>.int (T.B k:Int))):=by simp only[v9,m9];walk_at "f"
theorem Cw:O6 "Table" "full" (p7 Q T)=U (.list (rl Q.n λj=>.bool (T.full j))):=by delta O6;rw[X2,g8];simp only[m6,K7];walk_at "f"
theorem yB:m9 "full" (v9 Q T)=U (.own (rl Q.n λj=>.bool (T.full j))):=by simp only[v9,m9];walk_at "f"
theorem Cv:O6 "Table" "size" (p7 Q T)=U ((.int T.size)):=by delta O6;rw[X2,g8];simp only[m6,K7];walk_at "f"
theorem HB:m9 "size" (v9 Q T)=U (.dat (.int T.size)):=by simp only[v9,m9];walk_at "f"
theorem uk:O6 "Table" "inverse" (p7 Q T)=U ((.list (rl Q.m λk=>il Q.m (T.inv k)))):=by delta O6;rw[X2,g8];simp only[m6,K7];walk_at "f"
theorem wd:m9 "inverse" (v9 Q T)=U (.dat (.list (rl Q.m λk=>il Q.m (T.inv k)))):=by simp only[v9,m9];walk_at "f"
theorem wH:O6 "Table" "prices" (p7 Q T)=U (.list (rl 3 λt=>il Q.m (T.pr t))):=by delta O6;rw[X2,g8];simp only[m6,K7];walk_at "f"
theorem rp:m9 "prices" (v9 Q T)=U (.own (rl 3 λt=>il Q.m (T.pr t))):=by simp only[v9,m9];walk_at "f"
theorem Hq:K7 "rest" (Mm.map .str) (lT Q T)=J:=by simp only[m6,oO,K7];walk_at "f"
theorem vY:K7 "amounts" (Mm.map .str) (lT Q T)=J:=by simp only[m6,oO,K7];walk_at "f"
theorem uV:m9 "flip" (v9 Q T)=J:=by simp only[v9,m9];walk_at "f"
theorem Sw:m9 "turn" (v9 Q T)=J:=by simp only[v9,m9];walk_at "f"
theorem Lo(r:Nat->Int):E5 "rights" (.own (rl Q.m λp=>.int (r p))) (v9 Q T)=v9 Q {T with rt:=r}:=by simp only[v9,E5];walk_at "f"
theorem Lq(r:Nat->Nat):E5 "chosen" (.own (rl Q.m λk=>.int (r k:Int))) (v9 Q T)=v9 Q {T with B:=r}:=by simp only[v9,E5];walk_at "f"
theorem Wl(r:Nat->Bool):E5 "full" (.own (rl Q.n λj=>.bool (r j))) (v9 Q T)=v9 Q {T with full:=r}:=by simp only[v9,E5];walk_at "f"
theorem Wj(r:Int):E5 "size" (.dat (.int r)) (v9 Q T)=v9 Q {T with size:=r}:=by simp only[v9,E5];walk_at "f"
theorem IH(r:Nat->Nat->Int):E5 "inverse" (.dat (.list (rl Q.m λk=>il Q.m (r k)))) (v9 Q T)=v9 Q {T with inv:=r}:=by simp only[v9,E5];walk_at "f"
theorem Lp(r:Nat->Nat->Int):E5 "prices" (.own (rl 3 λt=>il Q.m (r t))) (v9 Q T)=v9 Q {T with pr:=r}:=by simp only[v9,E5];walk_at "f"
end
theorem qc{Q:G7}{T:Sx.Tb}{m:Str}{f:FV}{b:DV}{a:DL}{ds:Ds}{pv:PV}{l:List a7}(h:b ds=U pv)(hd:pv.d=p7 Q T)(e:K7 m (Mm.map .str) (lT Q T)=J)(c:a ds=U l):J8 "Table" m f b a ds=f (p7 Q T::l):=by delta J8;rw[h,g8,hd,X2,g8];simp only[e,c,g8]
structure V6(Q:G7)(T:Sx.Tb):Prop where
 m1:Q.m<=1000
 n1:Q.n<=1000
 cl:∀j,j<Q.n->(Q.col j).length<=1000
 cb:∀j,j<Q.n->∀e∈Q.col j,e.1<Q.m/\Bt 7000 e.2
 wb:∀t j,t<3->j<Q.n->Bt 7000 (Q.wt t j)
 lb:∀j v,j<Q.n->Q.lim j=U v->Bt 7000 v
 bn:∀k,k<Q.m->T.B k<Q.n
 rb:∀p,p<Q.m->Bt 7000 (T.rt p)
 ib:∀k q,k<Q.m->q<Q.m->Bt 7000 (T.inv k q)
 pb:∀t q,t<3->q<Q.m->Bt 7000 (T.pr t q)
 sb:Bt 7000 T.size
 sp:0<T.size
 ab:∀k,k<Q.m->Bt 7000 (T.am (Q.pb λ_=>0) k)
 wR:∀a k,a<Q.n->k<Q.m->Bt 7000 (T.c9 (Q.pb λ_=>0) a k)
 rsb:∀t a,t<3->a<Q.n->Bt 7000 (T.rest (Q.pb λ_=>0) t a)
end Law
set_option hygiene false
local macro_rules | `(tactic| walk_at "v") => `(tactic| ((first|simp only[L2.t5, L2.D3, L2.gD, L2.eh, L2.aQ, L2.P8, L2.mN, L2.R3, L2.K9, L2.fe, L2.gE, L2.CK, L2.rk, L2.F6, L2.ll, L2.E6, L2.gw, L2.E8, L2.cm, Law.wF, Law.um, Law.qE, Law.uj, Law.Cu, Law.wG, Law.wI, Law.wJ, Law.Cw, Law.Cv, Law.uk, Law.wH, Law.zF, Law.we, Law.rq, Law.wc, Law.HA, Law.ro, Law.zG, Law.ry, Law.yB, Law.HB, Law.wd, Law.rp, Law.NW, Law.zX]|walk_at "r"); repeat (first|simp only[L2.t5, L2.D3, L2.gD, L2.eh, L2.aQ, L2.P8, L2.mN, L2.R3, L2.K9, L2.fe, L2.gE, L2.CK, L2.rk, L2.F6, L2.ll, L2.E6, L2.gw, L2.E8, L2.cm, Law.wF, Law.um, Law.qE, Law.uj, Law.Cu, Law.wG, Law.wI, Law.wJ, Law.Cw, Law.Cv, Law.uk, Law.wH, Law.zF, Law.we, Law.rq, Law.wc, Law.HA, Law.ro, Law.zG, Law.ry, Law.yB, Law.HB, Law.wd, Law.rp, Law.NW, Law.zX]|walk_at "r")))
set_option hygiene true
namespace Law
open PySem L2
section
variable{a:Nat}
section
variable{Q:G7}{T:Sx.Tb}
theorem lt3{t:Nat}(h:t<3):t=0\/t=1\/t=2:=by lia
theorem GS{t:Nat}(b:t<3)(f:a<Q.n)(cl:(Q.col a).length<=1000)(c:∀e∈Q.col a,e.1<Q.m/\Bt 7000 e.2)(g:Bt 7000 (Q.wt t a))(h:Bt 7000 T.size)(pb:∀q,q<Q.m->Bt 7000 (T.pr t q)):M0 [p7 Q T,.int (t:Int),.int (a:Int)]=sd (.int (T.rest (Q.pb λ_=>0) t a)):=by
 delta M0;walk_at "v";rw[B9 _ b];walk_at "v";rw[B9 _ f,B9 _ b];walk_at "v";rw[B9 _ f];walk_at "v";rw[l9 (g.mono a6) (h.mono a6),wO cl (λe d=>⟨(c e d).1,((c e d).2).mono a6⟩) λi j=>(pb i j).mono a6];rfl
theorem rest_eq(K:V6 Q T){t:Nat}(c:t<3)(b:a<Q.n):M0 [p7 Q T,.int (t:Int),.int (a:Int)]=sd (.int (T.rest (Q.pb λ_=>0) t a)) :=
 GS c b (K.cl a b) (K.cb a b) (K.wb t a c b) K.sb λq hq=>K.pb t q c hq
theorem xa(K:V6 Q T):L4 [p7 Q T]=U (.own (rl Q.m λk=>.int (T.am (Q.pb λ_=>0) k))):=by
 delta L4;walk_at "v";rw[b3 (Y6 K.m1),C9 λk b=>⟨_,_,rfl,by delta el;walk_at "v";rw[IL K.m1 (λi a=>(K.ib k i b a).mono a6) λi a=>(K.rb i a).mono a6],rfl⟩];rfl
theorem Sd(K:V6 Q T)(b:a<Q.n):P6 [p7 Q T,.int (a:Int)]=U (.own (rl Q.m λk=>.int (T.c9 (Q.pb λ_=>0) a k))):=by
 delta P6;walk_at "v";rw[b3 (Y6 K.m1),C9 λk d=>⟨_,_,rfl,by delta hP;walk_at "v";rw[B9 _ b];walk_at "v";rw[wO (K.cl a b) (λe c=>⟨(K.cb a b e c).1,((K.cb a b e c).2).mono a6⟩) λi f=>(K.ib k i d f).mono a6],rfl⟩];rfl
end
end
section
variable{j:Nat}
section
variable{Q:G7}{T:Sx.Tb}
abbrev i8(Q:G7):Sx.Pb:=Q.pb λ_=>0
theorem Tx(o:Option Int):F3 (ei o) (.int 0)=sd (.bool (decide (o=U 0))):=by
 cases o with
 |none =>
  rfl
 |some v =>
  rw[show ei (U v)=.int v from rfl,vg];simp
noncomputable def AN(r:Nat->Int):Option (Nat×Int) :=
 if r 0≠0 then(if r 0<0 then U (0,r 0)else J)else if r 1≠0 then(if r 1<0 then U (1,r 1)else J)else if r 2≠0 then(if r 2<0 then U (2,r 2)else J)else J
theorem zL(r:Nat->Int):(AN r).isSome=Uf↔Sx.Neg r:=by
 delta AN Sx.Neg;by_cases a:r 0=0
 . rw[b0 (λz=>z a)];by_cases b:r 1=0
   . rw[b0 (λz=>z b)];by_cases c:r 2=0;rw[b0 (λz=>z c)];simp;simp[*]
     . rw[b3 c];split<;>simp<;>simp_all
   . rw[b3 b];split<;>simp<;>simp_all
 simp_all
noncomputable def gn(Q:G7)(T:Sx.Tb)(j:Nat):Option (Nat×Int):=if Q.lim j=U 0 then J else AN λt=>T.sg j*T.rest (i8 Q) t j
noncomputable def gA:Option (Nat×Int)->a7
 |none=>.none
 |some (t,r)=>.tuple [.int (t:Int),.int r]
theorem gn_enter(a:j<Q.n)(b:Nat->Int):(gn Q T j).isSome=Uf↔Sx.G0 (Q.pb b) T j:=by
 delta gn;constructor
 . intro h;by_cases c:Q.lim j=U 0
   . simp_all
   rw[b0 c]at h;exact⟨a,c,(zL _).mp h⟩
 intro h;rw[b0 (show Q.lim j≠U 0 from h.u0)];exact(zL _).mpr h.neg
theorem sgD(T:Sx.Tb)(j:Nat):(if T.full j=Uf then U (PV.dat (.int (-1)))else U (PV.dat (.int 1)))=U (PV.dat (.int (T.sg j))):=by delta Sx.Tb.sg;split<;>rfl
theorem UD(T:Sx.Tb)(j:Nat):Bt 60000 (T.sg j):=by
 delta Sx.Tb.sg;split;exact Bt.lit;exact Bt.lit
theorem vd(K:V6 Q T){t:Nat}(b:t<3)(a:j<Q.n)(e:Option PV):
  iX [sd (p7 Q T),iD (j:Int),iD (T.sg j),iD (t:Int),e]=U (if T.sg j*T.rest (i8 Q) t j≠0 then .ret (.dat (if T.sg j*T.rest (i8 Q) t j<0 then .tuple [.int (t:Int),.int (T.sg j*T.rest (i8 Q) t j)]else .none))
   else .next [sd (p7 Q T),iD (j:Int),iD (T.sg j),iD (t:Int),iD (T.sg j*T.rest (i8 Q) t j)]):=by
 delta iX;walk_at "v";rw[qc (l:=[.int t,.int j]) rfl rfl (Hq Q T) rfl,rest_eq K b a];walk_at "v";rw[l9 (UD T j) ((K.rsb t j b a).mono a6)];walk_at "v";by_cases c:T.sg j*T.rest (i8 Q) t j=0;rw[b0 (λz=>z c),b0 (λz=>z c)]
 . rw[b3 c,b3 c];by_cases d:T.sg j*T.rest (i8 Q) t j<0
   . simp_all
   simp only[b0 d];walk_at "v"
theorem pY{gt:a7->DD}{G:DO}{d:a7}{r:List a7}{ds ds1:Ds}{pv:PV}(a:gt d ds=U ds1)(b:G ds1=U (.ret pv)):V1 gt G (d::r) ds=U (.ret pv):=by
 unfold V1
 simp_all
theorem tL(K:V6 Q T)(a:j<Q.n):jJ [p7 Q T,.int (j:Int)]=sd (gA (gn Q T j)):=by
 delta jJ gn;walk_at "v";rw[B9 _ a];walk_at "v";rw[Tx];walk_at "v";by_cases c:Q.lim j=U 0;simp only[b3 c];rfl
 . simp only[b0 c];walk_at "v";rw[B9 _ a];walk_at "v";rw[sgD];walk_at "v";have b:=vd K (t:=0) a6 a;have d:=vd K (t:=1) a6 a;have e:=vd K (t:=2) a6 a;delta AN;by_cases f:T.sg j*T.rest (i8 Q) 0 j=0
   . simp only[f]at b ⊢;rw[K8 rfl (b J)];by_cases g:T.sg j*T.rest (i8 Q) 1 j=0
     . simp only[g]at d ⊢;rw[K8 rfl (d _)];by_cases h:T.sg j*T.rest (i8 Q) 2 j=0;simp only[h]at e ⊢;rw[K8 rfl (e _)];rfl
       . simp only[b3 (show T.sg j*T.rest (i8 Q) 2 j≠0 from h)]at e ⊢
         rw[pY rfl (e _)];split<;>rfl
     . simp only[b3 (show T.sg j*T.rest (i8 Q) 1 j≠0 from g)]at d ⊢
       rw[pY rfl (d _)];split<;>rfl
   . simp only[b3 (show T.sg j*T.rest (i8 Q) 0 j≠0 from f)]at b ⊢
     rw[pY rfl (b _)];split<;>rfl
theorem Cs{gt:a7->DD}{G:DO}{items:List a7}(I:Nat->Ds->Prop)(R:PV->Prop)(hs:∀i d ds,items[i]? = U d->I i ds->∃ds1,gt d ds=U ds1/\((∃ds2,G ds1=U (.next ds2)/\I (i+1) ds2)\/∃pv,G ds1=U (.ret pv)/\R pv)):
  ∀(k i:Nat) (ds:Ds),i+k=items.length->I i ds->(∃ds',V1 gt G (items.drop i) ds=U (.next ds')/\I items.length ds')\/∃pv,V1 gt G (items.drop i) ds=U (.ret pv)/\R pv
 | 0,i,ds,e,h=>by
  rw[Ex (by simp_all)]
  have:i=items.length:=by lia
  rw[<-this];exact .inl ⟨ds,rfl,h⟩
 |k+1,i,ds,e,h=>by
  have c:i<items.length:=by lia
  rw[pz c];obtain⟨ds1,f,⟨ds2,b,a⟩|⟨pv,b,a⟩⟩:=hs i _ ds (y4 c) h;rw[K8 f b];exact Cs I R hs k (i+1) ds2 b6 a;exact .inr ⟨pv,pY f b,a⟩
def optN:Option Nat->a7
 |none=>.none
 |some a=>.int (a:Int)
theorem a0g(x y:Nat×Int):∃b,yA (gA (U x)) (gA (U y))=sd (.bool b):=⟨_,rfl⟩
theorem zB(K:V6 Q T)(e:Bool):∃r:Option Nat,fB [p7 Q T,.bool e]=sd (optN r)/\(r=J->∀j,j<Q.n->gn Q T j=J)/\∀a,r=U a->a<Q.n/\(gn Q T a).isSome=Uf/\(e=Uf->∀j,j<a->gn Q T j=J):=by
 delta fB;walk_at "v";rw[u6,O3 (by have:=K.n1;lia)]
 walk_at "v";rw[fj,vP];have u:=Cs (gt:=A1 4) (G:=X0)
  (λi H=>∃(r:Option Nat) (best:Option (Nat×Int)) (x o:Option PV),H=[sd (p7 Q T),sd (.bool e),sd (optN r),sd (gA best),x,o]/\(r.isSome=best.isSome)/\(r=J->∀j,j<i->gn Q T j=J)/\(∀a,r=U a->a<Q.n/\(gn Q T a).isSome=Uf/\e=U'))
  (λpv=>∃a,pv=.dat (optN (U a))/\a<Q.n/\(gn Q T a).isSome=Uf/\∀j,j<a->gn Q T j=J)
  (by
   rintro i d H P ⟨r,best,x,o,rfl,q,t,m⟩;obtain⟨p,rfl⟩:=vQ P;refine⟨_,rfl,?_⟩;cases hg:gn Q T i with
   |none =>
    refine .inl ⟨[sd (p7 Q T),sd (.bool e),sd (optN r),sd (gA best),iD i,sd .none],?_,r,best,_,_,rfl,q,λk j E=>?_,m⟩;delta X0;walk_at "v";rw[tL K p,hg];rfl;by_cases c:j=i;rw[c];exact hg;exact t k j (lS (pe c6) c6)
   |some g =>
    have L:(r=J\/∃l f,r=U l/\best=U f/\(∃w,yA (gA (U g)) (gA (U f))=sd (.bool w)/\w=Uf))->X0 [sd (p7 Q T),sd (.bool e),sd (optN r),sd (gA best),iD i,o]=if e=Uf then U (.ret (.dat (.int i)))else U (.next [sd (p7 Q T),sd (.bool e),iD i,sd (gA (U g)),iD i,sd (gA (U g))]):=by
     obtain⟨A,B⟩:=g;rintro(rfl|⟨l,⟨O,N⟩,rfl,rfl,w,s,rfl⟩);delta X0;walk_at "v";rw[tL K p,hg];simp only[gA,optN];walk_at "v";delta X0;walk_at "v";rw[tL K p,hg];simp only[gA,optN]at s ⊢;walk_at "v";rw[s];walk_at "v"
    have I:e=U'->(r=J\/∃l f,r=U l/\best=U f/\(∃w,yA (gA (U g)) (gA (U f))=sd (.bool w)/\w=Uf))->(∃v,X0 [sd (p7 Q T),sd (.bool e),sd (optN r),sd (gA best),iD i,o]=U (.next v)/\∃(r:Option Nat) (best:Option (Nat×Int)) (x o:Option PV),v=[sd (p7 Q T),sd (.bool e),sd (optN r),sd (gA best),x,o]/\(r.isSome=best.isSome)/\(r=J->∀j,j<i+1->gn Q T j=J)/\(∀a,r=U a->a<Q.n/\(gn Q T a).isSome=Uf/\e=U')):=λy h=>by rw[L h,y];exact⟨_,rfl,U i,U g,_,_,rfl,rfl,(λz=>by exact nS z),λa D=>by cases D;exact⟨p,by rw[hg];rfl,rfl⟩⟩
    cases k:r with
    |none =>
     cases y:e with
     |false =>
      subst y k;exact .inl (I rfl (.inl rfl))
     |true =>
      subst y k;exact .inr ⟨.dat (.int i),L (.inl rfl),i,rfl,p,by rw[hg];rfl,t rfl⟩
    |some l =>
     obtain⟨A,B,C⟩:=m l k;subst C;cases hbb:best with
     |none=>simp_all
     |some f =>
      subst k hbb;obtain⟨w,s⟩:=a0g g f;cases w with
      |true=>exact .inl (I rfl (.inr ⟨l,f,rfl,rfl,Uf,s,rfl⟩))
      |false =>
       refine .inl ⟨[sd (p7 Q T),sd (.bool U'),sd (optN (U l)),sd (gA (U f)),iD i,sd (gA (U g))],?_,U l,U f,_,_,rfl,rfl,(λz=>by exact nS z),m⟩
       obtain⟨A,B⟩:=g;obtain⟨O,N⟩:=f;delta X0;walk_at "v";rw[tL K p,hg];simp only[gA,optN]at s ⊢;walk_at "v";rw[s];walk_at "v")
  Q.n 0 [sd (p7 Q T),sd (.bool e),sd .none,sd .none,J,J] (by rw[u6];exact oM _ _) ⟨J,J,J,J,rfl,rfl,λ_ j E=>by exact kn,λa h=>by exact nE h⟩
 rw[List.drop_zero]at u;rcases u with ⟨R,t,r,best,x,o,rfl,q,m,F⟩|⟨pv,t,a,rfl,m,F,M⟩
 rw[t];refine⟨r,rfl,λk j E=>m k j (by rw[u6];exact E),λa D=>?_⟩;obtain⟨A,B,C⟩:=F a D;exact⟨A,B,λz=>by rw[C]at z;exact nT z⟩;rw[t];exact⟨U a,rfl,(λz=>by exact nS z),λb q=>by cases q;exact⟨m,F,λ_=>M⟩⟩
end
end
section
variable{a k:Nat}{r:U1}
structure U1 where
 top:Int
 bot:Int
 ch:Nat
 pl:Option Nat
 tp:Bool
noncomputable def K6(s:U1):a7:=.tuple [.int s.top,.int s.bot,.int (s.ch:Int),optN s.pl,.bool s.tp]
section
variable{Q:G7}{T:Sx.Tb}
def sY(Q:G7)(a:Nat):List U1:=match Q.lim a with
 |some v=>[⟨v,1,a,J,U'⟩]
 |none=>[]
noncomputable def stK(Q:G7)(T:Sx.Tb)(a k:Nat):List U1 :=
 if 0<T.sg a*T.c9 (i8 Q) a k then[⟨T.am (i8 Q) k,T.sg a*T.c9 (i8 Q) a k,T.B k,U k,U'⟩]
 else if T.sg a*T.c9 (i8 Q) a k<0 then(match Q.lim (T.B k)with
  |some v=>[⟨v*T.size-T.am (i8 Q) k,-(T.sg a*T.c9 (i8 Q) a k),T.B k,U k,Uf⟩]
  |none=>[])
 else[]
def stI(Q:G7)(T:Sx.Tb)(a:Nat):Nat->List U1
 | 0=>sY Q a
 |k+1=>stI Q T a k++stK Q T a k
theorem GF(Q:G7)(T:Sx.Tb)(a:Nat):∀k,(stI Q T a k).length<=k+1
 | 0=>by unfold stI sY;split<;>simp
 |k+1=>by
  have:=GF Q T a k;rw[stI,U6];have:(stK Q T a k).length<=1:=by
   unfold stK;split;simp
   . split
     . split<;>simp
     simp
  exact xx c6 c6
theorem KO(K:V6 Q T)(f:a<Q.n)(b:k<Q.m)(x7 x8 h:Option PV){l:List U1}(o:l.length<=10000):∃i j g,
  jK [sd (p7 Q T),iD (a:Int),sd (.list (rl Q.m λk=>.int (T.c9 (i8 Q) a k))),U (.own (l.map K6)),iD (T.sg a),iD (0+(k:Int)),iD (T.am (i8 Q) k),x7,x8,h]=U (.next [sd (p7 Q T),iD (a:Int),sd (.list (rl Q.m λk=>.int (T.c9 (i8 Q) a k))),U (.own ((l++stK Q T a k).map K6)),iD (T.sg a),iD (0+(k:Int)),iD (T.am (i8 Q) k),i,j,g]):=by
 have d:=K.bn k b;refine⟨iD (T.B k),sd (ei (Q.lim (T.B k))),iD (T.sg a*T.c9 (i8 Q) a k),?_⟩;delta jK;walk_at "v";rw[Lg _ b];walk_at "v";rw[B9 _ d];walk_at "v";rw[Lg _ b];walk_at "v";rw[l9 (UD T a) ((K.wR a k f b).mono (n:=60000) a6)];walk_at "v";delta stK;by_cases c:0<T.sg a*T.c9 (i8 Q) a k;simp only[b3 c];rw[fW _ rfl (by rw[o9];exact lU c6 a6),V9];simp only[N7];rfl
 . simp only[b0 c];by_cases e:T.sg a*T.c9 (i8 Q) a k<0
   . simp only[b3 e];cases hlim:Q.lim (T.B k)with
     |none =>
      simp only[ei];walk_at "v"
     |some v =>
      simp only[ei];walk_at "v";rw[l9 ((K.lb _ v d hlim).mono a6) (K.sb.mono a6)];walk_at "v";rw[fW _ rfl (by rw[o9];exact lU c6 a6),V9];simp only[N7];rfl
   simp only[b0 e];walk_at "v"
theorem QA(K:V6 Q T)(g:a<Q.n):gb [p7 Q T,.int (a:Int),.list (rl Q.m λk=>.int (T.c9 (i8 Q) a k))]=U (.own ((stI Q T a Q.m).map K6)):=by
 have:=K.m1;obtain⟨s,r,j,o,c,b,f,rfl⟩:=bJ (gt:=bE 2 (A7 5 (A7 6 bF))) (items:=rl Q.m λi=>.tuple [.int (0+i),.int (T.am (i8 Q) i)])
  (λi q=>∃j o c b f,q=[sd (p7 Q T),iD a,sd (.list (rl Q.m λk=>.int (T.c9 (i8 Q) a k))),U (.own ((stI Q T a i).map K6)),iD (T.sg a),j,o,c,b,f])
  ⟨J,J,J,J,J,rfl⟩ (by
   rintro i d q u ⟨j,o,c,b,f,rfl⟩;obtain⟨t,rfl⟩:=vQ u;obtain⟨y,z,x,e⟩:=KO K g t c b f (l:=stI Q T a i) (by have:=GF Q T a i;omega)
   exact⟨_,_,rfl,.inl e,_,_,_,_,_,rfl⟩)
 rw[u6]at r;have w:∀p,p=(stI Q T a 0).map K6->(c8 (d8 4 (eG (k9 (b8 l7 (t5 "Table" "full" (b7 0)) (b7 1))) (dU aG (fC (.int 1))) (fC (.int 1)))) (c8 (A8 (t2 aR (a8 (J8 "Table" "amounts" L4 (b7 0) d6) d6)) (bE 2 (A7 5 (A7 6 bF))) jK) (V4 3))) [sd (p7 Q T),iD a,sd (.list (rl Q.m λk=>.int (T.c9 (i8 Q) a k))),U (.own p),J,J,J,J,J,J]=U (.ret (.own ((stI Q T a Q.m).map K6))):=by rintro p rfl;walk_at "v";rw[B9 _ g];walk_at "v";rw[sgD];walk_at "v";rw[qc rfl rfl (vY Q T) rfl,xa K];walk_at "v";rw[oy,r];walk_at "v"
 have h:(G3 (k9 (b8 cQ (b8 l7 (t5 "Table" "limits" (b7 0)) (b7 1)) (fC .none))) (cU 3 (f9 (a8 (b8 l7 (t5 "Table" "limits" (b7 0)) (b7 1)) (a8 (fC (.int 1)) (a8 (b7 1) (a8 (fC .none) (a8 (fC (.bool U')) d6))))))) A4) [sd (p7 Q T),iD a,sd (.list (rl Q.m λk=>.int (T.c9 (i8 Q) a k))),U (.own []),J,J,J,J,J,J]=U (.next [sd (p7 Q T),iD a,sd (.list (rl Q.m λk=>.int (T.c9 (i8 Q) a k))),U (.own ((stI Q T a 0).map K6)),J,J,J,J,J,J]):=by
  walk_at "v";rw[B9 _ g];unfold stI sY;cases Q.lim a with
  |none=>rfl
  |some v =>
   rfl
 unfold gb w5;rw[b3 (by rfl),k6,show I0 3 (D6 d6) (L7 [p7 Q T,.int a,.list (rl Q.m λk=>.int (T.c9 (i8 Q) a k))]++o1 (10-3) J)=U (.next [sd (p7 Q T),iD a,sd (.list (rl Q.m λk=>.int (T.c9 (i8 Q) a k))),U (.own []),J,J,J,J,J,J])from rfl,j0,k6,h,j0,w _ rfl];rfl
def pM(s r:U1):Bool:=decide (s.top*r.bot<r.top*s.bot)||(decide (s.top*r.bot=r.top*s.bot)&&decide (s.ch<r.ch))
structure Ig(s:U1):Prop where
 t:Bt 20000 s.top
 b:Bt 20000 s.bot
 p:0<s.bot
theorem KQ{s:U1}(hs:Ig s)(a:Ig r):mf [K6 s,K6 r]=sd (.bool (pM s r)):=by
 delta mf K6;walk_at "v";rw[l9 (hs.t.mono a6) (a.b.mono a6)];walk_at "v";rw[l9 (a.t.mono a6) (hs.b.mono a6)];walk_at "v";delta pM;by_cases c:s.top*r.bot<r.top*s.bot;simp[c];rfl;by_cases d:s.top*r.bot=r.top*s.bot;simp[c];rfl;simp[c];rfl
def ee:Option U1->a7
 |none=>.none
 |some s=>K6 s
def dI(o:Option U1)(s:U1):Option U1:=match o with
 |none=>U s
 |some r=>if pM s r=Uf then U s else U r
theorem Tt{l:List U1}(h:∀s∈l,Ig s):Z3 [.list (l.map K6)]=sd (ee (l.foldl dI J)):=by
 have f:∀(l:List U1) o L x,(∀s∈l,Ig s)->(∀r,o=U r->Ig r)->∃b,V1 (A1 2) X5 (l.map K6) [sd L,sd (ee o),x]=U (.next [sd L,sd (ee (l.foldl dI o)),b]):=by
  intro l;induction l with
  |nil=>exact λo L x _ _=>⟨x,rfl⟩
  |cons s l j =>
   intro o L x i g;have d:=i s m8;have e:X5 [sd L,sd (ee o),sd (K6 s)]=U (.next [sd L,sd (ee (dI o s)),sd (K6 s)]):=by
    delta X5;cases o with
    |none =>
     rfl
    |some r =>
     simp only[ee];simp only[G3,wW,k9,b7,Pj,me,g8,PV.tS,b4,a8,d6,KQ d (g r rfl)];delta dI;cases c:pM s r;simp only[c];rfl;simp only[c];rfl
   rw[m6,K8 rfl e,DM];refine j _ L _ (λy m=>i y (m5 _ m)) λr a=>?_;unfold dI at a;split at a;cases a;exact d;split at a;cases a;exact d;cases a;exact g _ rfl
 obtain⟨b,e⟩:=f l J (.list (l.map K6)) J h (λr z=>by exact nE z);delta Z3;walk_at "v";have k:V1 (A1 2) X5 (l.map K6) [sd (.list (l.map K6)),sd .none,J]=U (.next [sd (.list (l.map K6)),sd (ee (l.foldl dI J)),b]):=e;rw[k];walk_at "v"
def le(r s:U1):Prop:=r.top*s.bot<s.top*r.bot\/(r.top*s.bot=s.top*r.bot/\r.ch<=s.ch)
theorem MF{s:U1}(h:pM s r=U'):le r s:=by
 unfold pM at h;rw[OO,Bool.and_eq_false_iff]at h;obtain⟨b,a⟩:=h;by_cases c:s.top*r.bot=r.top*s.bot
 . rcases a with a|a
   exact absurd c (of_decide_eq_false a);have:=of_decide_eq_false a;exact .inr ⟨c.symm,lO c6⟩
 left;lia
theorem Jz{s:U1}(h:pM s r=Uf):le s r:=by
 unfold pM at h;rw[Of,pa]at h;rcases h with h|⟨a,b⟩
 exact .inl (lR h);have:=lR a;exact .inr ⟨by assumption,by lia⟩
theorem le_trans{s t:U1}(i:0<r.bot)(hs:0<s.bot)(g:0<t.bot)(d:le r s)(b:le s t):le r t:=by
 have k:r.top*s.bot<=s.top*r.bot:=by unfold le at d;omega
 have j:s.top*t.bot<=t.top*s.bot:=by unfold le at b;omega
 have:=ky k (N8 g);have:=ky j (N8 i);have:s.top*r.bot*t.bot=s.top*t.bot*r.bot:=by grind
 have a:s.bot*(r.top*t.bot)=r.top*s.bot*t.bot:=by grind
 have:s.bot*(t.top*r.bot)=t.top*s.bot*r.bot:=by grind
 have f:s.bot*(r.top*t.bot)<=s.bot*(t.top*r.bot):=by omega
 have:=xY f hs;by_cases c:r.top*t.bot=t.top*r.bot
 . right;refine⟨c,?_⟩;have e:r.top*s.bot*t.bot=s.top*r.bot*t.bot:=by rw[c]at a;omega
   have h:s.top*t.bot*r.bot=t.top*s.bot*r.bot:=by rw[c]at a;simp_all
   have:=sP x6 e;have:=sP x6 h;unfold le at d b;omega
 left;omega
theorem zP:∀(l:List U1) (o:Option U1),(∀s∈l,0<s.bot)->(∀r,o=U r->0<r.bot)->(l.foldl dI o=J->o=J/\l=[])/\∀r,l.foldl dI o=U r->(o=U r\/r∈l)/\(∀s,o=U s->le r s)/\∀s∈l,le r s
 | [],o,_,_=>⟨λh=>⟨h,rfl⟩,λr h=>⟨.inl h,λs a=>by have n:o=U r:=h;rw[n]at a;cases a;exact .inr ⟨rfl,Z6 _⟩,λs a=>absurd a i9⟩⟩
 |x::l,o,h1,h2=>by
  have i:=h1 x m8;have q:∃y,dI o x=U y/\0<y.bot/\(o=U y\/y=x)/\le y x/\∀s,o=U s->le y s:=by
   delta dI;cases o with
   |none=>exact⟨x,rfl,i,.inr rfl,.inr ⟨rfl,Z6 _⟩,λs z=>by exact nE z⟩
   |some r =>
    cases c:pM x r with
    |true=>exact⟨x,by simp[c],i,.inr rfl,.inr ⟨rfl,Z6 _⟩,λs z=>by cases z;exact Jz c⟩
    |false=>exact⟨r,by simp[c],h2 r rfl,.inl rfl,MF c,λs z=>by cases z;exact .inr ⟨rfl,Z6 _⟩⟩
  obtain⟨y,e,g,d,m,t⟩:=q;rw[DM,e];obtain⟨w,k⟩:=zP l (U y) (λs a=>h1 s (m5 _ a)) λr z=>by cases z;exact g
  refine⟨λh=>(by have:=(w h).1;exact nS this),λr v=>?_⟩
  obtain⟨b,p,u⟩:=k r v;have f:0<r.bot:=by
   rcases b with b|b
   cases b;exact g;exact h1 r (m5 _ b)
  have j:=p y rfl;refine⟨?_,λs a=>le_trans f g (h2 s a) j (t s a),λs a=>?_⟩
  . rcases b with b|b
    . cases b;rcases d with d|d
      exact .inl d;rw[d];exact .inr m8
    exact .inr (m5 _ b)
  . rcases List.mem_cons.mp a with rfl|a
    exact le_trans f g i j m;exact u s a
end
end
section
variable{a p:Nat}{ds:Ds}{v:Int}
section
variable{Q:G7}{T:Sx.Tb}
theorem fR{n:Nat}(h:a<n):gy n (a:Int)=U a:=by
 delta gy
 simp_all
theorem tq{f:Str}{i:Nat}{w:Option Addr}{Fk Fv:DV}{pv:PV}{l:List a7}(h:ds[i]? = U (U (.ob w (l5 Q T))))(e:m9 f (v9 Q T)=U (.own l))(b:Fv ds=U pv)(c:Fk ds=sd (.int (a:Int)))(g:a<l.length):
  aQ "Table" i f Fk Fv ds=U (.next (ds.set i (U (.ob w (.ins "Table" (E5 f (.own (l.set a pv.d)) (v9 Q T))))))):=by delta aQ eh;rw[b,g8,c,g8,h];simp only[L9,g8,e,rk,PV.tS,fR g]
theorem LR{i:Nat}{w:Option Addr}{Fk Fv:DV}{pv:PV}{b:Bool}(h:ds[i]? = U (U (.ob w (l5 Q T))))(c:Fv ds=U pv)(hd:pv.d=.bool b)(f:Fk ds=sd (.int (a:Int)))(g:a<Q.n):
  aQ "Table" i "full" Fk Fv ds=U (.next (ds.set i (U (.ob w (l5 Q {T with full:=λj=>if j=a then b else T.full j}))))):=by
 rw[tq h (yB Q T) c f (by rw[u6];exact g),gr,hd]
 have e:(rl Q.n λk=>if k=a then PyData.bool b else .bool (T.full k))=rl Q.n λj=>.bool (if j=a then b else T.full j):=Y1 λk _=>by split<;>rfl
 rw[e,Wl]
theorem ET{i:Nat}{w:Option Addr}{Fk Fv:DV}{pv:PV}{x:Int}(h:ds[i]? = U (U (.ob w (l5 Q T))))(b:Fv ds=U pv)(hd:pv.d=.int x)(c:Fk ds=sd (.int (p:Int)))(a:p<Q.m):
  aQ "Table" i "rights" Fk Fv ds=U (.next (ds.set i (U (.ob w (l5 Q {T with rt:=λj=>if j=p then x else T.rt j}))))):=by
 rw[tq h (ro Q T) b c (by rw[u6];exact a),gr,hd]
 have e:(rl Q.m λk=>if k=p then P0 x else .int (T.rt k))=rl Q.m λj=>.int (if j=p then x else T.rt j):=Y1 λk _=>by split<;>rfl
 rw[e,Lo]
theorem EV{i:Nat}{w:Option Addr}{Fk Fv:DV}{pv:PV}{x:Nat}(h:ds[i]? = U (U (.ob w (l5 Q T))))(b:Fv ds=U pv)(hd:pv.d=.int (x:Int))(c:Fk ds=sd (.int (p:Int)))(a:p<Q.m):
  aQ "Table" i "chosen" Fk Fv ds=U (.next (ds.set i (U (.ob w (l5 Q {T with B:=λj=>if j=p then x else T.B j}))))):=by
 rw[tq h (ry Q T) b c (by rw[u6];exact a),gr,hd]
 have e:(rl Q.m λk=>if k=p then P0 x else .int (T.B k))=rl Q.m λj=>.int ((if j=p then x else T.B j:Nat)):=Y1 λk _=>by split<;>rfl
 rw[e,Lq]
theorem EU{i:Nat}{w:Option Addr}{Fk Fv:DV}{pv:PV}{x:Nat->Int}{t:Nat}(h:ds[i]? = U (U (.ob w (l5 Q T))))(b:Fv ds=U pv)(hd:pv.d=il Q.m x)(c:Fk ds=sd (.int (t:Int)))(a:t<3):
  aQ "Table" i "prices" Fk Fv ds=U (.next (ds.set i (U (.ob w (l5 Q {T with pr:=λj=>if j=t then x else T.pr j}))))):=by
 rw[tq h (rp Q T) b c (by assumption),gr,hd]
 have e:(rl 3 λk=>if k=t then il Q.m x else il Q.m (T.pr k))=rl 3 λj=>il Q.m (if j=t then x else T.pr j):=Y1 λk _=>by split<;>rfl
 rw[e,Lp]
noncomputable def iK(Q:G7)(T:Sx.Tb)(a:Nat)(by':Int):Sx.Tb:={T with full:=λj=>if j=a then !T.full a else T.full j,rt:=λp=>T.rt p+by'*D0 (Q.col a) p}
theorem zO{w:Option Addr}{a b:Int}(i:Bt 60000 b):∀(c:List (Nat×Int)) (T:Sx.Tb) (x3 d:Option PV),(∀e∈c,e.1<Q.m/\Bt 60000 e.2) ->
  ∃g f,V1 (bE 2 (A7 3 (A7 4 bF))) bB (c.map λe=>.tuple [.int (e.1:Int),.int e.2]) [U (.ob w (l5 Q T)),iD a,iD b,x3,d]=U (.next [U (.ob w (l5 Q {T with rt:=λp=>T.rt p+b*D0 c p})),iD a,iD b,g,f])
 | [],T,x3,d,_=>⟨x3,d,by
   have:({T with rt:=λp=>T.rt p+b*D0 [] p}:Sx.Tb)=T:=by
    have:(λp=>T.rt p+b*D0 [] p)=T.rt:=by funext p;rw[D0,J3,so]
    rw[this]
   rw[this];rfl⟩
 |e::c,T,x3,d,h=>by
  obtain⟨k,n⟩:=h e m8;have l:bB [U (.ob w (l5 Q T)),iD a,iD b,iD e.1,iD e.2]=U (.next [U (.ob w (l5 Q {T with rt:=λj=>if j=e.1 then T.rt e.1+b*e.2 else T.rt j})),iD a,iD b,iD e.1,iD e.2]):=by
   delta bB;rw[ET (pv:=.dat (.int (T.rt e.1+b*e.2))) rfl ?_ rfl rfl k];rfl;walk_at "v";rw[B9 _ k];walk_at "v";rw[l9 i n];walk_at "v"
  obtain⟨g,f,q⟩:=zO i c {T with rt:=λj=>if j=e.1 then T.rt e.1+b*e.2 else T.rt j} (iD e.1) (iD e.2) λx o=>h x (m5 _ o)
  refine⟨g,f,?_⟩;rw[m6,K8 rfl l,q];have:(λp=>(if p=e.1 then T.rt e.1+b*e.2 else T.rt p)+b*D0 c p)=λp=>T.rt p+b*D0 (e::c) p:=by
   funext p
   rw[D0];by_cases z:e.1=p;rw[b3 z.symm,b3 z,z,bj,Int.add_assoc];rw[b0 λy=>z y.symm,b0 z,N7]
  simp only[this]
theorem HN(b:a<Q.n)(i:Q.lim a=U v)(f:Bt 60000 v)(d:∀e∈Q.col a,e.1<Q.m/\Bt 7000 e.2):E7 [.ob J (l5 Q T),.dat (.int (a:Int))]=U (.dat .none,[U (.ob J (l5 Q (iK Q T a (-(T.sg a*v))))),J]):=by
 refine lq rfl λt=>?_
 have c:Bt 60000 (-(T.sg a*v)):=by
  delta Sx.Tb.sg;split;exact f.of_le j1;exact f.of_le j1
 rw[show((aU t 0 [PV.ob J (l5 Q T),.dat (.int a)]).map U++o1 (5-2) J)=[U (.ob (U (t 0)) (l5 Q T)),iD a,J,J,J]from rfl]
 have h:d8 2 (eG (k9 (gD "Table" 0 "full" (b7 1))) (b8 l7 (D3 "Table" 0 "limits") (b7 1)) (dU aG (b8 l7 (D3 "Table" 0 "limits") (b7 1)))) [U (.ob (U (t 0)) (l5 Q T)),iD a,J,J,J]=U (.next [U (.ob (U (t 0)) (l5 Q T)),iD a,iD (-(T.sg a*v)),J,J]):=by
  walk_at "v";rw[B9 _ b];walk_at "v";rw[B9 _ b,i];walk_at "v";delta Sx.Tb.sg;cases T.full a;simp only[jC,if_false,U2];rfl;simp only[L9,xj,U2,Int.neg_neg];rfl
 have k:aQ "Table" 0 "full" (b7 1) (yV (gD "Table" 0 "full" (b7 1))) [U (.ob (U (t 0)) (l5 Q T)),iD a,iD (-(T.sg a*v)),J,J]=U (.next [U (.ob (U (t 0)) (l5 Q {T with full:=λj=>if j=a then !T.full a else T.full j})),iD a,iD (-(T.sg a*v)),J,J]):=by
  rw[LR (pv:=.dat (.bool (!T.full a))) rfl ?_ rfl rfl b];rfl;walk_at "v";rw[B9 _ b];walk_at "v"
 obtain⟨p,o,l⟩:=zO c (Q.col a) {T with full:=λj=>if j=a then !T.full a else T.full j} J J λe g=>⟨(d e g).1,((d e g).2).mono a6⟩;rw[k6,h,j0,k6,k,j0];walk_at "v";rw[B9 _ b];walk_at "v";rw[l];simp only[g8,jM,K3];rfl
theorem HP(K:V6 Q T)(b:a<Q.n)(c:Q.lim a=U v):E7 [.ob J (l5 Q T),.dat (.int (a:Int))]=U (.dat .none,[U (.ob J (l5 Q (iK Q T a (-(T.sg a*v))))),J]) :=
 HN b c ((K.lb a v b c).mono a6) (K.cb a b)
end
end
section
variable{c':OD}{ds r:Ds}{xs:List a7}{a:Nat}{g:Int}
section
variable{Q:G7}{T:Sx.Tb}
theorem NT(ds:Ds):∀xs:List a7,qp ds (xs.map AV.d)=U (xs.map .dat)
 | []=>rfl
 |x::xs=>by rw[m6,qp,NT ds xs];rfl
theorem GW:∀(xs:List a7) (r ds:Ds),dZ (xs.map AV.d) r ds=ds
 | [],r,ds=>by simp[dZ]
 |x::xs,[],ds=>by simp[dZ]
 |x::xs,y::r,ds=>by rw[m6,dZ,GW xs]
theorem zq:∀xs:List a7,L5 (xs.map AV.d)=[]
 | []=>rfl
 |x::xs=>by rw[m6,L5,zq xs]
theorem vp{i:Nat}{w:Option Addr}{c:OD}{f:List PV->Option (PV×Ds)}{a:Ds->Option (List AV)}{pv:PV}(h:ds[i]? = U (U (.ob w c)))(e:a ds=U (.s i::xs.map AV.d))(b:f (.ob J c::xs.map .dat)=U (pv,U (.ob J c')::r)):
  jj f a ds=U (pv,ds.set i (U (.ob w c'))):=by
 delta jj;rw[e,g8];rw[b3 (by rw[L5,zq];simp),qp];simp only[h,NT,g8,b];rw[dZ,h,GW];rfl
theorem pU{m:Str}{i:Nat}{w:Option Addr}{f:List PV->Option (PV×Ds)}{a:Ds->Option (List AV)}{pv:PV}(h:ds[i]? = U (U (.ob w (l5 Q T))))(e:m9 m (v9 Q T)=J)(c:a ds=U (xs.map AV.d))(b:f (.ob J (l5 Q T)::xs.map .dat)=U (pv,U (.ob J c')::r)):
  E6 "Table" m i f a ds=U (pv,ds.set i (U (.ob w c'))):=by
 delta E6 eh;rw[h];simp only[L9,g8,e];refine vp h ?_ b;delta gw
 simp_all
noncomputable def ue(Q:G7)(T:Sx.Tb)(a l:Nat)(g:Int)(t q:Nat):Int:=(T.pr t q*(g*T.c9 (i8 Q) a l)-(-g*T.rest (i8 Q) t a)*T.inv l q).fdiv T.size
noncomputable def bG(Q:G7)(T:Sx.Tb)(a l:Nat)(g:Int)(k q:Nat):Int:=if k=l then g*T.inv l q else(T.inv k q*(g*T.c9 (i8 Q) a l)-(g*T.c9 (i8 Q) a k)*T.inv l q).fdiv T.size
def J7(Q:G7)(T:Sx.Tb)(a:Nat):Sx.Tb:=if T.full a=Uf then iK Q T a (-(T.sg a*(Q.lim a).getD 0))else T
noncomputable def O1(Q:G7)(T:Sx.Tb)(a l:Nat)(g:Int):Sx.Tb:=⟨λk=>if k=l then a else T.B k,(J7 Q T a).full,g*T.c9 (i8 Q) a l,bG Q T a l g,λt=>if t<3 then ue Q T a l g t else T.pr t,(J7 Q T a).rt⟩
theorem ub:(J7 Q T a).B=T.B/\(J7 Q T a).size=T.size/\(J7 Q T a).inv=T.inv/\(J7 Q T a).pr=T.pr:=by delta J7;split<;>exact⟨rfl,rfl,rfl,rfl⟩
noncomputable def Q8(Q:G7)(T:Sx.Tb)(a l:Nat)(g:Int)(i:Nat):Sx.Tb:=⟨T.B,(J7 Q T a).full,T.size,T.inv,λt=>if t<i then ue Q T a l g t else T.pr t,(J7 Q T a).rt⟩
theorem a3a(a l:Nat)(g:Int):Q8 Q T a l g 0=J7 Q T a:=by
 delta Q8;have:(λt=>if t<0 then ue Q T a l g t else T.pr t)=T.pr:=by funext t;simp
 rw[this];obtain⟨b,c,d,e⟩:=ub;cases hu:J7 Q T a;rw[hu]at b c d e
 simp_all
theorem uJ(K:V6 Q T){l t:Nat}(e:a<Q.n)(s:l<Q.m)(b:t<3)(B:g=1\/g = -1)(w:Option Addr)(x8:Option PV):
  ∃C,bA [U (.ob w (l5 Q (Q8 Q T a l g t))),iD (a:Int),iD (l:Int),sd (.list (rl Q.m λk=>.int (T.c9 (i8 Q) a k))),iD g,iD (g*T.c9 (i8 Q) a l),sd (il Q.m (T.inv l)),iD (t:Int),x8,J]=U (.next [U (.ob w (l5 Q (Q8 Q T a l g (t+1)))),iD (a:Int),iD (l:Int),sd (.list (rl Q.m λk=>.int (T.c9 (i8 Q) a k))),iD g,iD (g*T.c9 (i8 Q) a l),sd (il Q.m (T.inv l)),iD (t:Int),C,J]):=by
 have o:Bt 10 g:=by rcases B with h|h<;>rw[h]<;>exact⟨by decide⟩
 have d:(Q8 Q T a l g t).pr t=T.pr t:=by show(if t<t then _ else T.pr t)=T.pr t;simp
 have D:(Q8 Q T a l g t).rest (i8 Q) t a=T.rest (i8 Q) t a:=by delta Sx.Tb.rest;rw[d];rfl
 have p:=K.rsb t a b e;have u:=GS (T:=Q8 Q T a l g t) b e (K.cl a e) (K.cb a e) (K.wb t a b e) K.sb (λq hq=>by rw[d];exact K.pb t q b hq);rw[D]at u;obtain⟨r,A,z⟩:=zo K.m1 (λi f=>(K.pb t i b f).mono a6) (λi f=>(K.ib l i s f).mono a6) ((o.neg.mul p).mono a6) ((o.mul (K.wR a l e s)).mono a6) (K.sb.mono a6) K.sp
 refine⟨iD (-g*T.rest (i8 Q) t a),?_⟩;delta bA;have y:d8 8 (b8 C8 (dU aG (b7 4)) (R3 (J8 "Table" "rest" M0 (K9 0) (a8 (b7 7) (a8 (b7 1) d6))))) [U (.ob w (l5 Q (Q8 Q T a l g t))),iD a,iD l,sd (.list (rl Q.m λk=>.int (T.c9 (i8 Q) a k))),iD g,iD (g*T.c9 (i8 Q) a l),sd (il Q.m (T.inv l)),iD t,x8,J]=U (.next [U (.ob w (l5 Q (Q8 Q T a l g t))),iD a,iD l,sd (.list (rl Q.m λk=>.int (T.c9 (i8 Q) a k))),iD g,iD (g*T.c9 (i8 Q) a l),sd (il Q.m (T.inv l)),iD t,iD (-g*T.rest (i8 Q) t a),J]):=by
  walk_at "v";rw[qc (l:=[.int t,.int a]) rfl rfl (Hq Q _) rfl,u];walk_at "v";simp only[LF,L9,g8,PV.tS];rw[l9 (o.neg.mono a6) (show Bt 60000 (T.rest (i8 Q) t a)from p.mono a6)];rfl
 rw[k6,y,j0];rw[EU (x:=ue Q T a l g t) rfl ?_ z rfl b]
 . have:({Q8 Q T a l g t with pr:=λj=>if j=t then ue Q T a l g t else(Q8 Q T a l g t).pr j}:Sx.Tb)=Q8 Q T a l g (t+1):=by
     delta Q8;have:(λj=>if j=t then ue Q T a l g t else if j<t then ue Q T a l g j else T.pr j)=λj=>if j<t+1 then ue Q T a l g j else T.pr j:=by
      funext j
      by_cases c:j=t;rw[b3 c,b3 j1,c];rw[b0 c];by_cases v:j<t;rw[b3 v,b3 aW];rw[b0 v,b0 b6]
     simp only[this]
   rw[this];rfl
 walk_at "v";rw[B9 _ b];walk_at "v";rw[d];exact A
theorem Vz(K:V6 Q T){l:Nat}(j:a<Q.n)(f:l<Q.m)(P:T.full a=Uf->Q.lim a≠J)(C:g=if 0<T.c9 (i8 Q) a l then 1 else -1):
  br [.ob J (l5 Q T),.dat (.int (a:Int)),.dat (.int (l:Int)),.dat (.list (rl Q.m λk=>.int (T.c9 (i8 Q) a k)))]=U (.dat .none,[U (.ob J (l5 Q (O1 Q T a l g))),J,J,J]):=by
 refine lq rfl λt=>?_
 have o:g=1\/g = -1:=by rw[C];split<;>simp
 have p:Bt 10 g:=by rcases o with h|h<;>rw[h]<;>exact⟨by decide⟩
 generalize D:(U (t 0):Option Addr)=w;generalize s:(lF (rl Q.m λk=>.int (T.c9 (i8 Q) a k)))=PC;rw[show((aU t 0 [PV.ob J (l5 Q T),.dat (.int (a:Int)),.dat (.int (l:Int)),.dat PC]).map U++o1 (10-4) J:Ds)=[U (.ob (U (t 0)) (l5 Q T)),iD (a:Int),iD (l:Int),sd PC,J,J,J,J,J,J]from rfl,D]
 have G:G3 (k9 (gD "Table" 0 "full" (b7 1))) (F6 (E6 "Table" "flip" 0 E7 (E8 (b7 1) cm))) A4 [U (.ob w (l5 Q T)),iD (a:Int),iD (l:Int),sd PC,J,J,J,J,J,J]=U (.next [U (.ob w (l5 Q (J7 Q T a))),iD (a:Int),iD (l:Int),sd PC,J,J,J,J,J,J]):=by
  have R:k9 (gD "Table" 0 "full" (b7 1)) [U (.ob w (l5 Q T)),iD (a:Int),iD (l:Int),sd PC,J,J,J,J,J,J]=U (T.full a):=by walk_at "v";rw[B9 _ j];walk_at "v"
  delta G3 J7;rw[R,g8];by_cases c:T.full a=Uf;rw[b3 c,b3 c];obtain⟨v,B⟩:=Option.ne_none_iff_exists'.mp (P c);rw[B];delta F6;rw[pU (xs:=[.int a]) rfl (uV Q T) rfl (HP K j B)];rfl;rw[b0 c,b0 c];rfl
 have I:d8 4 (eG (k9 (b8 wx (b8 l7 (b7 3) (b7 2)) (fC (.int 0)))) (fC (.int 1)) (dU aG (fC (.int 1)))) [U (.ob w (l5 Q (J7 Q T a))),iD a,iD l,sd PC,J,J,J,J,J,J]=U (.next [U (.ob w (l5 Q (J7 Q T a))),iD a,iD l,sd PC,iD g,J,J,J,J,J]):=by subst s;walk_at "v";rw[B9 _ f];walk_at "v";rw[C];split<;>rfl
 have E:d8 5 (b8 C8 (b7 4) (b8 l7 (b7 3) (b7 2))) [U (.ob w (l5 Q (J7 Q T a))),iD a,iD l,sd PC,iD g,J,J,J,J,J]=U (.next [U (.ob w (l5 Q (J7 Q T a))),iD a,iD l,sd PC,iD g,iD (g*T.c9 (i8 Q) a l),J,J,J,J]):=by subst s;walk_at "v";rw[B9 _ f];walk_at "v";rw[l9 (p.mono a6) ((K.wR a l j f).mono a6)];rfl
 have S:d8 6 (b8 l7 (D3 "Table" 0 "inverse") (b7 2)) [U (.ob w (l5 Q (J7 Q T a))),iD a,iD l,sd PC,iD g,iD (g*T.c9 (i8 Q) a l),J,J,J,J]=U (.next [U (.ob w (l5 Q (Q8 Q T a l g 0))),iD a,iD l,sd PC,iD g,iD (g*T.c9 (i8 Q) a l),sd (il Q.m (T.inv l)),J,J,J]):=by rw[a3a];walk_at "v";rw[B9 _ f,(ub).2.2.1];rfl
 have A:∃b e,A8 (D8 (fC dF)) (A1 7) bA [U (.ob w (l5 Q (Q8 Q T a l g 0))),iD a,iD l,sd PC,iD g,iD (g*T.c9 (i8 Q) a l),sd (il Q.m (T.inv l)),J,J,J]=U (.next [U (.ob w (l5 Q (Q8 Q T a l g 3))),iD a,iD l,sd PC,iD g,iD (g*T.c9 (i8 Q) a l),sd (il Q.m (T.inv l)),b,e,J]):=by subst s;obtain⟨O,N⟩:=uJ K j f (t:=0) a6 o w J;obtain⟨M,Y⟩:=uJ K j f (t:=1) a6 o w O;obtain⟨W,x⟩:=uJ K j f (t:=2) a6 o w M;refine⟨iD 2,W,?_⟩;walk_at "v";rw[K8 rfl N,K8 rfl Y,K8 rfl x];rfl
 obtain⟨b,e,A⟩:=A;have F:I0 9 (j5 (t2 aT (a8 (D3 "Table" 0 "inverse") (a8 (b7 3) d6))) (G5 2) j6 dP) [U (.ob w (l5 Q (Q8 Q T a l g 3))),iD a,iD l,sd PC,iD g,iD (g*T.c9 (i8 Q) a l),sd (il Q.m (T.inv l)),b,e,J]=U (.next [U (.ob w (l5 Q (Q8 Q T a l g 3))),iD a,iD l,sd PC,iD g,iD (g*T.c9 (i8 Q) a l),sd (il Q.m (T.inv l)),b,e,U (.own (rl Q.m λk=>il Q.m λq=>(T.inv k q*(g*T.c9 (i8 Q) a l)-(g*T.c9 (i8 Q) a k)*T.inv l q).fdiv T.size))]):=by
  subst s;walk_at "v";rw[show(Q8 Q T a l g 3).inv=T.inv from rfl,iY];walk_at "v";rw[b3 (Y6 K.m1),C9 λk u=>?_];rfl;obtain⟨r,x,H⟩:=zo K.m1 (λi z=>(K.ib k i u z).mono a6) (λi z=>(K.ib l i f z).mono a6) ((p.mul (K.wR a k j u)).mono a6) ((p.mul (K.wR a l j f)).mono a6) (K.sb.mono a6) K.sp;refine⟨_,r,rfl,?_,H⟩;delta dP;walk_at "v";rw[l9 (p.mono a6) ((K.wR a k j u).mono a6)];walk_at "v";exact x
 have Z:aP 9 (b7 2) (j5 (D8 (b7 6)) j8 j6 bu) [U (.ob w (l5 Q (Q8 Q T a l g 3))),iD a,iD l,sd PC,iD g,iD (g*T.c9 (i8 Q) a l),sd (il Q.m (T.inv l)),b,e,U (.own (rl Q.m λk=>il Q.m λq=>(T.inv k q*(g*T.c9 (i8 Q) a l)-(g*T.c9 (i8 Q) a k)*T.inv l q).fdiv T.size))]=U (.next [U (.ob w (l5 Q (Q8 Q T a l g 3))),iD a,iD l,sd PC,iD g,iD (g*T.c9 (i8 Q) a l),sd (il Q.m (T.inv l)),b,e,U (.own (rl Q.m λk=>il Q.m (bG Q T a l g k)))]):=by
  have L:j5 (D8 (b7 6)) j8 j6 bu [U (.ob w (l5 Q (Q8 Q T a l g 3))),iD a,iD l,sd PC,iD g,iD (g*T.c9 (i8 Q) a l),sd (il Q.m (T.inv l)),b,e,U (.own (rl Q.m λk=>il Q.m λq=>(T.inv k q*(g*T.c9 (i8 Q) a l)-(g*T.c9 (i8 Q) a k)*T.inv l q).fdiv T.size))]=U (.own (rl Q.m λq=>.int (g*T.inv l q))):=by
   walk_at "v";rw[b3 (Y6 K.m1),C9 λq hq=>⟨_,_,rfl,by delta bu;walk_at "v";rw[l9 (p.mono a6) ((K.ib l q f hq).mono a6)],rfl⟩];rfl
  delta aP;rw[L,g8];show(gy (rl Q.m _).length l).bind _=_
  rw[u6,fR f,g8,gr];have:(rl Q.m λk=>if k=l then PV.d (.own (rl Q.m λq=>.int (g*T.inv l q)))else il Q.m λq=>(T.inv k q*(g*T.c9 (i8 Q) a l)-(g*T.c9 (i8 Q) a k)*T.inv l q).fdiv T.size)=rl Q.m λk=>il Q.m (bG Q T a l g k):=Y1 λk _=>by
   by_cases c:k=l
   . rw[b3 c];show il Q.m _=_
     congr 2
     funext q
     delta bG;rw[b3 c]
   . rw[b0 c]
     congr 2
     funext q
     delta bG;rw[b0 c]
  rw[this];rfl
 have X:wD 9 (P8 "Table" 0 "inverse" gE (b7 9)) [U (.ob w (l5 Q (Q8 Q T a l g 3))),iD a,iD l,sd PC,iD g,iD (g*T.c9 (i8 Q) a l),sd (il Q.m (T.inv l)),b,e,U (.own (rl Q.m λk=>il Q.m (bG Q T a l g k)))]=U (.next [U (.ob w (l5 Q {Q8 Q T a l g 3 with inv:=bG Q T a l g})),iD a,iD l,sd PC,iD g,iD (g*T.c9 (i8 Q) a l),sd (il Q.m (T.inv l)),b,e,sd (.list (rl Q.m λk=>il Q.m (bG Q T a l g k)))]):=by walk_at "v";rw[b3 (by delta v9;simp),IH]
 have V:P8 "Table" 0 "size" gE (b7 5) [U (.ob w (l5 Q {Q8 Q T a l g 3 with inv:=bG Q T a l g})),iD a,iD l,sd PC,iD g,iD (g*T.c9 (i8 Q) a l),sd (il Q.m (T.inv l)),b,e,sd (.list (rl Q.m λk=>il Q.m (bG Q T a l g k)))]=U (.next [U (.ob w (l5 Q {Q8 Q T a l g 3 with inv:=bG Q T a l g,size:=g*T.c9 (i8 Q) a l})),iD a,iD l,sd PC,iD g,iD (g*T.c9 (i8 Q) a l),sd (il Q.m (T.inv l)),b,e,sd (.list (rl Q.m λk=>il Q.m (bG Q T a l g k)))]):=by walk_at "v";rw[b3 (by delta v9;simp),Wj]
 have y:aQ "Table" 0 "chosen" (b7 2) (b7 1) [U (.ob w (l5 Q {Q8 Q T a l g 3 with inv:=bG Q T a l g,size:=g*T.c9 (i8 Q) a l})),iD a,iD l,sd PC,iD g,iD (g*T.c9 (i8 Q) a l),sd (il Q.m (T.inv l)),b,e,sd (.list (rl Q.m λk=>il Q.m (bG Q T a l g k)))]=U (.next [U (.ob w (l5 Q (O1 Q T a l g))),iD a,iD l,sd PC,iD g,iD (g*T.c9 (i8 Q) a l),sd (il Q.m (T.inv l)),b,e,sd (.list (rl Q.m λk=>il Q.m (bG Q T a l g k)))]):=by rw[EV rfl rfl rfl rfl f];rfl
 rw[k6,G,j0,k6,I,j0,k6,E,j0,k6,S,j0,k6,A,j0,k6,F,j0,k6,Z,j0,k6,X,j0,k6,V,j0,y];subst D;simp only[g8,jM,K3,L9]
end
end
section
variable{a p:Nat}{v g:Int}
section
variable{Q:G7}{T:Sx.Tb}
theorem Ci(s:U1):l7 (K6 s) (.int 3)=sd (optN s.pl):=rfl
theorem SI(K:V6 Q T){s:U1}{PC:a7}(d:a<Q.n)(e:Q.lim a=U v)(hs:s.pl=J):
  jH [.ob J (l5 Q T),.dat (.int (a:Int)),.dat PC,.dat (K6 s)]=U (.dat .none,[U (.ob J (l5 Q (iK Q T a (-(T.sg a*v))))),J,J,J]):=by
 refine lq rfl λt=>?_;rw[show((aU t 0 [PV.ob J (l5 Q T),.dat (.int a),.dat PC,.dat (K6 s)]).map U++o1 (4-4) J)=[U (.ob (U (t 0)) (l5 Q T)),iD a,sd PC,sd (K6 s)]from rfl]
 generalize b:(U (t 0))=w;have c:G3 (k9 (b8 lj (b8 l7 (b7 3) (fC (.int 3))) (fC .none))) (c8 (F6 (E6 "Table" "flip" 0 E7 (E8 (b7 1) cm))) ll) A4 [U (.ob w (l5 Q T)),iD a,sd PC,sd (K6 s)]=U (.retO (.dat .none) [U (.ob w (l5 Q (iK Q T a (-(T.sg a*v))))),iD a,sd PC,sd (K6 s)]):=by
  have f:k9 (b8 lj (b8 l7 (b7 3) (fC (.int 3))) (fC .none)) [U (.ob w (l5 Q T)),iD a,sd PC,sd (K6 s)]=U Uf:=by walk_at "v";rw[Ci,hs];rfl
  delta G3;rw[f,g8,b3 rfl,k6];delta F6;rw[pU (xs:=[.int a]) rfl (uV Q T) rfl (HP K d e)];rfl
 rw[k6,c];subst b;show(U (Out.retO _ _)).bind _=_;simp only[g8,jM,K3,L9]
theorem Hw(K:V6 Q T){l:Nat}{s:U1}(p:a<Q.n)(o:l<Q.m)(hs:s.pl=U l)(x:T.full a=Uf->Q.lim a≠J)(q:g=if 0<T.c9 (i8 Q) a l then 1 else -1)(e:s.ch<Q.n)(h:s.tp=Uf->Q.lim s.ch=U v):
  jH [.ob J (l5 Q T),.dat (.int (a:Int)),.dat (.list (rl Q.m λk=>.int (T.c9 (i8 Q) a k))),.dat (K6 s)]=U (.dat .none,[U (.ob J (l5 Q (if s.tp=Uf then iK Q (O1 Q T a l g) s.ch (-((O1 Q T a l g).sg s.ch*v))else O1 Q T a l g))),J,J,J]):=by
 refine lq rfl λt=>?_;generalize r:(lF (rl Q.m λk=>.int (T.c9 (i8 Q) a k)))=PC;rw[show((aU t 0 [PV.ob J (l5 Q T),.dat (.int a),.dat PC,.dat (K6 s)]).map U++o1 (4-4) J)=[U (.ob (U (t 0)) (l5 Q T)),iD a,sd PC,sd (K6 s)]from rfl]
 generalize i:(U (t 0))=w;have j:G3 (k9 (b8 lj (b8 l7 (b7 3) (fC (.int 3))) (fC .none))) (c8 (F6 (E6 "Table" "flip" 0 E7 (E8 (b7 1) cm))) ll) A4 [U (.ob w (l5 Q T)),iD a,sd PC,sd (K6 s)]=U (.next [U (.ob w (l5 Q T)),iD a,sd PC,sd (K6 s)]):=by
  have f:k9 (b8 lj (b8 l7 (b7 3) (fC (.int 3))) (fC .none)) [U (.ob w (l5 Q T)),iD a,sd PC,sd (K6 s)]=U U':=by walk_at "v";rw[Ci,hs];rfl
  delta G3;rw[f];rfl
 have u:F6 (E6 "Table" "turn" 0 br (E8 (b7 1) (E8 (b8 l7 (b7 3) (fC (.int 3))) (E8 (b7 2) cm)))) [U (.ob w (l5 Q T)),iD a,sd PC,sd (K6 s)]=U (.next [U (.ob w (l5 Q (O1 Q T a l g))),iD a,sd PC,sd (K6 s)]):=by
  delta F6;have b:E8 (b7 1) (E8 (b8 l7 (b7 3) (fC (.int 3))) (E8 (b7 2) cm)) [U (.ob w (l5 Q T)),iD a,sd PC,sd (K6 s)]=U (([.int a,.int l,PC]).map AV.d):=by walk_at "v";rw[Ci,hs];rfl
  rw[pU rfl (Sw Q T) b (by subst r;exact Vz K p o x q)];rfl
 have y:G3 (k9 (b8 l7 (b7 3) (fC (.int 4)))) (F6 (E6 "Table" "flip" 0 E7 (E8 (b8 l7 (b7 3) (fC (.int 2))) cm))) A4 [U (.ob w (l5 Q (O1 Q T a l g))),iD a,sd PC,sd (K6 s)]=U (.next [U (.ob w (l5 Q (if s.tp=Uf then iK Q (O1 Q T a l g) s.ch (-((O1 Q T a l g).sg s.ch*v))else O1 Q T a l g))),iD a,sd PC,sd (K6 s)]):=by
  have f:k9 (b8 l7 (b7 3) (fC (.int 4))) [U (.ob w (l5 Q (O1 Q T a l g))),iD a,sd PC,sd (K6 s)]=U s.tp:=by rfl
  delta G3;rw[f,g8];by_cases c:s.tp=Uf
  . rw[b3 c,b3 c];delta F6;have b:E8 (b8 l7 (b7 3) (fC (.int 2))) cm [U (.ob w (l5 Q (O1 Q T a l g))),iD a,sd PC,sd (K6 s)]=U (([.int s.ch]).map AV.d):=by rfl
    rw[pU rfl (uV Q _) b (HN e (h c) ((K.lb _ v e (h c)).mono a6) (K.cb _ e))];rfl
  rw[b0 c,b0 c];rfl
 rw[k6,j,j0,k6,u,j0,y];subst i;simp only[g8,jM,K3,L9]
noncomputable def Y4(Q:G7)(T:Sx.Tb)(tp:Nat->Option Q2):Nat->Nat->Q2
 | 0,j=>if T.full j=Uf then(tp j).getD q0 else q0
 |i+1,j=>if j=T.B i then o5 (T.am (i8 Q) i*Q.sc (T.B i)) (T.size*Q.un)else Y4 Q T tp i j
theorem a0f(K:V6 Q T){tp:Nat->Option Q2}(hs:∀j,j<Q.n->Bt 7000 (Q.sc j))(o:Bt 900 Q.un)(hz:Bt 7000 T.size)(x:0<Q.un)(u:∀j,j<Q.n->T.full j=Uf->tp j≠J):
  aH [p7 Q T,.list (rl Q.n λj=>O2 (tp j))]=U (.own (rl Q.n λj=>fr (Y4 Q T tp Q.m j))):=by
 have w:Bt 8000 (T.size*Q.un):=(hz.mul o).mono a6;have a:T.size*Q.un≠0:=by have:=A5 K.sp x;exact x6
 delta aH;walk_at "v";rw[iY];walk_at "v";rw[b3 (Y6 K.n1),C9 (g:=λj=>fr (Y4 Q T tp 0 j)) λj p=>⟨_,if T.full j=Uf then .dat (O2 (tp j))else .dat B7,rfl,by
  delta qx;walk_at "v";split<;>rfl,by
  show PV.d _=fr (if T.full j=Uf then(tp j).getD q0 else q0);by_cases c:T.full j=Uf;rw[b3 c,b3 c];obtain⟨v,s⟩:=Option.ne_none_iff_exists'.mp (u j p c);rw[s];rfl
  . rw[b0 c,b0 c];rfl⟩]
 walk_at "v";rw[qc rfl rfl (vY Q T) rfl,xa K];walk_at "v";rw[iY];walk_at "v";obtain⟨q,h,x3,b,rfl⟩:=bJ (gt:=bE 2 (A7 3 (A7 4 bF))) (G:=kB) (items:=rl Q.m λi=>.tuple [.int (T.B i),.int (T.am (i8 Q) i)])
  (λi l=>∃x3 b,l=[sd (p7 Q T),sd (.list (rl Q.n λj=>O2 (tp j))),U (.own (rl Q.n λj=>fr (Y4 Q T tp i j))),x3,b])
  ⟨J,J,rfl⟩ (by
   rintro i d l r ⟨x3,b,rfl⟩;obtain⟨f,rfl⟩:=vQ r;have e:=K.bn i f;refine⟨[sd (p7 Q T),sd (.list (rl Q.n λj=>O2 (tp j))),U (.own (rl Q.n λj=>fr (Y4 Q T tp i j))),iD (T.B i),iD (T.am (i8 Q) i)],[sd (p7 Q T),sd (.list (rl Q.n λj=>O2 (tp j))),U (.own (rl Q.n λj=>fr (Y4 Q T tp (i+1) j))),iD (T.B i),iD (T.am (i8 Q) i)],rfl,.inl ?_,_,_,rfl⟩
   delta kB;have t:b4 M4 (a8 (b8 C8 (b7 4) (b8 l7 (t5 "Table" "scales" (b7 0)) (b7 3))) (a8 (b8 C8 (t5 "Table" "size" (b7 0)) (t5 "Table" "unit" (b7 0))) d6)) [sd (p7 Q T),sd (.list (rl Q.n λj=>O2 (tp j))),U (.own (rl Q.n λj=>fr (Y4 Q T tp i j))),iD (T.B i),iD (T.am (i8 Q) i)]=sd (fr (o5 (T.am (i8 Q) i*Q.sc (T.B i)) (T.size*Q.un))):=by walk_at "v";rw[B9 _ e];walk_at "v";rw[l9 ((K.ab i f).mono a6) ((hs _ e).mono a6),l9 (hz.mono a6) (o.mono a6)];walk_at "v";rw[eF a w]
   delta aP;rw[t,g8];show(gy (rl Q.n _).length (T.B i)).bind _=_
   rw[u6,fR e,g8,gr];have:(rl Q.n λk=>if k=T.B i then PV.d (.dat (fr (o5 (T.am (i8 Q) i*Q.sc (T.B i)) (T.size*Q.un))))else fr (Y4 Q T tp i k))=rl Q.n λj=>fr (Y4 Q T tp (i+1) j):=Y1 λk _=>by rw[Y4];split<;>rfl
   rw[this];rfl)
 rw[u6]at h;rw[h];walk_at "v"
noncomputable def V2(Q:G7)(T:Sx.Tb)(p:Nat):Tr:=⟨o5 (T.pr 0 p) (T.size*Q.mu 0),o5 (T.pr 1 p) (T.size*Q.mu 1),o5 (T.pr 2 p) (T.size*Q.mu 2)⟩
theorem RE(K:V6 Q T)(d:p<Q.m)(f:∀t,t<3->0<Q.mu t/\Bt 900 (Q.mu t)):hG [p7 Q T,.int (p:Int)]=sd (u4 (V2 Q T p)):=by
 have one:∀t:Nat,t<3->dq [iD t,sd (p7 Q T),iD p,J]=sd (fr (o5 (T.pr t p) (T.size*Q.mu t))):=λt b=>by
  obtain⟨m0,m1⟩:=f t b;have a:T.size*Q.mu t≠0:=by have:=A5 K.sp m0;exact x6
  delta dq;walk_at "v";rw[B9 _ b];walk_at "v";rw[B9 _ d,B9 _ b];walk_at "v";rw[l9 (K.sb.mono a6) (m1.mono a6)];walk_at "v";rw[eF a ((K.sb.mul m1).mono a6)]
 delta hG;walk_at "v";have e:D4 j8 j6 dq [sd (p7 Q T),iD p,J] [.int 0,.int 1,.int 2]=U [fr (o5 (T.pr 0 p) (T.size*Q.mu 0)),fr (o5 (T.pr 1 p) (T.size*Q.mu 1)),fr (o5 (T.pr 2 p) (T.size*Q.mu 2))]:=by
  have:=C9 (gt:=j8) λi c=>⟨_,_,rfl,one i c,rfl⟩;exact this
 rw[e];rfl
theorem yx{n:Nat}(x:a7)(h:n<=1000):cx (.list [x]) (.int (n:Int))=U (.own (rl n λ_=>x)):=by
 show(if (0<=(n:Int)/\(n:Int).toNat<=100000)/\[x].length*(n:Int).toNat<=100000 then U (PV.own (o1 (n:Int).toNat [x]).flatten)else J)=_;rw[b3 ⟨⟨by simp[*],dS⟩,by rw[fj,Ew];lia⟩,fj,YN]
noncomputable def bD(Q:G7)(T:Sx.Tb)(a:Nat):Nat->Nat->Q2
 | 0,j=>if j=a then(Q.sc a,1)else q0
 |i+1,j=>if j=T.B i then o5 (-T.c9 (i8 Q) a i*Q.sc (T.B i)) T.size else bD Q T a i j
theorem Ye(K:V6 Q T)(b:a<Q.n)(hs:∀j,j<Q.n->Bt 7000 (Q.sc j)):iI [p7 Q T,.int (a:Int),.list (rl Q.m λk=>.int (T.c9 (i8 Q) a k))]=U (.own (rl Q.n λj=>fr (bD Q T a Q.m j))):=by
 have s:I0 3 (b8 cx (D6 (a8 (fC B7) d6)) (b4 u9 (a8 (t5 "Table" "full" (b7 0)) d6))) [sd (p7 Q T),iD a,sd (.list (rl Q.m λk=>.int (T.c9 (i8 Q) a k))),J,J,J]=U (.next [sd (p7 Q T),iD a,sd (.list (rl Q.m λk=>.int (T.c9 (i8 Q) a k))),U (.own (rl Q.n λ_=>B7)),J,J]):=by walk_at "v";rw[u6];rw[yx _ K.n1];rfl
 have r:aP 3 (b7 1) (f9 (a8 (b8 l7 (t5 "Table" "scales" (b7 0)) (b7 1)) (a8 (fC (.int 1)) d6))) [sd (p7 Q T),iD a,sd (.list (rl Q.m λk=>.int (T.c9 (i8 Q) a k))),U (.own (rl Q.n λ_=>B7)),J,J]=U (.next [sd (p7 Q T),iD a,sd (.list (rl Q.m λk=>.int (T.c9 (i8 Q) a k))),U (.own (rl Q.n λj=>fr (bD Q T a 0 j))),J,J]):=by
  have c:f9 (a8 (b8 l7 (t5 "Table" "scales" (b7 0)) (b7 1)) (a8 (fC (.int 1)) d6)) [sd (p7 Q T),iD a,sd (.list (rl Q.m λk=>.int (T.c9 (i8 Q) a k))),U (.own (rl Q.n λ_=>B7)),J,J]=sd (fr (Q.sc a,1)):=by walk_at "v";rw[B9 _ b];walk_at "v"
  delta aP;rw[c,g8];show(gy (rl Q.n _).length a).bind _=_
  rw[u6,fR b,g8,gr];have:(rl Q.n λk=>if k=a then PV.d (.dat (fr (Q.sc a,1)))else B7)=rl Q.n λj=>fr (bD Q T a 0 j):=Y1 λk _=>by rw[bD];split<;>rfl
  rw[this];rfl
 obtain⟨p,l,e,g,rfl⟩:=bJ (gt:=bE 2 (A7 4 (A7 5 bF))) (G:=kA) (items:=rl Q.m λi=>.tuple [.int (T.B i),.int (T.c9 (i8 Q) a i)])
  (λi o=>∃e g,o=[sd (p7 Q T),iD a,sd (.list (rl Q.m λk=>.int (T.c9 (i8 Q) a k))),U (.own (rl Q.n λj=>fr (bD Q T a i j))),e,g])
  ⟨J,J,rfl⟩ (by
   rintro i d o q ⟨e,g,rfl⟩;obtain⟨h,rfl⟩:=vQ q;have f:=K.bn i h;refine⟨[sd (p7 Q T),iD a,sd (.list (rl Q.m λk=>.int (T.c9 (i8 Q) a k))),U (.own (rl Q.n λj=>fr (bD Q T a i j))),iD (T.B i),iD (T.c9 (i8 Q) a i)],[sd (p7 Q T),iD a,sd (.list (rl Q.m λk=>.int (T.c9 (i8 Q) a k))),U (.own (rl Q.n λj=>fr (bD Q T a (i+1) j))),iD (T.B i),iD (T.c9 (i8 Q) a i)],rfl,.inl ?_,_,_,rfl⟩
   delta kA;have c:b4 M4 (a8 (b8 C8 (dU aG (b7 5)) (b8 l7 (t5 "Table" "scales" (b7 0)) (b7 4))) (a8 (t5 "Table" "size" (b7 0)) d6)) [sd (p7 Q T),iD a,sd (.list (rl Q.m λk=>.int (T.c9 (i8 Q) a k))),U (.own (rl Q.n λj=>fr (bD Q T a i j))),iD (T.B i),iD (T.c9 (i8 Q) a i)]=sd (fr (o5 (-T.c9 (i8 Q) a i*Q.sc (T.B i)) T.size)):=by walk_at "v";rw[B9 _ f];walk_at "v";rw[l9 (((K.wR a i b h).mono a6).neg) ((hs _ f).mono a6)];walk_at "v";rw[eF (by have:=K.sp;exact x6) (K.sb.mono a6)]
   delta aP;rw[c,g8];show(gy (rl Q.n _).length (T.B i)).bind _=_
   rw[u6,fR f,g8,gr];have:(rl Q.n λk=>if k=T.B i then PV.d (.dat (fr (o5 (-T.c9 (i8 Q) a i*Q.sc (T.B i)) T.size)))else fr (bD Q T a i k))=rl Q.n λj=>fr (bD Q T a (i+1) j):=Y1 λk _=>by rw[bD];split<;>rfl
   rw[this];rfl)
 rw[u6]at l;delta iI w5;rw[b3 (by rfl),show(L7 [p7 Q T,.int a,.list (rl Q.m λk=>.int (T.c9 (i8 Q) a k))]++o1 (6-3) J:Ds)=[sd (p7 Q T),iD a,sd (.list (rl Q.m λk=>.int (T.c9 (i8 Q) a k))),J,J,J]from rfl,k6,s,j0,k6,r,j0];walk_at "v";rw[iY];walk_at "v";rw[l];walk_at "v"
end
end
section
variable{q:Q2}{j:Nat}
def oA(c x:Int):Int:=(o5 c x).1*x
def Vf(l:List Int):Int:=l.foldl oA 1
theorem NM{c x D:Int}(y:0<c)(f:0<x)(i:c∣D)(g:x∣D):0<oA c x/\c∣oA c x/\x∣oA c x/\oA c x∣D:=by
 obtain⟨j,l,s,o⟩:=Q9 f;delta oA;generalize (o5 c x).1=p at *;generalize (o5 c x).2=q at *;obtain⟨r,b⟩:=o;have hq:q≠0:=by lia
 have a:c=p*r:=by
  have:q*(p*r)=q*c:=by rw[b]at s;grind
  exact(xZ hq this).symm
 have r9:0<r:=by
  rcases bW 0 r with h|h
  exact h;have:=qr (N8 j) h;lia
 have d:0<p:=by
  rcases bW 0 p with h|h
  exact h;have:=PM h (N8 r9);lia
 refine⟨A5 d f,⟨q,by omega⟩,⟨p,x9 _ _⟩,?_⟩
 obtain⟨u,e⟩:=i;obtain⟨v,t⟩:=g;have k:p*u=q*v:=by
  have:r*(p*u)=r*(q*v):=by rw[a]at e;rw[b]at t;grind
  exact xZ x6 this
 have n:q∣u:=by
  have:q∣p*u:=⟨v,k⟩;have h:=Int.natAbs_dvd_natAbs.mpr this;rw[aS]at h;refine Int.natAbs_dvd_natAbs.mp (Nat.Coprime.dvd_of_dvd_mul_left ?_ h);show Nat.gcd q.natAbs p.natAbs=1;rw[Nat.gcd_comm];exact l
 obtain⟨w,m⟩:=n;exact⟨w,by rw[e,a,m,b];grind⟩
theorem wQ{D:Int}:∀(l:List Int) (c:Int),0<c->c∣D->(∀x∈l,0<x/\x∣D)->0<l.foldl oA c/\c∣l.foldl oA c/\(∀x∈l,x∣l.foldl oA c)/\l.foldl oA c∣D
 | [],c,h1,h2,_=>⟨h1,ju _,λx k=>absurd k i9,h2⟩
 |x::l,c,h1,h2,h3=>by
  obtain⟨d,h⟩:=h3 x m8;obtain⟨i,j,n,m⟩:=NM h1 d h2 h;obtain⟨e,b,f,g⟩:=wQ l (oA c x) i m λy a=>h3 y (m5 _ a);refine⟨e,jw j b,λy a=>?_,g⟩
  rcases List.mem_cons.mp a with rfl|a
  exact jw n b;exact f y a
theorem rP{m:Nat}{c D:Int}(hD:0<D)(a:0<c)(h:c∣D)(b:Bt m D):Bt m c:=b.of_le (by have:=dJ hD h;omega)
theorem jO{l:List Int}{D:Int}(hD:0<D)(i:Bt 7000 D)(h:∀x∈l,0<x/\x∣D):C6 [.list (l.map .int)]=sd (.int (Vf l)):=by
 have d:∀(k:List Int) c L x,0<c->c∣D->(∀x∈k,0<x/\x∣D)->∃j,V1 (A1 2) Q6 (k.map .int) [sd L,iD c,x]=U (.next [sd L,iD (k.foldl oA c),j]):=by
  intro k;induction k with
  |nil=>exact λc L x _ _ _=>⟨x,rfl⟩
  |cons y k o =>
   intro c L x g f n;obtain⟨b,m⟩:=n y m8;obtain⟨p,s,t,q⟩:=NM g b f m;have a:=rP hD b m i;have e:Q6 [sd L,iD c,iD y]=U (.next [sd L,iD (oA c y),iD y]):=by delta Q6;walk_at "r";rw[eF x6 (a.mono a6)];walk_at "r";rw[l9 ((cO b (rP hD g f i) a).bt.mono a6) (a.mono a6)];rfl
   rw[m6,K8 rfl e,DM];exact o _ L _ p q λz r=>n z (m5 _ r)
 obtain⟨j,e⟩:=d l 1 (.list (l.map .int)) J a6 ⟨D,by simp[*]⟩ h;delta C6;walk_at "r";rw[e];rfl
def wh(q:Q2)(b:Int):Int:=q.1*b.fdiv q.2
theorem pE{b:Int}(e:Bt 7000 q.1)(c:Bt 7000 q.2)(a:q.2≠0)(d:Bt 7000 b):fY [fr q,.int b]=sd (.int (wh q b)):=by delta fY;walk_at "r";rw[C4 a (c.mono a6)];walk_at "r";rw[l9 (e.mono a6) (d.fdiv.mono a6)];rfl
theorem vA{b:Int}(h:0<q.2)(hd:q.2∣b):wh q b*q.2=q.1*b:=by obtain⟨c,a⟩:=hd;delta wh;rw[a,Pn _ x6];grind
structure o7 where
 m:Nat
 n:Nat
 cost:Nat->Tr
 row:Nat->Nat->Q2
 rg:Nat->Q2
 tp:Nat->Option Q2
 fs:Nat->Nat
def H9(x:Tr):Nat->Q2
 | 0=>x.a
 | 1=>x.b
 | 2=>x.c
 |_=>q0
theorem a0s(x:Tr){t:Nat}(h:t<3):l7 (u4 x) (.int (t:Int))=sd (fr (H9 x t)):=by rcases(by lia:t=0\/t=1\/t=2)with rfl|rfl|rfl<;>rfl
def o7.sc(I:o7)(j:Nat):Int:=Vf ((p9 I.m).map λp=>(I.row p j).2)
def o7.af(I:o7)(j:Nat):Nat->List (Nat×Int)
 | 0=>[]
 |i+1=>I.af j i++(if I.row i j≠q0 then[(i,wh (I.row i j) (I.sc j))]else[])
def o7.wq(I:o7)(t j:Nat):Q2:=C3 (H9 (I.cost j) t) (I.sc j,1)
def o7.mu(I:o7)(t:Nat):Int:=Vf ((p9 I.n).map λj=>(I.wq t j).2)
def o7.wt(I:o7)(t j:Nat):Int:=wh (I.wq t j) (I.mu t)
def o7.hq(I:o7)(j:Nat):Option Q2:=(I.tp j).map λq=>C3 q (1,I.sc j)
def o7.nC(I:o7):List Int:=((p9 I.m).map λp=>(I.rg p).2)++(p9 I.n).filterMap λj=>(I.hq j).map (·.2)
def o7.un(I:o7):Int:=Vf I.nC
def o7.lim(I:o7)(j:Nat):Option Int:=(I.hq j).map λq=>wh q I.un
def o7.b(I:o7)(p:Nat):Int:=wh (I.rg p) I.un
def o7.A0(I:o7):G7:=⟨I.m,I.n,I.sc,λj=>I.af j I.m,I.mu,I.wt,I.un,I.lim⟩
def o7.tab(I:o7):Sx.Tb:=⟨I.fs,λ_=>U',1,λk q=>if k=q then 1 else 0,λt k=>I.wt t (I.fs k),I.b⟩
structure q9(I:o7)(D E F:Int):Prop where
 m1:I.m<=1000
 n1:I.n<=1000
 d0:0<D
 e0:0<E
 f0:0<F
 db:Bt 900 D
 eb:Bt 900 E
 fb:Bt 900 F
 row:∀p j,p<I.m->j<I.n->k8 800 (I.row p j)/\(I.row p j).2∣D
 cost:∀t j,t<3->j<I.n->k8 800 (H9 (I.cost j) t)/\(H9 (I.cost j) t).2∣E
 rg:∀p,p<I.m->k8 800 (I.rg p)/\(I.rg p).2∣F
 tp:∀j q,j<I.n->I.tp j=U q->k8 800 q/\∀s,s∣D->q.2*s∣F
 fs:∀k,k<I.m->I.fs k<I.n
section
variable{I:o7}{D E F:Int}
theorem q9.sc(H:q9 I D E F){j:Nat}(f:j<I.n):0<I.sc j/\I.sc j∣D/\Bt 900 (I.sc j)/\∀p,p<I.m->(I.row p j).2∣I.sc j:=by
 have:=wQ (D:=D) ((p9 I.m).map λp=>(I.row p j).2) 1 a6 ⟨D,by simp[*]⟩ λx e=>by obtain⟨p,a,rfl⟩:=mem_map.mp e;have:=H.row p j (mem_range.mp a) f;exact⟨this.1.pos,this.2⟩
 obtain⟨b,g,d,c⟩:=this;exact⟨b,c,rP H.d0 b c H.db,λp a=>d _ (mem_map.mpr ⟨p,mem_range.mpr a,rfl⟩)⟩
theorem QG(H:q9 I D E F)(b:j<I.n):hF [.list (rl I.m λp=>.list (rl I.n λj=>fr (I.row p j))),.int (j:Int)]=sd (.int (I.sc j)):=by
 delta hF;walk_at "r";rw[b3 (Y6 H.m1),C9 λp a=>⟨_,.dat (.int (I.row p j).2),rfl,by delta mm;walk_at "r";rw[B9 _ b];walk_at "r",rfl⟩]
 walk_at "r";have e:(rl I.m λp=>P0 (I.row p j).2)=((p9 I.m).map λp=>(I.row p j).2).map P0:=by rw[cA];rfl
 rw[e,jO H.d0 (H.db.mono a6) λx c=>by obtain⟨p,a,rfl⟩:=mem_map.mp c;have:=H.row p j (mem_range.mp a) b;exact⟨this.1.pos,this.2⟩];rfl
theorem a0d(p q:Q2):pR (fr p) (fr q)=sd (.bool (decide (p≠q))):=Hu p q
theorem NL(H:q9 I D E F)(s:j<I.n):eV [.list (rl I.m λp=>.list (rl I.n λj=>fr (I.row p j))),.int (j:Int),.int (I.sc j)]=U (.own ((I.af j I.m).map λe=>.tuple [.int (e.1:Int),.int e.2])):=by
 obtain⟨_,_,G,_⟩:=H.sc s;have u:∀k,k<=I.m->D4 (G5 2) P4 P7 [sd (.list (rl I.m λp=>.list (rl I.n λj=>fr (I.row p j)))),iD j,iD (I.sc j)] ((rl I.m λi=>.tuple [.int (0+i),.list (rl I.n λj=>fr (I.row i j))]).take k)=U ((I.af j k).map λe=>.tuple [.int e.1,.int e.2]):=by
  have w:∀(q g o f) d,D4 (G5 2) P4 P7 d q=U o->D4 (G5 2) P4 P7 d g=U f->D4 (G5 2) P4 P7 d (q++g)=U (o++f):=by
   intro q;induction q with
   |nil=>intro g o f d a r;cases a;exact r
   |cons x q t =>
    intro g o f d a r;rw[W0];unfold D4 at a ⊢;obtain⟨bs,K,a⟩:=b5 a;obtain⟨b,L,a⟩:=b5 a;rw[K,g8,L,g8];cases b with
    |false =>
     exact t g o f d a r
    |true =>
     obtain⟨y,C,a⟩:=b5 a;obtain⟨l,B,a⟩:=b5 a;cases a;rw[C,g8,t g l f d B r];rfl
  intro k;induction k with
  |zero=>intro _;rfl
  |succ k t =>
   intro O;have h:k<I.m:=by lia
   obtain⟨v,N⟩:=H.row k j h s;have A:(rl I.m λi=>sh [.int (0+i),.list (rl I.n λj=>fr (I.row i j))]).take (k+1)=(rl I.m λi=>sh [.int (0+i),.list (rl I.n λj=>fr (I.row i j))]).take k++[.tuple [.int (0+k),.list (rl I.n λj=>fr (I.row k j))]]:=by rw[List.take_succ,C5,lW h];rfl
   rw[A,o7.af,V9];refine w _ _ _ _ _ (t aL) ?_;unfold D4;simp only[G5,W2,gU,L9,g8];have eq:P4 (L7 [.int (0+k),.list (rl I.n λj=>fr (I.row k j))]++[sd (.list (rl I.m λp=>.list (rl I.n λj=>fr (I.row p j)))),iD j,iD (I.sc j)])=U (decide (I.row k j≠q0)):=by unfold P4;walk_at "r";rw[B9 _ s];walk_at "r";rw[a0d (I.row k j) q0];walk_at "r"
   rw[eq,g8];by_cases c:I.row k j=q0;rw[b0 (by simp[c]),b0 (λz=>z c)];rfl
   . rw[b3 (by simpa using c),b3 c]
     have M:P7 (L7 [.int (0+k),.list (rl I.n λj=>fr (I.row k j))]++[sd (.list (rl I.m λp=>.list (rl I.n λj=>fr (I.row p j)))),iD j,iD (I.sc j)])=sd (.tuple [.int (0+k),.int (wh (I.row k j) (I.sc j))]):=by
      unfold P7;walk_at "r";rw[B9 _ s];walk_at "r";rw[pE (v.bt.mono a6) (v.bb.mono a6) (by have:=v.pos;exact x6) (G.mono a6)];walk_at "r"
     rw[M,g8];simp only[D4,g8,m6,oO,N7,PV.tS]
 have:=u I.m o6;rw[Pd (by rw[u6];simp[*])]at this;unfold eV;walk_at "r";rw[oy,b3 (Y6 H.m1),this];rfl
theorem CP(I:o7)(j:Nat):∀k e,e∈I.af j k->e.1<k/\e.2=wh (I.row e.1 j) (I.sc j)
 | 0,e,h=>absurd h (by simp[o7.af])
 |k+1,e,h=>by
  rcases List.mem_append.mp h with h|h
  have:=CP I j k e h;exact⟨by lia,this.2⟩
  simp_all
theorem CQ(I:o7)(j:Nat):∀k,(I.af j k).length<=k
 | 0=>by simp[o7.af]
 |k+1=>by have:=CQ I j k;rw[o7.af,U6];split<;>simp<;>omega
theorem TK(c d:List (Nat×Int))(r:Nat):D0 (c++d) r=D0 c r+D0 d r:=by
 induction c with
 |nil=>simp[D0]
 |cons e c a=>rw[W0,D0,D0,a];lia
theorem zS(I:o7)(j p:Nat):∀k,D0 (I.af j k) p=if p<k then wh (I.row p j) (I.sc j)else 0
 | 0=>by rfl
 |k+1=>by
  rw[o7.af,TK,zS I j p k];by_cases c:p=k;subst c;have g:(if p<p then wh (I.row p j) (I.sc j)else 0)=0:=b0 j1;have f:(if p<p+1 then wh (I.row p j) (I.sc j)else 0)=wh (I.row p j) (I.sc j):=b3 j1;rw[g,f];by_cases z:I.row p j=q0;have a:(if I.row p j≠q0 then[(p,wh (I.row p j) (I.sc j))]else[])=[]:=b0 (λy=>y z);rw[a,z];show 0+0=0*_;simp[*];have a:(if I.row p j≠q0 then[(p,wh (I.row p j) (I.sc j))]else[])=[(p,wh (I.row p j) (I.sc j))]:=b3 z;rw[a];simp[D0]
  . have e:D0 (if I.row k j≠q0 then[(k,wh (I.row k j) (I.sc j))]else[]) p=0:=by
      split;have d:¬k=p:=λz=>c z.symm;simp[D0,d];rfl
    rw[e];by_cases b:p<k;rw[b3 b,b3 aW];simp[*];rw[b0 b,b0 b6];rfl
end
end
section
variable{ds:Ds}{p q:PF}{r:List (Str×PF)}{g:Str}
theorem pV{f:Str}:∀fs:List (Str×PF),(fs.map (·.1)).contains f=U'->m9 f fs=J
 | [],_=>rfl
 |(g,x)::r,h=>by
  rw[m6,List.contains_cons,OO]at h;rw[m9,b0 (λz=>by lia)];exact pV r h.2
theorem BB{f:Str}{p:PF}:∀fs:List (Str×PF),m9 f fs=J->E5 f p fs=fs++[(f,p)]
 | [],_=>rfl
 |(g,x)::r,h=>by
  rw[m9]at h;split at h;exact nS h;rename_i c;rw[E5,b0 c,BB r h];rfl
theorem V0{f:Str}{a:PV->Option PF}{F:DV}{i:Nat}{w:Option Addr}{fs:List (Str×PF)}{pv:PV}(h:ds[i]? = U (U (.ob w (.ins "Table" fs))))(b:fs.length<900)(c:(fs.map (·.1)).contains f=U')(d:F ds=U pv)(e:a pv=U p):P8 "Table" i f a F ds=U (.next (ds.set i (U (.ob w (.ins "Table" (fs++[(f,p)])))))):=by delta P8 eh;rw[d,g8,e,g8,h];simp only[L9,g8];rw[b3 b,BB fs (pV fs c)]
theorem kY{f:Str}{i:Nat}{w:Option Addr}{fs:List (Str×PF)}{d:a7}(h:ds[i]? = U (U (.ob w (.ins "Table" fs))))(a:m9 f fs=U (.dat d)):D3 "Table" i f ds=U (.dat d):=by delta D3 eh;rw[h];simp only[L9,g8,a,CK]
theorem Hj{f:Str}{F:DV}{i:Nat}{w:Option Addr}{fs:List (Str×PF)}{pv:PV}{l:List a7}(h:ds[i]? = U (U (.ob w (.ins "Table" fs))))(a:m9 f fs=U (.own l))(b:l.length<1000000)(c:F ds=U pv):mN "Table" i f F ds=U (.next (ds.set i (U (.ob w (.ins "Table" (E5 f (.own (l++[pv.d])) fs)))))):=by delta mN eh;rw[c,g8,h];simp only[L9,g8,a,rk];rw[b3 b]
theorem zC{m:Str}{i:Nat}{w:Option Addr}{fs:List (Str×PF)}{c':OD}{r:Ds}{f:List PV->Option (PV×Ds)}{a:Ds->Option (List AV)}{xs:List a7}{pv:PV}(h:ds[i]? = U (U (.ob w (.ins "Table" fs))))(e:(fs.map (·.1)).contains m=U')(c:a ds=U (xs.map AV.d))(b:f (.ob J (.ins "Table" fs)::xs.map .dat)=U (pv,U (.ob J c')::r)):
  E6 "Table" m i f a ds=U (pv,ds.set i (U (.ob w c'))):=by delta E6 eh;rw[h];simp only[L9,g8,pV fs e];refine vp h ?_ b;delta gw;rw[h];simp only[c,g8]
theorem pW{f:Str}:m9 f ((f,p)::r)=U p:=by rw[m9,b3 rfl]
theorem dB{f:Str}(h:(g==f)=U'):m9 f ((g,p)::r)=m9 f r:=by rw[m9,b0 (by simpa using h)]
theorem a2X{f:Str}:E5 f q ((f,p)::r)=(f,q)::r:=by rw[E5,b3 rfl]
theorem put2{f:Str}(h:(g==f)=U'):E5 f q ((g,p)::r)=(g,p)::E5 f q r:=by rw[E5,b0 (by simpa using h)]
section
variable{I:o7}{D E F:Int}
abbrev o7.u3(I:o7):a7:=.list (rl I.n λj=>u4 (I.cost j))
abbrev o7.R8(I:o7):a7:=.list (rl I.m λp=>.list (rl I.n λj=>fr (I.row p j)))
abbrev o7.r4(I:o7):a7:=.list (rl I.m λp=>fr (I.rg p))
abbrev o7.B2(I:o7):a7:=.list (rl I.n λj=>O2 (I.tp j))
abbrev o7.L6(I:o7):a7:=.list (rl I.m λk=>.int (I.fs k:Int))
theorem q9.wq(H:q9 I D E F){t j:Nat}(f:t<3)(c:j<I.n):k8 1700 (I.wq t j)/\(I.wq t j).2∣E:=by
 obtain⟨i,h,d,g⟩:=H.sc c;obtain⟨a,e⟩:=H.cost t j f c;refine⟨ak a (kW d a6),?_⟩;have:=(Q9 (t:=(H9 (I.cost j) t).1*I.sc j) (b:=(H9 (I.cost j) t).2*1) (by have:=a.pos;simp[*])).2.2.2;rw[lH]at this;delta o7.wq C3;rw[lH];exact jw this e
theorem q9.mu(H:q9 I D E F){t:Nat}(e:t<3):0<I.mu t/\I.mu t∣E/\Bt 900 (I.mu t)/\∀j,j<I.n->(I.wq t j).2∣I.mu t:=by
 obtain⟨b,g,f,c⟩:=wQ (D:=E) ((p9 I.n).map λj=>(I.wq t j).2) 1 a6 ⟨E,by simp[*]⟩ λx d=>by obtain⟨p,a,rfl⟩:=mem_map.mp d;have:=H.wq e (mem_range.mp a);exact⟨this.1.pos,this.2⟩
 exact⟨b,c,rP H.e0 b c H.eb,λp a=>f _ (mem_map.mpr ⟨p,mem_range.mpr a,rfl⟩)⟩
theorem q9.wt(H:q9 I D E F){t j:Nat}(a:t<3)(b:j<I.n):Bt 2600 (I.wt t j):=(H.wq a b).1.bt.mul (H.mu a).2.2.1.fdiv
theorem q9.hq(H:q9 I D E F){j:Nat}{q:Q2}(c:j<I.n)(h:I.hq j=U q):k8 1700 q/\q.2∣F:=by
 obtain⟨b,g,d,i⟩:=H.sc c;obtain⟨r,f,rfl⟩:=Option.map_eq_some_iff.mp h;obtain⟨a,e⟩:=H.tp j r c f;have k:k8 900 (1,I.sc j):=⟨b,by simp,⟨by simp⟩,d⟩;refine⟨ak a k,?_⟩;have:=(Q9 (t:=r.1*1) (A5 a.pos b)).2.2.2;exact jw this (e _ g)
theorem q9.NS(H:q9 I D E F):∀x∈I.nC,0<x/\x∣F:=by
 intro x a;rcases List.mem_append.mp a with a|a
 obtain⟨p,b,rfl⟩:=mem_map.mp a;have:=H.rg p (mem_range.mp b);exact⟨this.1.pos,this.2⟩;obtain⟨j,c,h⟩:=List.mem_filterMap.mp a;obtain⟨q,hq,rfl⟩:=Option.map_eq_some_iff.mp h;have:=H.hq (mem_range.mp c) hq;exact⟨this.1.pos,this.2⟩
theorem q9.un(H:q9 I D E F):0<I.un/\I.un∣F/\Bt 900 I.un/\(∀p,p<I.m->(I.rg p).2∣I.un)/\∀j q,j<I.n->I.hq j=U q->q.2∣I.un:=by
 obtain⟨a,f,c,b⟩:=wQ I.nC 1 a6 ⟨F,by simp[*]⟩ H.NS;refine⟨a,b,rP H.f0 a b H.fb,λp d=>c _ (List.mem_append.mpr (.inl (mem_map.mpr ⟨p,mem_range.mpr d,rfl⟩))),λj q e hq=>c _ (List.mem_append.mpr (.inr (List.mem_filterMap.mpr ⟨j,mem_range.mpr e,by rw[hq];rfl⟩)))⟩
theorem q9.lim(H:q9 I D E F){j:Nat}{v:Int}(a:j<I.n)(h:I.lim j=U v):Bt 2600 v:=by obtain⟨q,hq,rfl⟩:=Option.map_eq_some_iff.mp h;exact(H.hq a hq).1.bt.mul H.un.2.2.1.fdiv
theorem q9.b(H:q9 I D E F){p:Nat}(a:p<I.m):Bt 1700 (I.b p):=(H.rg p a).1.bt.mul H.un.2.2.1.fdiv
noncomputable abbrev Va(I:o7):List (Str×PF):=[("scales",.dat (il I.n I.sc)),("columns",.dat (.list (rl I.n λj=>ej (I.af j I.m))))]
noncomputable abbrev lp(I:o7)(u v:List a7):List (Str×PF):=[("scales",.dat (il I.n I.sc)),("columns",.dat (.list (rl I.n λj=>ej (I.af j I.m)))),("multiples",.own u),("weights",.own v)]
theorem ni(H:q9 I D E F){t:Nat}(a:t<3)(w:Option Addr)(u v:List a7)(s:u.length<1000)(r:v.length<1000)(x3 c:Option PV):∃q k,U7 [U (.ob w (.ins "Table" (lp I u v))),sd I.u3,iD (t:Int),x3,c]=U (.next [U (.ob w (.ins "Table" (lp I (u++[.int (I.mu t)]) (v++[il I.n (I.wt t)])))),sd I.u3,iD (t:Int),q,k]):=by
 refine⟨sd (.list (rl I.n λj=>fr (I.wq t j))),iD (I.mu t),?_⟩
 delta U7;have i:d8 3 (j5 (t2 aT (a8 (b7 1) (a8 (D3 "Table" 0 "scales") d6))) (G5 2) j6 N3) [U (.ob w (.ins "Table" (lp I u v))),sd I.u3,iD t,x3,c]=U (.next [U (.ob w (.ins "Table" (lp I u v))),sd I.u3,iD t,sd (.list (rl I.n λj=>fr (I.wq t j))),c]):=by
  have m:D3 "Table" 0 "scales" [U (.ob w (.ins "Table" (lp I u v))),sd I.u3,iD t,x3,c]=sd (il I.n I.sc):=kY rfl pW;have g:j5 (t2 aT (a8 (b7 1) (a8 (D3 "Table" 0 "scales") d6))) (G5 2) j6 N3 [U (.ob w (.ins "Table" (lp I u v))),sd I.u3,iD t,x3,c]=U (.own (rl I.n λj=>fr (I.wq t j))):=by
   walk_at "r";rw[m];walk_at "r";rw[iY];walk_at "r";rw[b3 (Y6 H.n1),C9 λj b=>⟨_,.dat (fr (I.wq t j)),rfl,by delta N3;walk_at "r";rw[a0s _ a];walk_at "r";rw[kP (H.cost t j a b).1 (kW (H.sc b).2.2.1 a6) a6];rfl,rfl⟩];walk_at "r"
  rw[bI,g];rfl
 rw[k6,i,j0];have l:d8 4 (b4 C6 (a8 (j5 (D8 (b7 3)) j8 j6 bx) d6)) [U (.ob w (.ins "Table" (lp I u v))),sd I.u3,iD t,sd (.list (rl I.n λj=>fr (I.wq t j))),c]=U (.next [U (.ob w (.ins "Table" (lp I u v))),sd I.u3,iD t,sd (.list (rl I.n λj=>fr (I.wq t j))),iD (I.mu t)]):=by
  walk_at "r";rw[b3 (Y6 H.n1),C9 λj b=>⟨_,.dat (.int (I.wq t j).2),rfl,by rfl,rfl⟩]
  walk_at "r";have e:(rl I.n λj=>P0 (I.wq t j).2)=((p9 I.n).map λj=>(I.wq t j).2).map P0:=by rw[cA];rfl
  rw[e,jO H.e0 (H.eb.mono a6) λx f=>by obtain⟨p,h,rfl⟩:=mem_map.mp f;have:=H.wq a (mem_range.mp h);exact⟨this.1.pos,this.2⟩];rfl
 rw[k6,l,j0];rw[k6,Hj rfl (by rw[dB i6,dB i6,pW]) (i0 c6 a6) rfl,j0];rw[show E5 "multiples" (.own (u++[(PV.dat (.int (I.mu t))).d])) (lp I u v)=lp I (u++[.int (I.mu t)]) v from by rw[put2 i6,put2 i6,a2X];rfl]
 have o:j5 (D8 (b7 3)) j8 j6 bw [U (.ob w (.ins "Table" (lp I (u++[.int (I.mu t)]) v))),sd I.u3,iD t,sd (.list (rl I.n λj=>fr (I.wq t j))),iD (I.mu t)]=U (.own (rl I.n λj=>.int (I.wt t j))):=by
  walk_at "r";rw[b3 (Y6 H.n1),C9 λj b=>⟨_,.dat (.int (I.wt t j)),rfl,by walk_at "r";exact pE ((H.wq a b).1.bt.mono a6) ((H.wq a b).1.bb.mono a6) (by have:=(H.wq a b).1.pos;exact x6) ((H.mu a).2.2.1.mono a6),rfl⟩];walk_at "r"
 simp only[gH];rw[Hj rfl (by rw[dB i6,dB i6,dB i6,pW]) dS o];rfl
theorem Im(H:q9 I D E F):Q5 [.ob J (.ins "Table" (Va I)),.dat I.u3]=U (.dat .none,[U (.ob J (.ins "Table" (lp I (rl 3 λt=>.int (I.mu t)) (rl 3 λt=>il I.n (I.wt t))))),J]):=by
 refine lq rfl λt=>?_;generalize a:(U (t 0))=w;generalize h:I.u3=C;rw[show((aU t 0 [PV.ob J (.ins "Table" (Va I)),.dat C]).map U++o1 (5-2) J)=[U (.ob (U (t 0)) (.ins "Table" (Va I))),sd C,J,J,J]from rfl,a];rw[k6,V0 rfl (by show 2<900;decide) (by show(["scales","columns"]:List Str).contains _=U';decide +kernel) rfl rfl,j0];rw[k6,V0 rfl (by show 3<900;decide) (by show(["scales","columns","multiples"]:List Str).contains _=U';decide +kernel) rfl rfl,j0];simp only[gH,W0,Z8];subst h;obtain⟨e,f,j⟩:=ni H (t:=0) a6 w [] [] a6 a6 J J;obtain⟨c,i,b⟩:=ni H (t:=1) a6 w [.int (I.mu 0)] [il I.n (I.wt 0)] (by show 1<1000;decide) (by show 1<1000;decide) e f;obtain⟨g,k,d⟩:=ni H (t:=2) a6 w [.int (I.mu 0),.int (I.mu 1)] [il I.n (I.wt 0),il I.n (I.wt 1)] (by show 2<1000;decide) (by show 2<1000;decide) c i;delta A8;rw[show D8 (fC dF) [U (.ob w (.ins "Table" (lp I [] []))),sd I.u3,J,J,J]=U [.int 0,.int 1,.int 2]from rfl];rw[g8];rw[K8 rfl j];rw[K8 rfl b];rw[K8 rfl d];show jM [PV.ob J (.ins "Table" (Va I)),.dat I.u3] t (.next [U (.ob w (.ins "Table" (lp I (rl 3 λt=>.int (I.mu t)) (rl 3 λt=>il I.n (I.wt t))))),sd I.u3,_,g,k])=_;rw[<-a];simp only[jM,K3,L9]
end
end
section
variable{j a k:Nat}
section
variable{I:o7}{D E F:Int}
noncomputable abbrev Cp(I:o7):List (Str×PF):=lp I (rl 3 λt=>.int (I.mu t)) (rl 3 λt=>il I.n (I.wt t))
noncomputable abbrev fsU(I:o7):List (Str×PF):=[("scales",.dat (il I.n I.sc)),("columns",.dat (.list (rl I.n λj=>ej (I.af j I.m)))),("multiples",.own (rl 3 λt=>.int (I.mu t))),("weights",.own (rl 3 λt=>il I.n (I.wt t))),("unit",.dat (.int I.un))]
noncomputable abbrev fsR(I:o7):List (Str×PF):=[("scales",.dat (il I.n I.sc)),("columns",.dat (.list (rl I.n λj=>ej (I.af j I.m)))),("multiples",.own (rl 3 λt=>.int (I.mu t))),("weights",.own (rl 3 λt=>il I.n (I.wt t))),("unit",.dat (.int I.un)),("rights",.own (rl I.m λp=>.int (I.b p)))]
noncomputable abbrev fsM(I:o7):List (Str×PF):=[("scales",.dat (il I.n I.sc)),("columns",.dat (.list (rl I.n λj=>ej (I.af j I.m)))),("multiples",.own (rl 3 λt=>.int (I.mu t))),("weights",.own (rl 3 λt=>il I.n (I.wt t))),("unit",.dat (.int I.un)),("rights",.own (rl I.m λp=>.int (I.b p))),("limits",.dat (.list (rl I.n λj=>ei (I.lim j))))]
theorem ZX(H:q9 I D E F)(a:j<I.n):k8 900 (1,I.sc j):=by obtain⟨c,e,b,d⟩:=H.sc a;exact⟨c,by simp,⟨by simp⟩,b⟩
theorem NK(k:Nat)(h:Nat->Option Q2)(ds:Ds):D4 j8 J2 J6 ds (rl k λj=>O2 (h j))=U (((p9 k).filterMap λj=>(h j).map (·.2)).map .int):=by
 have a:∀l:List Nat,D4 j8 J2 J6 ds (l.map λj=>O2 (h j))=U ((l.filterMap λj=>(h j).map (·.2)).map .int):=by
  intro l;induction l with
  |nil=>rfl
  |cons j l b =>
   rw[m6];unfold D4;simp only[j8,g8];have c:J2 (L7 [O2 (h j)]++ds)=U (h j).isSome:=by walk_at "r";cases h j<;>rfl
   rw[c,g8,xT];cases hj:h j with
   |none =>
    exact b
   |some q =>
    have d:J6 (L7 [O2 (U q)]++ds)=sd (.int q.2):=by rfl
    rw[d,g8,b];rfl
 exact a _
theorem MC(H:q9 I D E F):T4 [.ob J (.ins "Table" (Cp I)),.dat I.r4,.dat I.B2]=U (.dat .none,[U (.ob J (.ins "Table" (fsM I))),J,J]):=by
 refine lq rfl λt=>?_;obtain⟨u1,u2,e,r,o⟩:=H.un;generalize f:(U (t 0))=w;rw[show((aU t 0 [PV.ob J (.ins "Table" (Cp I)),.dat I.r4,.dat I.B2]).map U++o1 (5-3) J)=[U (.ob (U (t 0)) (.ins "Table" (Cp I))),sd I.r4,sd I.B2,J,J]from rfl,f]
 have i:j5 (t2 aT (a8 (b7 2) (a8 (D3 "Table" 0 "scales") d6))) (G5 2) j6 W8 [U (.ob w (.ins "Table" (Cp I))),sd I.r4,sd I.B2,J,J]=U (.own (rl I.n λj=>O2 (I.hq j))):=by
  have c:D3 "Table" 0 "scales" [U (.ob w (.ins "Table" (Cp I))),sd I.r4,sd I.B2,J,J]=sd (il I.n I.sc):=kY rfl pW;walk_at "r";rw[c];walk_at "r";rw[iY];walk_at "r";rw[b3 (Y6 H.n1),C9 λj a=>⟨_,.dat (O2 (I.hq j)),rfl,by
   delta W8;walk_at "r";delta o7.hq;cases hq:I.tp j with
   |none=>rfl
   |some q =>
    simp only[jC,if_false,O2,oT];rw[kP (H.tp j q a hq).1 (ZX H a) a6],rfl⟩]
  walk_at "r"
 rw[k6,bI,i];simp only[rz,j0,PV.JP,Ei,gH];have g:b8 n8 (j5 (D8 (b7 1)) j8 j6 W7) (j5 (D8 (b7 3)) j8 J2 J6) [U (.ob w (.ins "Table" (Cp I))),sd I.r4,sd I.B2,sd (.list (rl I.n λj=>O2 (I.hq j))),J]=U (.own (I.nC.map .int)):=by
  walk_at "r";rw[b3 (Y6 H.m1),C9 λp d=>⟨_,.dat (.int (I.rg p).2),rfl,by delta W7;walk_at "r",rfl⟩]
  walk_at "r";rw[b3 (Y6 H.n1),NK];walk_at "r";rw[NU (by
   rw[u6,o9];have:=List.length_filterMap_le (λj=>(I.hq j).map (·.2)) (p9 I.n);rw[sD]at this;have:=H.m1;have:=H.n1
   lia)]
  delta o7.nC;rw[V9,cA];rfl
 rw[k6,bI,g];simp only[rz,j0,PV.JP,Ei,gH];have k:b4 C6 (a8 (b7 4) d6) [U (.ob w (.ins "Table" (Cp I))),sd I.r4,sd I.B2,sd (.list (rl I.n λj=>O2 (I.hq j))),sd (.list (I.nC.map .int))]=sd (.int I.un):=by walk_at "r";rw[jO H.f0 (H.fb.mono a6) H.NS];rfl
 rw[k6,V0 (p:=.dat (.int I.un)) rfl (by show 4<900;decide) (by show(["scales","columns","multiples","weights"]:List Str).contains _=U';decide +kernel) k rfl,j0]
 simp only[gH,W0,Z8];have h:j5 (D8 (b7 1)) j8 j6 W6 [U (.ob w (.ins "Table" (fsU I))),sd I.r4,sd I.B2,sd (.list (rl I.n λj=>O2 (I.hq j))),sd (.list (I.nC.map .int))]=U (.own (rl I.m λp=>.int (I.b p))):=by
  walk_at "r";rw[b3 (Y6 H.m1),C9 λp d=>⟨_,.dat (.int (I.b p)),rfl,by
   delta W6;have c:D3 "Table" 1 "unit" (L7 [fr (I.rg p)]++[U (.ob w (.ins "Table" (fsU I))),sd I.r4,sd I.B2,sd (.list (rl I.n λj=>O2 (I.hq j))),sd (.list (I.nC.map .int))])=sd (.int I.un):=kY rfl (by rw[dB i6,dB i6,dB i6,dB i6,pW]);simp only[b4,a8];rw[c];walk_at "r";rw[pE ((H.rg p d).1.bt.mono a6) ((H.rg p d).1.bb.mono a6) (by have:=(H.rg p d).1.pos;exact x6) (e.mono a6)]
   rfl,rfl⟩]
  walk_at "r"
 rw[k6,V0 rfl (by show 5<900;decide) (by show(["scales","columns","multiples","weights","unit"]:List Str).contains _=U';decide +kernel) h rfl,j0]
 simp only[gH,W0,Z8];have l:j5 (D8 (b7 3)) j8 j6 W5 [U (.ob w (.ins "Table" (fsR I))),sd I.r4,sd I.B2,sd (.list (rl I.n λj=>O2 (I.hq j))),sd (.list (I.nC.map .int))]=U (.own (rl I.n λj=>ei (I.lim j))):=by
  walk_at "r";rw[b3 (Y6 H.n1),C9 λj a=>⟨_,.dat (ei (I.lim j)),rfl,by
   delta W5;have c:D3 "Table" 1 "unit" (L7 [O2 (I.hq j)]++[U (.ob w (.ins "Table" (fsR I))),sd I.r4,sd I.B2,sd (.list (rl I.n λj=>O2 (I.hq j))),sd (.list (I.nC.map .int))])=sd (.int I.un):=kY rfl (by rw[dB i6,dB i6,dB i6,dB i6,pW])
   simp only[b4,a8,eG];rw[c];walk_at "r";delta o7.lim;cases hq:I.hq j with
   |none=>rfl
   |some q =>
    simp only[jC,if_false,O2,oT,ei];rw[pE ((H.hq a hq).1.bt.mono a6) ((H.hq a hq).1.bb.mono a6) (by have:=(H.hq a hq).1.pos;exact x6) (e.mono a6)],rfl⟩]
  walk_at "r"
 rw[V0 (p:=.dat (.list (rl I.n λj=>ei (I.lim j)))) rfl (by show 6<900;decide) (by show(["scales","columns","multiples","weights","unit","rights"]:List Str).contains _=U';decide +kernel) l rfl,g8];simp only[gH,W0,Z8];rw[<-f];simp only[jM,K3,L9]
theorem VO{i:Nat}{Fk Fv:DV}{ds:Ds}{pv:PV}{l:List a7}(h:ds[i]? = U (U (.own l)))(c:Fv ds=U pv)(b:Fk ds=sd (.int (a:Int)))(e:a<l.length):aP i Fk Fv ds=U (.next (ds.set i (U (.own (l.set a pv.d))))):=by delta aP;rw[c,g8,b,g8,h];simp only[PV.tS,fR e,g8]
theorem EO{m:Nat}(f:m<=1000)(g:k<m):hE [.int (m:Int),.int (k:Int)]=U (.own (rl m λq=>.int (if k=q then 1 else 0))):=by
 have b:I0 2 (b8 cx (D6 (a8 (fC (.int 0)) d6)) (b7 0)) [iD m,iD k,J]=U (.next [iD m,iD k,U (.own (rl m λ_=>.int 0))]):=by walk_at "r";rw[yx _ f];rfl
 have a:=VO (i:=2) (Fk:=b7 1) (Fv:=fC (.int 1)) (ds:=[iD m,iD k,U (.own (rl m λ_=>.int 0))]) rfl rfl rfl (by rw[u6];exact g);rw[gr]at a;delta hE;delta w5;rw[show(L7 [.int m,.int k]++o1 (3-2) J)=[iD m,iD k,J]from rfl]
 rw[k6,b,j0,k6,a,j0];have e:(rl m λq=>if q=k then(PV.dat (P0 1)).d else P0 0)=rl m λq=>.int (if k=q then 1 else 0):=Y1 λq _=>by
  by_cases c:q=k;rw[b3 c,b3 c.symm];rfl;rw[b0 c,b0 λz=>c z.symm]
 rw[e];rfl
end
end
section
variable{I:o7}{D E F:Int}
noncomputable abbrev fsP(I:o7):List (Str×PF):=[("scales",.dat (il I.n I.sc)),("columns",.dat (.list (rl I.n λj=>ej (I.af j I.m)))),("multiples",.own (rl 3 λt=>.int (I.mu t))),("weights",.own (rl 3 λt=>il I.n (I.wt t))),("unit",.dat (.int I.un)),("rights",.own (rl I.m λp=>.int (I.b p))),("limits",.dat (.list (rl I.n λj=>ei (I.lim j)))),("chosen",.own (rl I.m λk=>.int (I.fs k:Int))),("full",.own (rl I.n λ_=>.bool U')),("size",.dat (.int 1)),("inverse",.dat (.list (rl I.m λk=>il I.m λq=>if k=q then 1 else 0)))]
abbrev ZZ:List Str:=["scales","columns","multiples","weights","unit","rights","limits","chosen","full","size","inverse"]
noncomputable abbrev lP(I:o7):List a7:=[il I.n I.sc,.list (rl I.n λj=>ej (I.af j I.m)),.list (rl 3 λt=>.int (I.mu t)),.list (rl 3 λt=>il I.n (I.wt t)),.int I.un,.list (rl I.m λp=>.int (I.b p)),.list (rl I.n λj=>ei (I.lim j)),.list (rl I.m λk=>.int (I.fs k:Int)),.list (rl I.n λ_=>.bool U'),.int 1,.list (rl I.m λk=>il I.m λq=>if k=q then 1 else 0)]
noncomputable def BF(I:o7):a7:=(OD.ins "Table" (fsP I)).d
theorem Zw(I:o7):BF I=yM "Table" ZZ (lP I):=rfl
theorem HI(I:o7):tI "Table" (BF I)=U (ZZ.map .str,lP I):=by rw[Zw];exact Nl _ _ _
theorem IM(I:o7):O6 "Table" "chosen" (BF I)=U (.list (rl I.m λk=>.int (I.fs k:Int))):=by delta O6;rw[HI,g8];simp only[m6,K7];walk_at "f"
theorem ES(I:o7):O6 "Table" "weights" (BF I)=U (.list (rl 3 λt=>il I.n (I.wt t))):=by delta O6;rw[HI,g8];simp only[m6,K7];walk_at "f"
theorem wL(H:q9 I D E F){t:Nat}(b:t<3):B5 [BF I,.int (t:Int)]=U (.own (rl I.m λk=>.int (I.wt t (I.fs k)))):=by
 delta B5;walk_at "v";rw[IM];walk_at "r";rw[b3 (Y6 H.m1),C9 λk a=>⟨_,.dat (.int (I.wt t (I.fs k))),rfl,by delta aJ;walk_at "v";rw[ES];walk_at "r";rw[B9 _ b];walk_at "r";rw[B9 _ (H.fs k a)];walk_at "r",rfl⟩];rfl
theorem Cb(n:Nat)(f:Nat->Int):jn (rl n λk=>.int (f k))=Uf:=by
 have:∀l:List Nat,jn (l.map λk=>P0 (f k))=Uf:=by
  intro l;induction l with
  |nil=>rfl
  |cons x l a=>rw[m6,jn,a];rfl
 exact this _
theorem Xq(H:q9 I D E F):X4 [.ob J (.ins "Table" []),.dat I.u3,.dat I.R8,.dat I.r4,.dat I.B2,.dat I.L6]=U (.dat .none,[U (.ob J (l5 I.A0 I.tab)),J,J,J,J,J]):=by
 refine lq rfl λt=>?_;generalize c:(U (t 0))=w;rw[show((aU t 0 [PV.ob J (.ins "Table" []),.dat I.u3,.dat I.R8,.dat I.r4,.dat I.B2,.dat I.L6]).map U++o1 (6-6) J)=[U (.ob (U (t 0)) (.ins "Table" [])),sd I.u3,sd I.R8,sd I.r4,sd I.B2,sd I.L6]from rfl,c]
 have f:j5 (t2 E2 (a8 (b4 u9 (a8 (b7 1) d6)) d6)) j8 j6 fI [U (.ob w (.ins "Table" [])),sd I.u3,sd I.R8,sd I.r4,sd I.B2,sd I.L6]=U (.own (rl I.n λj=>.int (I.sc j))):=by
  walk_at "r";rw[u6,O3 (by have:=H.n1;lia),fj,vP];walk_at "r";rw[b3 (Y6 H.n1),C9 λj b=>⟨_,.dat (.int (I.sc j)),rfl,by walk_at "r";exact QG H b,rfl⟩];walk_at "r"
 rw[k6,V0 (p:=.dat (il I.n I.sc)) rfl i9 (by rfl) f rfl,j0]
 simp only[gH,Z8];have g:j5 (t2 aR (a8 (D3 "Table" 0 "scales") d6)) (G5 2) j6 fH [U (.ob w (.ins "Table" [("scales",.dat (il I.n I.sc))])),sd I.u3,sd I.R8,sd I.r4,sd I.B2,sd I.L6]=U (.own (rl I.n λj=>ej (I.af j I.m))):=by
  have l:D3 "Table" 0 "scales" [U (.ob w (.ins "Table" [("scales",.dat (il I.n I.sc))])),sd I.u3,sd I.R8,sd I.r4,sd I.B2,sd I.L6]=sd (il I.n I.sc):=kY rfl pW;walk_at "r";rw[l];walk_at "r";rw[oy,b3 (Y6 H.n1),C9 λj b=>⟨_,.own ((I.af j I.m).map λe=>.tuple [.int e.1,.int e.2]),rfl,by walk_at "r";rw[N7];exact NL H b,rfl⟩];walk_at "r"
 rw[k6,V0 rfl (by show 1<900;decide) (by show(["scales"]:List Str).contains _=U';decide +kernel) g rfl,j0];rw[k6,F6,zC (xs:=[I.u3]) rfl (by show(["scales","columns"]:List Str).contains _=U';decide +kernel) rfl (Im H),g8,j0];rw[k6,F6,zC (xs:=[I.r4,I.B2]) rfl (by show(["scales","columns","multiples","weights"]:List Str).contains _=U';decide +kernel) rfl (MC H),g8,j0];rw[k6,V0 rfl (by show 7<900;decide) (by show(["scales","columns","multiples","weights","unit","rights","limits"]:List Str).contains _=U';decide +kernel) rfl rfl,j0];rw[k6,V0 rfl (by show 8<900;decide) (by show(["scales","columns","multiples","weights","unit","rights","limits","chosen"]:List Str).contains _=U';decide +kernel) (by walk_at "r";rw[u6,yx _ H.n1]) rfl,j0];rw[k6,V0 (p:=.dat (.int 1)) rfl (by show 9<900;decide) (by show(["scales","columns","multiples","weights","unit","rights","limits","chosen","full"]:List Str).contains _=U';decide +kernel) rfl rfl,j0]
 rw[k6,V0 (pv:=.own (rl I.m λk=>il I.m λq=>if k=q then 1 else 0)) (p:=.dat (.list (rl I.m λk=>il I.m λq=>if k=q then 1 else 0))) rfl (by show 10<900;decide) (by show(["scales","columns","multiples","weights","unit","rights","limits","chosen","full","size"]:List Str).contains _=U';decide +kernel) (by
  walk_at "r";rw[u6,O3 (by have:=H.m1;lia),fj,vP];walk_at "r";rw[b3 (Y6 H.m1),C9 λk d=>⟨_,.own (rl I.m λq=>.int (if k=q then 1 else 0)),rfl,by delta fG;walk_at "r";rw[u6];exact EO H.m1 d,rfl⟩]
  walk_at "r") rfl,j0]
 simp only[gH,W0,Z8];rw[V0 rfl (by show 11<900;decide) (by show ZZ.contains _=U';decide +kernel) (by
  delta j5;rw[show D8 (fC dF) _=U (rl 3 λi=>.int i)from rfl,g8]
  rw[b3 (Y6 a6),C9 λa h=>⟨_,.own (rl I.m λk=>.int (I.wt a (I.fs k))),rfl,by
   delta fE R3;have e:J8 "Table" "first_prices" B5 (K9 1) (a8 (b7 0) d6) (L7 [.int a]++[U (.ob w (.ins "Table" (fsP I))),sd I.u3,sd I.R8,sd I.r4,sd I.B2,sd I.L6])=U (.own (rl I.m λk=>.int (I.wt a (I.fs k)))):=by exact wL H h
   rw[e,g8];simp only[Cb,L9],rfl⟩]
  rfl) rfl,g8]
 simp only[gH];rw[<-c];simp only[jM,K3];rfl
end
section
variable{e k:Nat}
open Sx (sN pN sm det t4 dot)
theorem LP{x y k:Nat}(d:1<=x)(g:1<=y):∀(n:Nat) (f:Nat->Nat),(∀i,i<n->i≠k->f i<=x)->(k<n->f k<=y)->pN n f<=x ^ n*y
 | 0,f,_,_=>by rw[pN,Nat.pow_zero];simp[*]
 |n+1,f,h1,h2=>by
  by_cases c:n=k
  . have a:pN n f<=x ^ n:=by
      have:∀m,m<=n->pN m f<=x ^ m:=by
       intro m;induction m with
       |zero=>intro _;rw[pN,Nat.pow_zero];simp[*]
       |succ m h =>
        exact λj=>xw (h aL) (h1 m aW b6)
      exact this n o6
    have b:f n<=y:=by rw[c];exact h2 j1
    have e:x ^ n*y<=x ^ (n+1)*y:=lY _ (by rw[Dr];exact Nat.le_mul_of_pos_right _ d);exact i0 (xw a b) e
  . have a:=LP d g n f (λi l=>h1 i aW) λz=>h2 aW
    calc pN n f*f n<=(x ^ n*y)*x:=xw a (h1 n j1 c)
     _=x ^ (n+1)*y:=by rw[Dr,Dz,Dz,sr y x]
theorem vM:∀{n:Nat} {f:Nat->Nat},n<=1000->(∀i,i<n->f i<2 ^ e)->sN n f<2 ^ (e+10):=by
 intro n f a h;have:∀m,m<=n->sN m f<=m*2 ^ e:=by
  intro m;induction m with
  |zero=>intro _;rw[sN];exact cY _
  |succ m c =>
   intro b;have:=h m c6;rw[sN,Nat.succ_mul];lia
 have:=this n o6;have:0<2 ^ e:=Dl a6;have:n*2 ^ e<=1000*2 ^ e:=lY _ a;lia
theorem Bt.sm{e n:Nat}{f:Nat->Int}(a:n<=1000)(h:∀i,i<n->Bt e (f i)):Bt (e+10) (Sx.sm n f):=⟨lU (Sx.KU n f) (vM a λi b=>(h i b).lt)⟩
theorem zc{m c d:Nat}{M:Nat->Nat->Int}(b:∀i,i<m->i≠k->sN m (λr=>(M i r).natAbs)<=2 ^ c)(a:k<m->sN m (λr=>(M k r).natAbs)<=2 ^ d):Bt (c*m+d+1) (det m M):=⟨by
 have h:=i0 (Sx.zR m M) (LP (Dl a6) (Dl a6) m (λi=>sN m λr=>(M i r).natAbs) b a)
 rw[<-Nat.pow_mul,<-Nat.pow_add]at h;exact lU h (ON a6 j1)⟩
theorem Bt.sign{s x y:Int}(hs:s=1\/s = -1)(h:s*x=y)(b:Bt e y):Bt e x:=b.of_le (by rw[<-h];rcases hs with rfl|rfl<;>simp)
structure Small(Q:G7)(b:Nat->Int)(c:Nat):Prop where
 m1:Q.m<=1000
 n1:Q.n<=1000
 c1:c*Q.m<=2000
 c2:c<=1000
 cn:∀j,j<Q.n->sN Q.m (λp=>(D0 (Q.col j) p).natAbs)<=2 ^ c
 cl:∀j,j<Q.n->(Q.col j).length<=1000
 cb:∀j,j<Q.n->∀e∈Q.col j,e.1<Q.m/\Bt 7000 e.2
 wb:∀t j,t<3->j<Q.n->Bt 2600 (Q.wt t j)
 w0:∀t j,3<=t->Q.wt t j=0
 lb:∀j v,j<Q.n->Q.lim j=U v->Bt 2600 v/\0<=v
 bb:∀p,p<Q.m->Bt 2600 (b p)
section
variable{Q:G7}{T:Sx.Tb}{b:Nat->Int}{c:Nat}
theorem a1t{n:Nat}{f:Nat->Nat}{i:Nat}(h:i<n):f i<=sN n f:=by
 induction n with
 |zero=>simp_all
 |succ n a =>
  rw[sN];by_cases z:i=n;rw[z];simp[*];have:=a (lS (pe c6) c6);exact Nat.le_add_right_of_le c6
theorem Small.col(S:Small Q b c){j p:Nat}(d:j<Q.n)(a:p<Q.m):Bt (c+1) (D0 (Q.col j) p):=⟨by
 have:=S.cn j d;have:=a1t (f:=λp=>(D0 (Q.col j) p).natAbs) a;have:2 ^ c<2 ^ (c+1):=ON a6 j1
 lia⟩
theorem Small.det(S:Small Q b c)(L:Sx.G4 (Q.pb b) T){d:Nat}(h:k<Q.m){x:Nat->Int}(e:sN Q.m (λr=>(x r).natAbs)<=2 ^ d):Bt (c*Q.m+d+1) (dot Q.m (T.inv k) x):=by
 obtain⟨s,g,l,f⟩:=L.sg;refine Bt.sign g (f k h x) (zc (k:=k) (λi j a=>?_) λ_=>?_);rw[show(λr=>(t4 (T.M (Q.pb b)) k x i r).natAbs)=λr=>(D0 (Q.col (T.B i)) r).natAbs from by funext r;rw[Sx.S7 _ _ _ a];rfl];exact S.cn _ (L.bn i j);rw[show(λr=>(t4 (T.M (Q.pb b)) k x k r).natAbs)=λr=>(x r).natAbs from by funext r;rw[Sx.X8]];exact e
theorem Small.tab(S:Small Q b c)(K:Sx.Ok (Q.pb b) T):V6 Q T:=by
 have L:=K.u7;have:=S.c1;have:=S.c2;have l:Bt 2001 T.size:=by
  obtain⟨s,x,D,E⟩:=L.sg;have:=zc (d:=0) (k:=Q.m) (λi C _=>S.cn _ (L.bn i C)) (λz=>by simp_all);exact(Bt.sign x D this).mono (xG c6)
 have w:∀k q,k<Q.m->q<Q.m->Bt 2012 (T.inv k q):=λk q e hq=>by
  have h:sN Q.m (λr=>(Sx.unit q r).natAbs)<2 ^ (1+10):=vM S.m1 λi _=>by delta Sx.unit;split<;>decide
  have:=S.det L e (eS h);rw[Sx.qb _ hq]at this;exact this.mono j1
 have c9:∀a k,a<Q.n->k<Q.m->Bt 3001 (T.c9 (i8 Q) a k):=λa k o e=>(S.det L e (S.cn a o)).mono b6
 have rt:∀p,p<Q.m->Bt 3612 (T.rt p):=λp f=>by
  rw[K.rt p f];have x:Bt (2600+(c+1)+10) (Sx.fsum (Q.pb b) T λj=>(Q.pb b).A j p):=Bt.sm S.n1 λj u=>by
   split
   . refine Bt.mul ?_ (S.col u f);show Bt 2600 ((Q.lim j).getD 0)
     cases hl:Q.lim j with
     |none=>exact Bt.mono (m:=1) ⟨by decide⟩ a6
     |some v=>exact(S.lb j v u hl).1
   exact Bt.mono (m:=1) ⟨by decide⟩ (Nat.succ_pos _)
  exact(((S.bb p f).mono (n:=3611) a6).sub (x.mono b6))
 have am:∀k,k<Q.m->Bt 5623 (T.am (i8 Q) k):=λk e=>by exact(S.det L e (eS (vM S.m1 λp f=>(rt p f).lt))).mono j1
 have y:∀t q,t<3->q<Q.m->Bt 4622 (T.pr t q):=λt q g hq=>by rw[L.pr t q hq];exact Bt.sm S.m1 λk e=>((S.wb t _ g (L.bn k e)).mul (w k q e hq)).mono a6
 refine⟨S.m1,S.n1,S.cl,S.cb,λt j g u=>(S.wb t j g u).mono a6,λj v u B=>(S.lb j v u B).1.mono a6,L.bn,λp f=>(rt p f).mono a6,λk q e hq=>(w k q e hq).mono a6,λt q g hq=>(y t q g hq).mono a6,l.mono a6,L.pos,λk e=>(am k e).mono a6,λa k o e=>(c9 a k o e).mono a6,λt a g o=>?_⟩;exact((((S.wb t a g o).mul l).mono (n:=5633) a6).sub ((Bt.sm S.m1 λp f=>(y t p g f).mul (S.col o f)).mono b6)).mono a6
end
end
section
variable{z g v:Int}{a k:Nat}
open Sx (sN pN sm det t4 dot)
section
variable{Q:G7}{T:Sx.Tb}{b:Nat->Int}{c:Nat}
theorem wM{s x:Int}(hs:0<s)(h:s*z=x):s*x.fdiv s=x:=by rw[<-h,Pn _ x6]
theorem ER(S:Small Q b c)(K:Sx.Ok (Q.pb b) T){l:Nat}(n:l<Q.m):Sx.Df (Q.pb b) T a l g (O1 Q T a l g):=by
 have L:=K.u7;refine⟨λk w=>rfl,rfl,λq hq=>?_,λr q s hq d=>?_,λt q hq=>?_⟩;show bG Q T a l g l q=_;delta bG;simp;show T.size*bG Q T a l g r q=_;delta bG;rw[b0 d];obtain⟨z,f⟩:=L.exact n g r q s hq d;exact wM L.pos f
 . show T.size*(if t<3 then ue Q T a l g t else T.pr t) q=_;by_cases h:t<3
   . rw[b3 h];delta ue;obtain⟨z,f⟩:=L.a0G n g t hq;have e:T.pr t q*(g*T.c9 (i8 Q) a l)-(-g*T.rest (i8 Q) t a)*T.inv l q=T.pr t q*(g*T.c9 (Q.pb b) a l)+g*T.rest (Q.pb b) t a*T.inv l q:=by
      show T.pr t q*(g*T.c9 (i8 Q) a l)-(-g*T.rest (i8 Q) t a)*T.inv l q=T.pr t q*(g*T.c9 (i8 Q) a l)+g*T.rest (i8 Q) t a*T.inv l q;lia
     rw[e];exact wM L.pos f
   . rw[b0 h];have i:∀j,(Q.pb b).c t j=0:=λj=>S.w0 t j (lO c6)
     have o:∀q,q<Q.m->T.pr t q=0:=λq hq=>by rw[L.pr t q hq];exact Sx.fK λk _=>by rw[i,aw]
     have v:T.rest (Q.pb b) t a=0:=by
      delta Sx.Tb.rest;rw[i,aw];have:dot (Q.pb b).m (T.pr t) ((Q.pb b).A a)=0:=Sx.fK λp u=>by rw[o p u,aw]
      rw[this];rfl
     rw[o q hq,v];simp
theorem flip_flip(c:Q.lim a=U v):Sx.Kg (Q.pb b) T a (iK Q T a (-(T.sg a*v))):=by
 refine⟨λ_ _=>rfl,rfl,λ_ _ _ _=>rfl,λ_ _ _=>rfl,λj _=>rfl,λp _=>?_⟩;show T.rt p + -(T.sg a*v)*D0 (Q.col a) p=T.rt p-T.sg a*(Sx.uv (Q.pb b) a*D0 (Q.col a) p)
 have:Sx.uv (Q.pb b) a=v:=by delta Sx.uv;show(Q.lim a).getD 0=v;rw[c];rfl
 rw[this,xj,F0];rfl
theorem Q7{a:Nat}{s:U1}:∀{k:Nat},s∈stI Q T a k↔s∈sY Q a\/∃i,i<k/\s∈stK Q T a i
 | 0=>by
  constructor;exact .inl;rintro(h|⟨i,b,_⟩);exact h;exact kn
 |k+1=>by
  rw[stI,gT,Q7];constructor;rintro((h|⟨i,b,h⟩)|h);exact .inl h;exact .inr ⟨i,aW,h⟩;exact .inr ⟨k,by simp[*],h⟩;rintro(h|⟨i,b,h⟩);exact .inl (.inl h);by_cases z:i=k;rw[z]at h;exact .inr h;exact .inl (.inr ⟨i,lS (pe c6) c6,h⟩)
theorem fN{s:U1}:s∈sY Q a ↔ ∃v,Q.lim a=U v/\s=⟨v,1,a,J,U'⟩:=by
 delta sY;cases h:Q.lim a with
 |none=>simp
 |some v=>simp
theorem T5{s:U1}:s∈stK Q T a k↔(0<T.sg a*T.c9 (i8 Q) a k/\s=⟨T.am (i8 Q) k,T.sg a*T.c9 (i8 Q) a k,T.B k,U k,U'⟩)\/(T.sg a*T.c9 (i8 Q) a k<0/\∃v,Q.lim (T.B k)=U v/\s=⟨v*T.size-T.am (i8 Q) k,-(T.sg a*T.c9 (i8 Q) a k),T.B k,U k,Uf⟩):=by
 delta stK;by_cases c:0<T.sg a*T.c9 (i8 Q) a k;rw[b3 c];constructor;exact λh=>.inl ⟨c,by simpa using h⟩;rintro(⟨_,h⟩|⟨h,_⟩);simpa using h;lia
 . rw[b0 c];by_cases b:T.sg a*T.c9 (i8 Q) a k<0
   . rw[b3 b];cases h:Q.lim (T.B k)with
     |none =>
      constructor;intro z;simp at z;rintro(⟨z,_⟩|⟨_,v,z,_⟩);exact kn;exact nE z
     |some v =>
      constructor;intro z;exact .inr ⟨b,v,rfl,by simpa using z⟩;rintro(⟨z,_⟩|⟨_,d,z,e⟩);exact kn;cases z;simpa using e
   . rw[b0 b];constructor;intro z;simp at z
     . rintro(⟨z,_⟩|⟨z,_⟩)<;>exact kn
theorem yi{s:U1}(h:s∈stI Q T a k):0<s.bot:=by
 rcases Q7.mp h with h|⟨i,_,h⟩
 obtain⟨v,_,rfl⟩:=fN.mp h;exact Int.one_pos
 . rcases T5.mp h with ⟨b,rfl⟩|⟨b,v,_,rfl⟩
   exact b
   simp_all
theorem Yx(K:V6 Q T)(f:a<Q.n){s:U1}(h:s∈stI Q T a Q.m):Ig s:=by
 have d:∀x:Int,Bt 7000 x->Bt 7000 (T.sg a*x):=λx g=>by
  rcases Sx.pO T a with ⟨_,e⟩|⟨_,e⟩<;>rw[e]
  exact g.of_le j1;exact g.of_le j1
 refine⟨?_,?_,yi h⟩
 . rcases Q7.mp h with h|⟨i,b,h⟩
   obtain⟨v,c,rfl⟩:=fN.mp h;exact(K.lb a v f c).mono a6
   . rcases T5.mp h with ⟨_,rfl⟩|⟨_,v,c,rfl⟩
     exact(K.ab i b).mono a6;exact((((K.lb _ v (K.bn i b) c).mul K.sb)).sub ((K.ab i b).mono a6)).mono a6
 . rcases Q7.mp h with h|⟨i,b,h⟩
   obtain⟨v,c,rfl⟩:=fN.mp h;exact Bt.mono ⟨by show(1:Int).natAbs<2 ^ 1;decide⟩ a6
   . rcases T5.mp h with ⟨_,rfl⟩|⟨_,v,c,rfl⟩
     exact(d _ (K.wR a i f b)).mono a6;exact(d _ (K.wR a i f b)).neg.mono a6
theorem VE(S:Small Q b c)(K:Sx.Ok (Q.pb b) T)(l:a<Q.n){s:U1}(hs:s∈stI Q T a Q.m)(p:∀r∈stI Q T a Q.m,le s r):Sx.rV (Q.pb b) T a s.top s.bot:=by
 have e:∀r∈stI Q T a Q.m,s.top*r.bot<=r.top*s.bot:=λr o=>by
  have:=p r o;unfold le at this;lia
 refine⟨?_,(yi hs),λv d=>?_,λk f g=>?_,λk v f g d=>?_⟩
 . rcases Q7.mp hs with h|⟨i,j,h⟩
   obtain⟨v,d,rfl⟩:=fN.mp h;exact(S.lb a v l d).2
   . rcases T5.mp h with ⟨_,rfl⟩|⟨_,v,d,rfl⟩
     exact K.lo i j;have:=K.hi i v j d;show 0<=v*T.size-T.am (Q.pb b) i;simp[*]
 . have:=e ⟨v,1,a,J,U'⟩ (Q7.mpr (.inl (fN.mpr ⟨v,d,rfl⟩)))
   simp_all
 exact e ⟨T.am (i8 Q) k,T.sg a*T.c9 (i8 Q) a k,T.B k,U k,U'⟩ (Q7.mpr (.inr ⟨k,f,T5.mpr (.inl ⟨g,rfl⟩)⟩));exact e ⟨v*T.size-T.am (i8 Q) k,-(T.sg a*T.c9 (i8 Q) a k),T.B k,U k,Uf⟩ (Q7.mpr (.inr ⟨k,f,T5.mpr (.inr ⟨g,v,d,rfl⟩)⟩))
noncomputable def nextT(Q:G7)(T:Sx.Tb)(a:Nat)(s:U1):Sx.Tb:=match s.pl with
 |none=>iK Q T a (-(T.sg a*(Q.lim a).getD 0))
 |some l=>if s.tp=Uf then iK Q (O1 Q T a l (if 0<T.c9 (i8 Q) a l then 1 else -1)) s.ch (-((O1 Q T a l (if 0<T.c9 (i8 Q) a l then 1 else -1)).sg s.ch*(Q.lim s.ch).getD 0))else O1 Q T a l (if 0<T.c9 (i8 Q) a l then 1 else -1)
theorem Xb(KT:V6 Q T)(K:Sx.Ok (Q.pb b) T)(d:a<Q.n){s:U1}(hs:s∈stI Q T a Q.m):jH [.ob J (l5 Q T),.dat (.int (a:Int)),.dat (.list (rl Q.m λk=>.int (T.c9 (i8 Q) a k))),.dat (K6 s)]=U (.dat .none,[U (.ob J (l5 Q (nextT Q T a s))),J,J,J]):=by
 rcases Q7.mp hs with h|⟨l,e,h⟩
 . obtain⟨v,c,rfl⟩:=fN.mp h;rw[SI KT d c rfl];delta nextT
   simp_all
 . have f:=λz=>(K.fu a d z).1
   rcases T5.mp h with ⟨g,rfl⟩|⟨g,v,c,rfl⟩
   rw[Hw KT (v:=0) d e rfl f rfl (KT.bn l e) (λz=>by exact nT z)];rfl;rw[Hw KT d e rfl f rfl (KT.bn l e) (λ_=>c)];delta nextT;simp only[c,Option.getD_some]
theorem Mq(S:Small Q b c)(K:Sx.Ok (Q.pb b) T)(E:Sx.G0 (Q.pb b) T a){s:U1}(hs:s∈stI Q T a Q.m)(H:∀r∈stI Q T a Q.m,le s r):Sx.Step (Q.pb b) T a s.top (nextT Q T a s):=by
 have I:=VE S K E.an hs H;rcases Q7.mp hs with h|⟨l,q,h⟩
 obtain⟨v,i,rfl⟩:=fN.mp h;refine .flip i rfl I ?_;delta nextT;simp only[i];exact flip_flip i
 . have N:=K.u7.bn l q;have o:T.full (T.B l)=U':=by
    cases z:T.full (T.B l)with
    |false=>rfl
    |true=>exact absurd rfl ((K.fu _ N z).2 l q)
   have n:=(E.nb K.u7) l q;have:s.pl=U l/\s.ch=T.B l:=by rcases T5.mp h with ⟨_,rfl⟩|⟨_,v,_,rfl⟩<;>exact⟨rfl,rfl⟩
   have:T.c9 (i8 Q) a l≠0:=λz=>by rcases T5.mp h with ⟨f,_⟩|⟨f,_⟩<;>rw[z,J3]at f<;>exact kn
   generalize F:(if 0<T.c9 (i8 Q) a l then 1 else -1)=g
   have C:g=1\/g = -1:=by rw[<-F];split<;>simp
   have D:0<g*T.c9 (Q.pb b) a l:=by
    show 0<g*T.c9 (i8 Q) a l
    rw[<-F];split<;>lia
   have x:s.top=0->∀k,k<(Q.pb b).m->(0<T.sg a*T.c9 (Q.pb b) a k/\T.am (Q.pb b) k=0)\/(T.sg a*T.c9 (Q.pb b) a k<0/\∃v,(Q.pb b).u (T.B k)=U v/\T.am (Q.pb b) k=v*T.size)->T.B l<=T.B k:=by
    intro R k M O;rcases O with ⟨f,G⟩|⟨f,v,i,G⟩
    . have:=H ⟨T.am (i8 Q) k,T.sg a*T.c9 (i8 Q) a k,T.B k,U k,U'⟩ (Q7.mpr (.inr ⟨k,M,T5.mpr (.inl ⟨f,rfl⟩)⟩));unfold le at this;have:T.am (i8 Q) k=0:=G
      simp_all
    . have:=H ⟨v*T.size-T.am (i8 Q) k,-(T.sg a*T.c9 (i8 Q) a k),T.B k,U k,Uf⟩ (Q7.mpr (.inr ⟨k,M,T5.mpr (.inr ⟨f,v,i,rfl⟩)⟩));unfold le at this;have:T.am (i8 Q) k=v*T.size:=G
      simp_all
   have d:∀j,(O1 Q T a l g).full j=if j=a then U' else T.full j:=λj=>by
    show(J7 Q T a).full j=_;delta J7;by_cases z:T.full a=Uf;rw[b3 z];show(if j=a then !T.full a else T.full j)=_;rw[z];rfl;rw[b0 z];by_cases y:j=a;rw[b3 y,y];simpa using z;rw[b0 y]
   have w:∀p,(O1 Q T a l g).rt p=T.rt p+(if T.full a=Uf then Sx.uv (Q.pb b) a*(Q.pb b).A a p else 0):=λp=>by
    show(J7 Q T a).rt p=_;delta J7;by_cases z:T.full a=Uf
    . rw[b3 z,b3 z];show T.rt p + -(T.sg a*(Q.lim a).getD 0)*D0 (Q.col a) p=T.rt p+(Q.lim a).getD 0*D0 (Q.col a) p
      have:T.sg a = -1:=by delta Sx.Tb.sg;rw[b3 z]
      congr 1
      congr 1
      simp[*]
    rw[b0 z,b0 z,so]
   have t:=ER S K (a:=a) (g:=g) q;rcases T5.mp h with ⟨f,rfl⟩|⟨f,v,i,rfl⟩
   . refine .move (tp:=U') q C D I ⟨λ_=>⟨rfl,rfl⟩,λz=>by exact nT z⟩ ?_ x;delta nextT;simp only[jC,if_false];rw[F];refine⟨t,λj P=>?_,λp f=>?_⟩;rw[d];by_cases z:j=a;rw[b3 z,b3 z];rw[b0 z,b0 z];by_cases y:j=T.B l;rw[b3 y,y,o];rw[b0 y];rw[w];simp
   . refine .move (tp:=Uf) q C D I ⟨λz=>(nF z),λ_=>⟨?_,rfl,?_⟩⟩ ?_ x
     . show v*T.size-_=Sx.uv (Q.pb b) (T.B l)*T.size-_
       have:Sx.uv (Q.pb b) (T.B l)=v:=by delta Sx.uv;show(Q.lim (T.B l)).getD 0=v;rw[i];rfl
       rw[this];rfl
     show Q.lim (T.B l)≠J;rw[i];simp
     delta nextT;simp only[L9];rw[F];have L:(O1 Q T a l g).sg (T.B l)=1:=by delta Sx.Tb.sg;rw[d,b0 n,o];rfl
     refine⟨⟨t.b,t.size,t.il,t.ir,t.pr⟩,λj P=>?_,λp f=>?_⟩;show(if j=T.B l then !(O1 Q T a l g).full (T.B l)else(O1 Q T a l g).full j)=_;rw[d,d,b0 n,o];by_cases z:j=a;rw[b0 (by rw[z];exact λy=>n y.symm),b3 z,b3 z];rw[b0 z,b0 z];rfl;show(O1 Q T a l g).rt p + -((O1 Q T a l g).sg (T.B l)*(Q.lim (T.B l)).getD 0)*D0 (Q.col (T.B l)) p=_;have e:(if Uf=Uf then Sx.uv (Q.pb b) (T.B l)*(Q.pb b).A (T.B l) p else 0)=(Q.lim (T.B l)).getD 0*D0 (Q.col (T.B l)) p:=b3 rfl;rw[w,L,e,U2,xj];rfl
end
end
section
variable{ds ds2:Ds}{T:Sx.Tb}
structure Data where
 c:a7
 r:a7
 g:a7
 t:a7
 f:a7
section
variable{Q:G7}{b:Nat->Int}{c:Nat}{tp:Nat->Option Q2}
noncomputable abbrev bC(Z:Data)(Q:G7)(w:Option Addr)(T:Sx.Tb)(r:Option Nat)(x7 x8:Option PV):Ds:=[U (.dat Z.c),U (.dat Z.r),U (.dat Z.g),U (.dat Z.t),U (.dat Z.f),U (.ob w (l5 Q T)),U (.dat (optN r)),x7,x8]
abbrev Iu(Q:G7)(tp:Nat->Option Q2):a7:=.list (rl Q.n λj=>O2 (tp j))
noncomputable abbrev Jo(Q:G7)(tp:Nat->Option Q2)(T:Sx.Tb):a7:=.list (rl Q.n λj=>fr (Y4 Q T tp Q.m j))
noncomputable abbrev Qd(Q:G7)(T:Sx.Tb)(a:Nat):a7:=.list (rl Q.n λj=>fr (bD Q T a Q.m j))
theorem HC{l:List a7}(h:∀d∈l,LF d=Uf):jn l=Uf:=by
 induction l with
 |nil=>rfl
 |cons x l b=>rw[jn,h x m8,b λd a=>h d (m5 _ a)];rfl
theorem Jw(q:Q2):LF (fr q)=Uf:=rfl
theorem Ca{n:Nat}{f:Nat->a7}(h:∀i,LF (f i)=Uf):jn (rl n f)=Uf:=HC λd a=>by obtain⟨i,_,rfl⟩:=mem_map.mp a;exact h i
theorem a0k(s:U1):LF (K6 s)=Uf:=by delta K6;cases s.pl<;>rfl
theorem om{F:DV}{l:List a7}(h:F ds=U (.own l))(a:jn l=Uf):R3 F ds=U (.own l):=by
 delta R3
 simp_all
theorem yN{F:DV}{d:a7}(h:F ds=sd d)(a:LF d=Uf):R3 F ds=sd d:=by
 delta R3
 simp_all
theorem a1X{f:FV}{F:DV}{pv:PV}(h:F ds=U pv):b4 f (a8 F d6) ds=f [pv.d]:=by delta b4 a8 d6;rw[h];rfl
theorem call2{f:FV}{F G:DV}{pv qv:PV}(h:F ds=U pv)(a:G ds=U qv):b4 f (a8 F (a8 G d6)) ds=f [pv.d,qv.d]:=by delta b4 a8 d6;rw[h];rw[a];rfl
theorem HD(r:Option Nat):LF (optN r)=Uf:=by cases r<;>rfl
structure Dg(Q:G7)(b:Nat->Int)(c:Nat)(tp:Nat->Option Q2):Prop where
 s:Small Q b c
 sc:∀j,j<Q.n->Bt 900 (Q.sc j)
 un:0<Q.un/\Bt 900 Q.un
 mu:∀t,t<3->0<Q.mu t/\Bt 900 (Q.mu t)
 tl:∀j,j<Q.n->(tp j=J↔Q.lim j=J)
theorem Dg.mix(H:Dg Q b c tp)(K:Sx.Ok (Q.pb b) T):aH [p7 Q T,Iu Q tp]=U (.own (rl Q.n λj=>fr (Y4 Q T tp Q.m j))) :=
 a0f (H.s.tab K) (λj a=>(H.sc j a).mono a6) H.un.2 (H.s.tab K).sb H.un.1 λj a z y=>(K.fu j a z).1 ((H.tl j a).mp y)
theorem Iw(H:Dg Q b c tp)(K:Sx.Ok (Q.pb b) T){a:Nat}(E:Sx.G0 (Q.pb b) T a)(Z:Data)(A:Z.t=Iu Q tp)(w:Option Addr)(x7 x8:Option PV):
  (stI Q T a Q.m=[]/\W9 (bC Z Q w T (U a) x7 x8)=U (.ret (.dat (.tuple [.str "endless",Jo Q tp T,Qd Q T a])))) \/
  ∃s T' r x L,W9 (bC Z Q w T (U a) x7 x8)=U (.next (bC Z Q w T' r x L))/\Sx.Step (Q.pb b) T a s T'/\(r=J->∀j,j<Q.n->¬Sx.G0 (Q.pb b) T' j)/\∀a',r=U a'->Sx.G0 (Q.pb b) T' a'/\(s=0->∀j,j<a'->¬Sx.G0 (Q.pb b) T' j):=by
 have KT:=H.s.tab K;have h:=E.an;generalize l:(lF (rl Q.m λk=>.int (T.c9 (i8 Q) a k)))=PC
 have S:d8 7 (R3 (J8 "Table" "paces" P6 (K9 5) (a8 (b7 6) d6))) (bC Z Q w T (U a) x7 x8)=U (.next (bC Z Q w T (U a) (sd PC) x8)):=by
  have e:J8 "Table" "paces" P6 (K9 5) (a8 (b7 6) d6) (bC Z Q w T (U a) x7 x8)=U (.own (rl Q.m λk=>.int (T.c9 (i8 Q) a k))):=by exact Sd KT h
  rw[bI,om e (Cb _ _),<-l];rfl
 have C:d8 8 (b4 Z3 (a8 (R3 (b4 gb (a8 (K9 5) (a8 (b7 6) (a8 (b7 7) d6))))) d6)) (bC Z Q w T (U a) (sd PC) x8)=U (.next (bC Z Q w T (U a) (sd PC) (sd (ee ((stI Q T a Q.m).foldl dI J))))):=by
  have e:b4 gb (a8 (K9 5) (a8 (b7 6) (a8 (b7 7) d6))) (bC Z Q w T (U a) (sd PC) x8)=U (.own ((stI Q T a Q.m).map K6)):=by rw[<-l];exact QA KT h
  have p:b4 Z3 (a8 (R3 (b4 gb (a8 (K9 5) (a8 (b7 6) (a8 (b7 7) d6))))) d6) (bC Z Q w T (U a) (sd PC) x8)=sd (ee ((stI Q T a Q.m).foldl dI J)):=by
   rw[a1X (om e (HC λd G=>by obtain⟨s,_,rfl⟩:=mem_map.mp G;exact a0k s))];exact Tt λs f=>Yx KT h f
  rw[bI,p];rfl
 have u:=zP (stI Q T a Q.m) J (λs f=>yi f) (λr z=>by exact nE z)
 delta W9;rw[k6,S,j0,k6,C,j0,k6];cases ho:(stI Q T a Q.m).foldl dI J with
 |none =>
  refine .inl ⟨(u.1 ho).2,?_⟩;have M:R3 (b4 aH (a8 (K9 5) (a8 (b7 3) d6))) (bC Z Q w T (U a) (sd PC) (sd (ee J)))=U (.own (rl Q.n λj=>fr (Y4 Q T tp Q.m j))):=by
   refine om ?_ (Ca λi=>Jw _);show aH [p7 Q T,Z.t]=_;rw[A];exact H.mix K
  have p:R3 (b4 iI (a8 (K9 5) (a8 (b7 6) (a8 (b7 7) d6)))) (bC Z Q w T (U a) (sd PC) (sd (ee J)))=U (.own (rl Q.n λj=>fr (bD Q T a Q.m j))):=by
   refine om ?_ (Ca λi=>Jw _);rw[<-l];exact Ye KT h λj g=>(H.sc j g).mono a6
  delta G3;simp only[p4,f9,a8,M,p];rfl
 |some s =>
  obtain⟨m1,_,B⟩:=u.2 s ho;have f:s∈stI Q T a Q.m:=by
   rcases m1 with z|z
   exact nE z;exact z
  have q:=Mq H.s K E f B;have P:k9 (b8 lj (b7 8) (fC .none)) (bC Z Q w T (U a) (sd PC) (sd (ee (U s))))=U U':=rfl;have N:F6 (jj jH (gw 5 (E8 (b7 6) (E8 (b7 7) (E8 (b7 8) cm))))) (bC Z Q w T (U a) (sd PC) (sd (ee (U s))))=U (.next (bC Z Q w (nextT Q T a s) (U a) (sd PC) (sd (ee (U s))))):=by
   delta F6;rw[vp (xs:=[.int a,PC,K6 s]) rfl rfl (by rw[<-l];exact Xb KT K h f)];rfl
  obtain⟨r,D,F,V⟩:=zB (H.s.tab (q.ok K E)) (decide (s.top=0));refine .inr ⟨s.top,nextT Q T a s,r,sd PC,sd (ee (U s)),?_,q,λy j g z=>?_,λa' o=>?_⟩
  . delta G3;rw[P];simp only[g8,jC,if_false,A4,j0,k6,N];rw[bI,yN ?_ (HD r)];rfl
    . have:(b8 F3 (b8 l7 (b7 8) (fC (.int 0))) (fC (.int 0))) (bC Z Q w (nextT Q T a s) (U a) (sd PC) (sd (ee (U s))))=sd (.bool (decide (s.top=0))):=by rfl
      exact D
  have:=(gn_enter g b).mpr z;rw[F y j g]at this;exact nT this;obtain⟨O,I,R⟩:=V a' o;refine⟨(gn_enter O b).mp I,λv j g z=>?_⟩;have:=(gn_enter (lI c6 c6) b).mpr z;rw[R (by simpa using v) j g]at this;exact nT this
structure WS where
 T:Sx.Tb
 a:Nat
 cf:Bool
 x7:Option PV
 x8:Option PV
structure WS.Ok(Q:G7)(b:Nat->Int)(s:WS):Prop where
 ok:Sx.Ok (Q.pb b) s.T
 en:Sx.G0 (Q.pb b) s.T s.a
 cr:s.cf=Uf->∀j,j<s.a->¬Sx.G0 (Q.pb b) s.T j
inductive Ends(Z:Data)(Q:G7)(b:Nat->Int)(tp:Nat->Option Q2)(w:Option Addr):Out->Prop
 |best {T x7 x8}:Sx.Ok (Q.pb b) T->(∀j,j<Q.n->¬Sx.G0 (Q.pb b) T j)->Ends Z Q b tp w (.next (bC Z Q w T J x7 x8))
 |endless {T:Sx.Tb}{a:Nat}:Sx.Ok (Q.pb b) T->Sx.G0 (Q.pb b) T a->stI Q T a Q.m=[]->Ends Z Q b tp w (.ret (.dat (.tuple [.str "endless",Jo Q tp T,Qd Q T a])))
theorem vz{Fc:DB}{G:DO}{m:Nat}(a:Fc ds=U Uf)(b:G ds=U (.next ds2)):C2 Fc G (m+1) ds=C2 Fc G m ds2:=by
 rw[C2,a]
 simp_all
theorem Kl(H:Dg Q b c tp)(Z:Data)(B:Z.t=Iu Q tp)(w:Option Addr)(g:WS)(A:g.Ok Q b):∃m o,C2 az W9 m (bC Z Q w g.T (U g.a) g.x7 g.x8)=U o/\Ends Z Q b tp w o:=by
 have l:∀T a (x7 x8),az (bC Z Q w T (U a) x7 x8)=U Uf:=λ_ _ _ _=>rfl;have I:∀T (x7 x8),az (bC Z Q w T J x7 x8)=U U':=λ_ _ _=>rfl
 let j:WS->Prop:=λs=>∃m o,C2 az W9 m (bC Z Q w s.T (U s.a) s.x7 s.x8)=U o/\Ends Z Q b tp w o
 refine sO λK=>?_
 have u:∀s:{s:WS // s.Ok Q b/\¬j s},∃x:{s:WS // s.Ok Q b/\¬j s},∃top,Sx.Step (Q.pb b) s.1.T s.1.a top x.1.T/\(x.1.cf=Uf↔top=0):=by
  rintro⟨s,f,k⟩;rcases Iw H f.ok f.en Z B w s.x7 s.x8 with ⟨h,N⟩|⟨top,F,r,n,v,h,q,E,O⟩
  refine absurd ⟨1,_,?_,.endless f.ok f.en h⟩ k;rw[C2,l];simp only[g8,L9,N]
  . have p:=q.ok f.ok f.en;cases r with
    |none =>
     refine absurd ⟨2,_,?_,.best (x7:=n) (x8:=v) p (E rfl)⟩ k;rw[vz (l _ _ _ _) h,C2,I];rfl
    |some y =>
     obtain⟨M,G⟩:=O y rfl;refine⟨⟨⟨F,y,decide (top=0),n,v⟩,⟨p,M,λz=>G (lR z)⟩,λz=>k ?_⟩,top,q,by simp⟩;obtain⟨m,o,L,D⟩:=z;exact⟨m+1,o,by rw[vz (l _ _ _ _) h];exact L,D⟩
 let q0:{s:WS // s.Ok Q b/\¬j s}:=⟨g,A,K⟩
 let d:Nat->{s:WS // s.Ok Q b/\¬j s}:=λi=>Nat.rec q0 (λ_ s=>(u s).choose) i
 have e:=λi=>(u (d i)).choose_spec;exact Sx.SD (C:=⟨λi=>(d i).1.T,λi=>(d i).1.a,λi=>(e i).choose,λi=>(d i).1.cf⟩) ⟨λi=>(d i).2.1.ok,λi=>(d i).2.1.en,λi=>(d i).2.1.cr,λi=>(e i).choose_spec.1,λi=>(e i).choose_spec.2⟩
end
end
section
variable{p j k:Nat}
open Sx (sN pN sm det t4 dot)
structure gZ(I:o7)(c:Nat):Prop where
 fi:∀k p,k<I.m->p<I.m->I.row p (I.fs k)=if p=k then(1,1)else q0
 inj:∀k l,k<I.m->l<I.m->I.fs k=I.fs l->k=l
 r0:∀p,p<I.m->0<=(I.rg p).1
 t0:∀j q,j<I.n->I.tp j=U q->0<=q.1
 ft:∀k q,k<I.m->I.tp (I.fs k)=U q->(I.rg k).1*q.2<=q.1*(I.rg k).2
 cn:∀j,j<I.n->sN I.m (λp=>(wh (I.row p j) (I.sc j)).natAbs)<=2 ^ c
 c1:c*I.m<=2000
 c2:c<=1000
section
variable{I:o7}{D E F:Int}{c:Nat}
theorem QI{n:Nat}{f g:Nat->Nat}(h:∀i,i<n->f i=g i):sN n f=sN n g:=Nat.le_antisymm (Sx.AG λi a=>lJ (h i a)) (Sx.AG λi a=>lJ (h i a).symm)
theorem CO(I:o7)(j:Nat)(a:p<I.m):D0 (I.A0.col j) p=wh (I.row p j) (I.sc j):=by
 show D0 (I.af j I.m) p=_;rw[zS,b3 a]
theorem BZ(H:q9 I D E F){v:Int}(b:j<I.n)(h:I.lim j=U v):∃q,I.tp j=U q/\0<q.2/\v*(q.2*I.sc j)=q.1*I.un:=by
 obtain⟨e,k,l,s⟩:=H.sc b;obtain⟨r,c,rfl⟩:=Option.map_eq_some_iff.mp h;have g:=H.un.2.2.2.2 j r b c;obtain⟨q,hq,rfl⟩:=Option.map_eq_some_iff.mp c;obtain⟨d,o⟩:=H.tp j q b hq;obtain⟨i,p,f,m⟩:=Q9 (A5 d.pos e);refine⟨q,hq,d.pos,?_⟩;have a:wh (C3 q (1,I.sc j)) I.un*(o5 (q.1*1) (q.2*I.sc j)).2=(o5 (q.1*1) (q.2*I.sc j)).1*I.un:=(vA (H.hq b c).1.pos g);generalize wh (C3 q (1,I.sc j)) I.un=v at a ⊢;generalize (o5 (q.1*1) (q.2*I.sc j)).1=x at *;generalize (o5 (q.1*1) (q.2*I.sc j)).2=y at *;have:y*(v*(q.2*I.sc j))=y*(q.1*I.un):=by
  calc y*(v*(q.2*I.sc j))=(v*y)*(q.2*I.sc j):=by grind
   _=(x*I.un)*(q.2*I.sc j):=by rw[a]
   _=(x*(q.2*I.sc j))*I.un:=by grind
   _=(q.1*1*y)*I.un:=by rw[f]
   _=y*(q.1*I.un):=by grind
 exact xZ x6 this
theorem lh:I.tp j=J↔I.lim j=J:=by delta o7.lim o7.hq;simp
theorem wt0(I:o7)(t j:Nat)(h:3<=t):I.wt t j=0:=by
 have:H9 (I.cost j) t=q0:=by
  match t,h with
  |t+3,_=>rfl
 delta o7.wt wh o7.wq;rw[this];have:(C3 q0 (I.sc j,1)).1=0:=by delta C3 o5;rw[aw,Int.zero_fdiv]
 simp_all
theorem o7.side(H:q9 I D E F)(G:gZ I c):Dg I.A0 I.b c I.tp:=by
 refine⟨⟨H.m1,H.n1,G.c1,G.c2,λj a=>?_,λj a=>i0 (CQ I j I.m) H.m1,λj a e k=>?_,λt j d a=>H.wt d a,λt j d=>wt0 I t j d,λj v a g=>⟨H.lim a g,?_⟩,λp f=>(H.b f).mono a6⟩,λj a=>(H.sc a).2.2.1,⟨H.un.1,H.un.2.2.1⟩,λt d=>⟨(H.mu d).1,(H.mu d).2.2.1⟩,λj _=>lh⟩;rw[QI λp f=>by rw[CO I j f]];exact G.cn j a;obtain⟨h,i⟩:=CP I j I.m e k;refine⟨h,?_⟩;rw[i];exact((H.row e.1 j h a).1.bt.mul (H.sc a).2.2.1.fdiv).mono a6
 . obtain⟨q,hq,q2,e⟩:=BZ H a g;have:=de (G.t0 j q a hq) (N8 H.un.1);rcases bW v 0 with z|z
   have:=xX z (A5 q2 (H.sc a).1);lia;exact z
theorem Bo(H:q9 I D E F)(G:gZ I c)(g:k<I.m):I.sc (I.fs k)=1:=by
 obtain⟨e,i,h,d⟩:=wQ (D:=1) ((p9 I.m).map λp=>(I.row p (I.fs k)).2) 1 a6 ⟨1,by rfl⟩ λx b=>by
  obtain⟨p,f,rfl⟩:=mem_map.mp b;rw[G.fi k p g (mem_range.mp f)];split;exact⟨by decide,⟨1,rfl⟩⟩;simp
 have a:I.sc (I.fs k)∣1:=d;have:=dJ a6 a;have:0<I.sc (I.fs k):=e;exact Int.le_antisymm c6 c6
theorem wK(H:q9 I D E F)(G:gZ I c)(b:k<I.m)(a:p<I.m):D0 (I.A0.col (I.fs k)) p=if k=p then 1 else 0:=by
 rw[CO I _ a,Bo H G b,G.fi k p b a];by_cases z:p=k;rw[b3 z,b3 z.symm];rfl;rw[b0 z,b0 λy=>z y.symm];rfl
theorem HS{m:Nat}(x:Nat->Int)(b:k<m):dot m (λq=>if k=q then 1 else 0) x=x k:=by
 delta Sx.dot;rw[Sx.M8 b λi _ a=>by
  show(if k=i then 1 else 0)*x i=0
  rw[b0 (λz=>a z.symm),aw]]
 simp
theorem Nz(H:q9 I D E F)(G:gZ I c):Sx.G4 (I.A0.pb I.b) I.tab:=by
 have l:∀k r,k<I.m->r<I.m->I.tab.M (I.A0.pb I.b) k r=if k=r then 1 else 0:=λk r h j=>wK H G h j;refine⟨H.fs,G.inj,⟨1,.inl rfl,?_,λr j x=>?_⟩,by show 0<1;decide,λp q e hq=>?_,λt q hq=>?_⟩;show 1*1=det I.m (I.tab.M (I.A0.pb I.b));rw[Sx.N0 l,Sx.zb];rfl
 . show 1*dot I.m (λq=>if r=q then 1 else 0) x=det I.m (t4 (I.tab.M (I.A0.pb I.b)) r x)
   have a:r<I.m:=j;rw[HS x a,U2];have n:det I.m (t4 (I.tab.M (I.A0.pb I.b)) r x)=det I.m (t4 (λc r=>if c=r then 1 else 0) r λp=>sm I.m λi=>x i*Sx.unit i p):=Sx.N0 λk p h e=>by
    by_cases z:k=r;rw[z,Sx.X8,Sx.X8,Sx.Kn x e];rw[Sx.S7 _ _ _ z,Sx.S7 _ _ _ z,l k p h e]
   rw[n,Sx.za _ a x Sx.unit I.m,Sx.M8 a λi f g=>?_]
   . have:det I.m (t4 (λc r=>if c=r then 1 else 0) r (Sx.unit r))=1:=by
       refine Eq.trans ?_ (Sx.zb I.m);exact Sx.N0 λk p h e=>by
        by_cases z:k=r;rw[z,Sx.X8];delta Sx.unit;by_cases y:p=r;rw[b3 y,b3 y.symm];rw[b0 y,b0 λw=>y w.symm];rw[Sx.S7 _ _ _ z]
     rw[this,lH]
   . have:det I.m (t4 (λc r=>if c=r then 1 else 0) r (Sx.unit i))=0:=Sx.qe f a g λp e=>by
       rw[Sx.S7 _ _ _ g,Sx.X8];delta Sx.unit;by_cases y:i=p;rw[b3 y,b3 y.symm];rw[b0 y,b0 λw=>y w.symm]
     rw[this,J3]
 show sm I.m (λk=>(if k=q then 1 else 0)*D0 (I.A0.col (I.fs k)) p)=if p=q then 1 else 0;have d:q<I.m:=hq;rw[Sx.M8 d λi _ f=>by rw[b0 f,aw],b3 rfl,U2,wK H G d e];by_cases y:p=q;rw[b3 y,b3 y.symm];rw[b0 y,b0 λw=>y w.symm];show I.wt t (I.fs q)=sm I.m λk=>I.wt t (I.fs k)*(if k=q then 1 else 0);have d:q<I.m:=hq;rw[Sx.M8 d λi _ f=>by simp_all,b3 rfl,lH]
theorem Ts(H:q9 I D E F)(G:gZ I c):Sx.Ok (I.A0.pb I.b) I.tab:=by
 have g:∀k,k<I.m->I.tab.am (I.A0.pb I.b) k=I.b k:=λk a=>HS I.b a;have i:∀k,k<I.m->I.b k*(I.rg k).2=(I.rg k).1*I.un:=λk a=>vA (H.rg k a).1.pos (H.un.2.2.2.1 k a);refine⟨Nz H G,λp o=>?_,λj n z=>(nT z),λk a=>?_,λk v a l=>?_⟩
 . have:Sx.fsum (I.A0.pb I.b) I.tab (λj=>(I.A0.pb I.b).A j p)=0:=Sx.fK λj _=>by rfl
   rw[this];show I.b p=I.b p-0;simp[*]
 . rw[g k a];have h:=i k a;have:=de (G.r0 k a) (N8 H.un.1);have f:=(H.rg k a).1.pos;rcases bW (I.b k) 0 with z|z
   have:=xX z f;lia;exact z
 . rw[g k a];show I.b k<=v*1
   rw[lH];have d:=a;obtain⟨q,hq,q2,e⟩:=BZ H (H.fs k d) l;rw[Bo H G d,lH]at e;have h:=i k d;have f:=(H.rg k d).1.pos;have:=ky (G.ft k q d hq) (N8 H.un.1);generalize (I.rg k).1=x at *;generalize (I.rg k).2=y at *;have:(q.2*y)*I.b k<=(q.2*y)*v:=by
    have:(q.2*y)*I.b k=x*q.2*I.un:=by
     calc (q.2*y)*I.b k=q.2*(I.b k*y):=by grind
      _=q.2*(x*I.un):=by rw[h]
      _=x*q.2*I.un:=by grind
    lia
   exact xY this (A5 q2 f)
inductive Res(I:o7):a7->Prop
 |best {T}:Sx.Ok (I.A0.pb I.b) T->(∀j,j<I.n->¬Sx.G0 (I.A0.pb I.b) T j)->Res I (.tuple [.str "best",Jo I.A0 I.tp T,.list (rl I.m λp=>u4 (V2 I.A0 T p))])
 |endless {T:Sx.Tb}{a:Nat}:Sx.Ok (I.A0.pb I.b) T->Sx.G0 (I.A0.pb I.b) T a->stI I.A0 T a I.m=[]->Res I (.tuple [.str "endless",Jo I.A0 I.tp T,Qd I.A0 T a])
theorem a0j(x:Tr):LF (u4 x)=Uf:=rfl
theorem KR(H:q9 I D E F)(G:gZ I c):∃d,mh [I.u3,I.R8,I.r4,I.B2,I.L6]=sd d/\Res I d:=by
 have S:=o7.side H G;have l:=Ts H G;have y:I0 5 (tP "Table" X4 (a8 (b7 0) (a8 (b7 1) (a8 (b7 2) (a8 (b7 3) (a8 (b7 4) d6)))))) [sd I.u3,sd I.R8,sd I.r4,sd I.B2,sd I.L6,J,J,J,J]=U (.next [sd I.u3,sd I.R8,sd I.r4,sd I.B2,sd I.L6,U (.ob J (l5 I.A0 I.tab)),J,J,J]):=by
  have e:tP "Table" X4 (a8 (b7 0) (a8 (b7 1) (a8 (b7 2) (a8 (b7 3) (a8 (b7 4) d6))))) [sd I.u3,sd I.R8,sd I.r4,sd I.B2,sd I.L6,J,J,J,J]=U (.ob J (l5 I.A0 I.tab)):=by
   delta tP;rw[show a8 (b7 0) (a8 (b7 1) (a8 (b7 2) (a8 (b7 3) (a8 (b7 4) d6)))) [sd I.u3,sd I.R8,sd I.r4,sd I.B2,sd I.L6,J,J,J,J]=U [I.u3,I.R8,I.r4,I.B2,I.L6]from rfl,g8];rw[show([I.u3,I.R8,I.r4,I.B2,I.L6]).map PV.dat=[.dat I.u3,.dat I.R8,.dat I.r4,.dat I.B2,.dat I.L6]from rfl,Xq H];rfl
  rw[yS,e];rfl
 generalize k:(⟨I.u3,I.R8,I.r4,I.B2,I.L6⟩:Data)=Z;obtain⟨r,q,K,N⟩:=zB (S.s.tab l) U';have A:d8 6 (R3 (b4 fB (a8 (K9 5) (a8 (fC (.bool U')) d6)))) [sd I.u3,sd I.R8,sd I.r4,sd I.B2,sd I.L6,U (.ob J (l5 I.A0 I.tab)),J,J,J]=U (.next (bC Z I.A0 J I.tab r J J)):=by
  rw[bI,yN ?_ (HD r),<-k];rfl;rw[call2 rfl rfl];exact q
 have wh:∃m o,C2 az W9 m (bC Z I.A0 J I.tab r J J)=U o/\Ends Z I.A0 I.b I.tp J o:=by
  cases r with
  |none =>
   refine⟨1,_,?_,.best (x7:=J) (x8:=J) l λj t z=>?_⟩;rfl;have:=(gn_enter t I.b).mpr z;rw[K rfl j t]at this;exact nT this
  |some a =>
   obtain⟨M,u,_⟩:=N a rfl;exact Kl S Z (by rw[<-k];rfl) J ⟨I.tab,a,U',J,J⟩ ⟨l,(gn_enter M I.b).mp u,λz=>by exact nT z⟩
 obtain⟨m,o,w,L⟩:=wh;delta mh w5;rw[show(L7 [I.u3,I.R8,I.r4,I.B2,I.L6]++o1 (9-5) J)=[sd I.u3,sd I.R8,sd I.r4,sd I.B2,sd I.L6,J,J,J,J]from rfl]
 rw[k6,y,j0,k6,A,j0,k6,(JI w)];cases L with
 |endless f k2 v=>exact⟨_,rfl,.endless f k2 v⟩
 | @best T g h f k2 =>
  refine⟨_,?_,.best f k2⟩;have C:R3 (b4 aH (a8 (K9 5) (a8 (b7 3) d6))) (bC Z I.A0 J T J g h)=U (.own (rl I.n λj=>fr (Y4 I.A0 T I.tp I.m j))):=by
   refine om ?_ (Ca λi=>Jw _);rw[call2 rfl (by rw[<-k];rfl)];exact S.mix f
  have q:j5 (t2 E2 (a8 (b4 u9 (a8 (b7 1) d6)) d6)) j8 j6 qw (bC Z I.A0 J T J g h)=U (.own (rl I.m λp=>u4 (V2 I.A0 T p))):=by
   have B:t2 E2 (a8 (b4 u9 (a8 (b7 1) d6)) d6) (bC Z I.A0 J T J g h)=U (rl I.m λi=>.int i):=by rw[<-k];walk_at "r";rw[u6,O3 (by have:=H.m1;lia),fj,vP]
   delta j5;rw[B,g8,b3 (Y6 H.m1),C9 λp x=>⟨_,.dat (u4 (V2 I.A0 T p)),rfl,by refine yN ?_ (a0j _);exact RE (S.s.tab f) x S.mu,rfl⟩];rfl
  rw[j0];simp only[p4,f9,a8,C,q];rfl
end
end
section
variable{q p:Q2}{a z k:Rat}
def a2h(k:Nat)(l:List (Option Q2)):Prop:=∀t,U t∈l->k8 k t
abbrev gi:Tr:=⟨q0,q0,q0⟩
theorem KA{m:Nat}(h:1<=m):cu m gi:=⟨ot h,ot h,ot h⟩
def a3m(k:Nat)(l:List Tr):Prop:=∀x∈l,cu k x
def smI(costs:List Tr)(mix:List Q2):Nat->Tr
 | 0=>gi
 |i+1=>pS (smI costs mix i) (costs.getD i gi) (mix.getD i q0)
noncomputable def yw(x:Tr)(q:Q2):Tr:=⟨C3 x.a q,C3 x.b q,C3 x.c q⟩
noncomputable def Dc(x y:Tr):Tr:=⟨Z5 x.a y.a,Z5 x.b y.b,Z5 x.c y.c⟩
theorem Xd{m n:Nat}{x:Tr}(d:cu m x)(hq:k8 n q):cu (m+n) (yw x q):=⟨ak d.a hq,ak d.b hq,ak d.c hq⟩
theorem XM{m n:Nat}{x y:Tr}(d:cu m x)(e:cu n y):cu (m+n+1) (Dc x y):=⟨rf d.a e.a,rf d.b e.b,rf d.c e.c⟩
theorem a1q(x:Tr):Sh 2 (u4 x):=KW λy a=>by simp at a;rcases a with rfl|rfl|rfl<;>exact a1r _
theorem ND{a b c d:Int}(j:0<b)(hd:0<d):((a:Rat)/(b:Rat)<(c:Rat)/(d:Rat))↔a*d<c*b:=by
 have e:(0:Rat)<b:=by exact_mod_cast j
 have f:(0:Rat)<d:=by exact_mod_cast hd
 have i:(a:Rat)/b*(b*d)=a*d:=by grind
 have g:(c:Rat)/d*(b*d)=c*b:=by grind
 constructor
 . intro h;have:=PH h (Z2 e f);rw[i,g]at this
   exact_mod_cast this
 . intro h;have k:(a:Rat)*d<c*b:=by exact_mod_cast h
   refine Rat.lt_of_mul_lt_mul_right ?_ (oJ (Z2 e f));rw[i,g];exact k
theorem qV(a:0<p.2)(hq:0<q.2):kM p q=decide (val p<val q):=by delta kM val;rw[decide_eq_decide];exact(ND a hq).symm
theorem X7:val (0,1)=0:=by rw[val_one];rfl
theorem Xc(b:0<p.2):p.1<0↔val p<0:=by
 have:=ND (a:=p.1) (c:=0) (d:=1) b a6;have e:((0:Int):Rat)/((1:Int))=0:=by rw[show((0:Rat))=0 from rfl];grind
 rw[e]at this;delta val
 simp_all
theorem BS(a:0<p.2):0<=p.1↔0<=val p:=by
 have:=Xc a;constructor
 . exact λh=>Rat.not_lt.mp λz=>by lia
 exact λh=>Int.not_lt.mp λz=>Rat.not_lt.mpr h (this.mp z)
def TB(row mix:List Q2):Nat->Rat
 | 0=>0
 |i+1=>TB row mix i+val (row.getD i q0)*val (mix.getD i q0)
noncomputable def YJ(costs:List Tr)(rows:List (List Q2))(prices:List Tr)(j:Nat):Nat->Tr
 | 0=>costs.getD j gi
 |i+1=>pS (YJ costs rows prices j i) (prices.getD i gi) (a2Z ((rows.getD i []).getD j q0))
abbrev rtL(costs:List Tr)(rows:List (List Q2))(prices:List Tr):List Tr:=(p9 costs.length).map λj=>YJ costs rows prices j rows.length
abbrev m1:Q2:=(-1,1)
structure a3k(n m kr kp B:Nat)(costs:List Tr)(rows:List (List Q2))(prices:List Tr):Prop where
 nl:n<=1000
 ml:m<=1000
 cl:costs.length=n
 pl:prices.length=m
 rl:rows.length=m
 rw:∀r∈rows,r.length=n/\a1c kr r
 pf:a3m kp prices
 bf:∀j,j<n->∀i,i<=m->cu B (YJ costs rows prices j i)
 bd:B+(kp+1+kr)<=7998
noncomputable def flI(rests:List Tr)(tp:List (Option Q2))(init:Tr):Nat->Tr
 | 0=>init
 |j+1=>if a0M (rests.getD j gi) gi=Uf then pS (flI rests tp init j) (rests.getD j gi) ((tp.getD j J).getD q0)else flI rests tp init j
structure a3J(n m kr kp kg kt B C:Nat)(costs:List Tr)(rows:List (List Q2))(rights:List Q2)(tp:List (Option Q2))(prices:List Tr):Prop where
 r:a3k n m kr kp B costs rows prices
 gl:rights.length=m
 tl:tp.length=n
 gf:a1c kg rights
 tf:a2h kt tp
 cf:∀j,j<=n->cu C (flI (rtL costs rows prices) tp (smI prices rights rights.length) j)
 b1:1+(kp+kg+1)*m+(kp+kg)<=7998
 b2:C+(B+kt)<=7998
def d5(f:Nat->Rat):Nat->Rat
 | 0=>0
 |n+1=>d5 f n+f n
theorem j4{f g:Nat->Rat}:∀n,(∀i,i<n->f i=g i)->d5 f n=d5 g n
 | 0,_=>rfl
 |n+1,h=>by
  show d5 f n+f n=d5 g n+g n;rw[j4 n λi a=>h i aW,h n j1]
theorem ia(f g:Nat->Rat):∀n,d5 (λi=>f i-g i) n=d5 f n-d5 g n
 | 0=>by show 0=0-0;grind
 |n+1=>by
  show d5 (λi=>f i-g i) n+(f n-g n)=(d5 f n+f n)-(d5 g n+g n);rw[ia f g n];grind
theorem K0(f:Nat->Rat)(c:Rat):∀n,d5 f n*c=d5 (λi=>f i*c) n
 | 0=>by show 0*c=0;grind
 |n+1=>by
  show(d5 f n+f n)*c=d5 (λi=>f i*c) n+f n*c;rw[<-K0 f c n];grind
theorem Y0(f g:Nat->Rat):∀n,d5 (λi=>f i+g i) n=d5 f n+d5 g n
 | 0=>by show 0=0+0;grind
 |n+1=>by
  show d5 (λi=>f i+g i) n+(f n+g n)=(d5 f n+f n)+(d5 g n+g n);rw[Y0 f g n];grind
theorem fJ:∀n,d5 (λ_=>0) n=0
 | 0=>rfl
 |n+1=>by show d5 (λ_=>0) n+0=0;rw[fJ n];grind
theorem qX(f:Nat->Nat->Rat)(m:Nat):∀n,d5 (λj=>d5 (λi=>f i j) m) n=d5 (λi=>d5 (λj=>f i j) n) m
 | 0=>by
  show 0=d5 (λi=>0) m;rw[fJ]
 |n+1=>by
  show d5 (λj=>d5 (λi=>f i j) m) n+d5 (λi=>f i n) m=d5 (λi=>d5 (λj=>f i j) n+f i n) m;rw[qX f m n,Y0]
structure Part(π:Tr->Q2):Prop where
 more:∀x y q,π (pS x y q)=Z5 (π x) (C3 (π y) q)
 ok:∀k x,cu k x->k8 k (π x)
 a0a:π gi=q0
def NN(a b c:Rat):Prop:=0<a\/(a=0/\(0<b\/(b=0/\0<=c)))
theorem NN.add{b c x y:Rat}(h:NN a b c)(k:NN x y z):NN (a+x) (b+y) (c+z):=by unfold NN at *;grind
theorem NN.zero:NN 0 0 0:=.inr ⟨rfl,.inr ⟨rfl,Rat.le_refl⟩⟩
theorem NN.mul{b c:Rat}(h:NN a b c)(d:0<=k):NN (a*k) (b*k) (c*k):=by
 by_cases z:k=0
 . subst z;have e:∀x:Rat,x*0=0:=λx=>by grind
   rw[e,e,e];exact NN.zero
 . have p:0<k:=by grind
   rcases h with h|⟨rfl,h|⟨rfl,h⟩⟩
   exact .inl (Z2 h p);exact .inr ⟨by grind,.inl (Z2 h p)⟩;exact .inr ⟨by grind,.inr ⟨by grind,DH h d⟩⟩
theorem NN.sum{fa b a:Nat->Rat}:∀n,(∀j,j<n->NN (fa j) (b j) (a j))->NN (d5 fa n) (d5 b n) (d5 a n)
 | 0,_=>NN.zero
 |n+1,h=>(NN.sum n λj c=>h j aW).add (h n j1)
theorem tQ(row mix:List Q2):∀n,TB row mix n=d5 (λj=>val (row.getD j q0)*val (mix.getD j q0)) n
 | 0=>rfl
 |n+1=>by
  show TB row mix n+_=d5 _ n+_;rw[tQ row mix n]
end
section
variable{q:Q2}{k j p:Nat}
open Sx (sm)
theorem Bc{b:Int}(h:0<q.2)(hd:q.2∣b):((wh q b:Int):Rat)=val q*(b:Rat):=by
 have:((wh q b):Rat)*q.2=q.1*b:=by exact_mod_cast (vA h hd)
 have:=dE (show q.2≠0 by exact x6);delta val;grind
theorem iB(f:Nat->Int):∀n,((sm n f:Int):Rat)=d5 (λi=>((f i:Int):Rat)) n
 | 0=>rfl
 |n+1=>by
  show((sm n f+f n:Int))=d5 _ n+_;rw[Rat.intCast_add,iB f n]
section
variable{P:Sx.Pb}{T:Sx.Tb}
noncomputable def pick(P:Sx.Pb)(T:Sx.Tb)(g:Nat->Int)(j:Nat):Int:=sm P.m λk=>if T.B k=j then g k else 0
theorem BG(L:Sx.G4 P T)(g f:Nat->Int):sm P.n (λj=>f j*pick P T g j)=sm P.m λk=>g k*f (T.B k):=by
 have e:sm P.n (λj=>f j*pick P T g j)=sm P.n λj=>sm P.m λk=>if T.B k=j then g k*f j else 0:=Sx.j3 λj _=>by delta pick;rw[<-Sx.z0];exact Sx.j3 λk _=>by split<;>grind
 rw[e,Sx.nN];exact Sx.j3 λk b=>by rw[Sx.M8 (L.bn k b) λi _ a=>b0 λz=>a z.symm,b3 rfl]
theorem yp(L:Sx.G4 P T)(g:Nat->Int)(b:k<P.m):pick P T g (T.B k)=g k:=by delta pick;rw[Sx.M8 b λi c a=>b0 λz=>a (L.inj i k c b z),b3 rfl]
theorem tm(g:Nat->Int)(h:∀k,k<P.m->T.B k≠j):pick P T g j=0:=Sx.fK λk a=>b0 (h k a)
def yv(P:Sx.Pb)(T:Sx.Tb)(j:Nat):Int:=(if T.full j=Uf then T.size*Sx.uv P j else 0)+pick P T (T.am P) j
theorem Uo(L:Sx.G4 P T)(f:Nat->Int):sm P.n (λj=>f j*yv P T j)=T.size*Sx.fsum P T f+sm P.m λk=>T.am P k*f (T.B k):=by
 have e:sm P.n (λj=>f j*yv P T j)=sm P.n λj=>(T.size*(if T.full j=Uf then Sx.uv P j*f j else 0))+f j*pick P T (T.am P) j:=Sx.j3 λj _=>by delta yv;split<;>grind
 rw[e,Sx.gp,Sx.z0,BG L];rfl
theorem XR(K:Sx.Ok P T)(a:p<P.m):sm P.n (λj=>P.A j p*yv P T j)=T.size*P.b p:=by rw[Uo K.u7,K.u7.QR a,K.rt p a];grind
theorem XS(K:Sx.Ok P T)(t:Nat):sm P.n (λj=>P.c t j*yv P T j)=T.obj P t:=Uo K.u7 _
theorem Tn(P:Sx.Pb)(T:Sx.Tb)(x y:Int)(f g:Nat->Int):Sx.fsum P T (λj=>x*f j-y*g j)=x*Sx.fsum P T f-y*Sx.fsum P T g:=by delta Sx.fsum;rw[<-Sx.z0,<-Sx.z0,<-Sx.gm];exact Sx.j3 λj _=>by split<;>grind
theorem Jh(K:Sx.Ok P T)(t:Nat):T.obj P t=Sx.dot P.m (T.pr t) P.b+Sx.fsum P T (T.rest P t):=by
 have f:(sm P.m λk=>T.am P k*P.c t (T.B k))=Sx.dot P.m (T.pr t) T.rt:=by rw[Sx.vS K.u7];exact Sx.j3 λk _=>x9 _ _
 have e:Sx.dot P.m (T.pr t) T.rt=Sx.dot P.m (T.pr t) P.b-Sx.fsum P T λj=>Sx.dot P.m (T.pr t) (P.A j):=by
  have a:Sx.dot P.m (T.pr t) T.rt=Sx.dot P.m (T.pr t) λp=>P.b p-Sx.fsum P T λj=>P.A j p:=Sx.j3 λp d=>by rw[K.rt p d]
  rw[a,Sx.HR]
  congr 1
  delta Sx.dot Sx.fsum;have b:(sm P.m λr=>T.pr t r*sm P.n λj=>if T.full j=Uf then Sx.uv P j*P.A j r else 0)=sm P.m λr=>sm P.n λj=>if T.full j=Uf then Sx.uv P j*(T.pr t r*P.A j r)else 0:=Sx.j3 λr _=>by rw[<-Sx.z0];exact Sx.j3 λj _=>by split<;>grind
  rw[b,Sx.nN];exact Sx.j3 λj _=>by
   split;rw[Sx.z0];exact Sx.fK λ_ _=>rfl
 have g:Sx.fsum P T (T.rest P t)=Sx.fsum P T (λj=>T.size*P.c t j-1*Sx.dot P.m (T.pr t) (P.A j)):=Sx.j3 λj _=>by
  split;delta Sx.Tb.rest;grind;rfl
 delta Sx.Tb.obj;rw[f,e,g,Tn];grind
def vv(P:Sx.Pb)(T:Sx.Tb)(a j:Nat):Int:=(if j=a then T.size else 0)-pick P T (T.c9 P a) j
theorem v_sum(L:Sx.G4 P T){a:Nat}(b:a<P.n)(f:Nat->Int):sm P.n (λj=>f j*vv P T a j)=f a*T.size-sm P.m λk=>T.c9 P a k*f (T.B k):=by
 have e:sm P.n (λj=>f j*vv P T a j)=sm P.n λj=>(if j=a then f a*T.size else 0)-f j*pick P T (T.c9 P a) j:=Sx.j3 λj _=>by
  delta vv;by_cases z:j=a;rw[b3 z,b3 z,z];grind;rw[b0 z,b0 z];grind
 rw[e,Sx.gm,BG L,Sx.M8 b λi _ c=>b0 c,b3 rfl]
theorem Yf(L:Sx.G4 P T){a:Nat}(b:a<P.n)(t:Nat):sm P.n (λj=>P.c t j*vv P T a j)=T.rest P t a:=by rw[v_sum L b,Sx.mF L];grind
end
section
variable{I:o7}{D E F:Int}{c:Nat}{T:Sx.Tb}
abbrev o7.pb(I:o7):Sx.Pb:=I.A0.pb I.b
theorem GQ(H:q9 I D E F)(a:p<I.m)(b:j<I.n):((I.pb.A j p:Int):Rat)=val (I.row p j)*(I.sc j:Rat):=by
 show((D0 (I.A0.col j) p):Rat)=_;rw[CO I j a];exact Bc (H.row p j a b).1.pos ((H.sc b).2.2.2 p a)
theorem vn(H:q9 I D E F){t:Nat}(b:t<3)(a:j<I.n):((I.pb.c t j:Int):Rat)=val (H9 (I.cost j) t)*(I.sc j:Rat)*(I.mu t:Rat):=by
 show((I.wt t j):Rat)=_;delta o7.wt;rw[Bc (H.wq b a).1.pos ((H.mu b).2.2.2 j a)];delta o7.wq;rw[qU (H.cost t j b a).1.pos i9,val_one]
theorem Li(H:q9 I D E F)(a:p<I.m):((I.pb.b p:Int):Rat)=val (I.rg p)*(I.un:Rat):=Bc (H.rg p a).1.pos (H.un.2.2.2.1 p a)
theorem sW(H:q9 I D E F)(c:j<I.n)(h:I.tp j=U q):((Sx.uv I.pb j:Int):Rat)*(I.sc j:Rat)=val q*(I.un:Rat)/\∃v,I.lim j=U v/\Sx.uv I.pb j=v:=by
 cases hl:I.lim j with
 |none=>rw[lh.mpr hl]at h;exact nE h
 |some v =>
  obtain⟨f,a,d,b⟩:=BZ H c hl;rw[h]at a;cases a;have e:Sx.uv I.pb j=v:=by delta Sx.uv;show(I.lim j).getD 0=v;rw[hl];rfl
  refine⟨?_,v,rfl,e⟩;have:(v:Rat)*(q.2*(I.sc j))=q.1*I.un:=by exact_mod_cast b
  have:=dE (show q.2≠0 by exact x6);delta val;grind
theorem J1{x:Int}(h:0<x):(0:Rat)<(x:Rat):=by exact_mod_cast h
abbrev O4(I:o7)(T:Sx.Tb)(j:Nat):Q2:=Y4 I.A0 T I.tp I.m j
theorem Hx{j:Nat}:∀i,(∀k,k<i->T.B k≠j)->Y4 I.A0 T I.tp i j=Y4 I.A0 T I.tp 0 j
 | 0,_=>rfl
 |i+1,h=>by
  show(if j=T.B i then _ else Y4 I.A0 T I.tp i j)=_;rw[b0 λz=>h i j1 z.symm];exact Hx i λk a=>h k aW
theorem Hy(L:Sx.G4 I.pb T){k:Nat}(a:k<I.m):∀i,k<i->i<=I.m->Y4 I.A0 T I.tp i (T.B k)=o5 (T.am (i8 I.A0) k*I.sc (T.B k)) (T.size*I.un)
 | 0,h,_=>absurd h (DN _)
 |i+1,h,hi=>by
  rw[Y4];by_cases z:i=k;rw[z,b3 rfl];rfl;rw[b0 λy=>z (L.inj i k (by assumption) a y.symm)];exact Hy L a i b6 aL
theorem pT(K:Sx.Ok I.pb T)(b:j<I.n):(∃k,k<I.m/\T.B k=j/\T.full j=U'/\O4 I T j=o5 (T.am I.pb k*I.sc j) (T.size*I.un))\/((∀k,k<I.m->T.B k≠j)/\((T.full j=Uf/\∃q,I.tp j=U q/\O4 I T j=q)\/(T.full j=U'/\O4 I T j=q0))):=by
 by_cases h:∃k,k<I.m/\T.B k=j
 . obtain⟨k,a,rfl⟩:=h;refine .inl ⟨k,a,rfl,?_,Hy K.u7 a I.m a o6⟩;cases z:T.full (T.B k)with
   |false=>rfl
   |true=>exact absurd rfl ((K.fu _ b z).2 k a)
 . have c:=λk a z=>h ⟨k,a,z⟩
   refine .inr ⟨c,?_⟩;have e:O4 I T j=Y4 I.A0 T I.tp 0 j:=Hx I.m c;cases z:T.full j with
   |false=>exact .inr ⟨rfl,by rw[e,Y4,b0 (by rw[z];decide)]⟩
   |true =>
    cases hq:I.tp j with
    |none=>exact absurd (lh.mp hq) ((K.fu j b z).1)
    |some q=>exact .inl ⟨rfl,q,rfl,by rw[e,Y4,b3 z,hq];rfl⟩
theorem yz(H:q9 I D E F)(K:Sx.Ok I.pb T)(c:j<I.n):val (O4 I T j)*((T.size:Rat)*(I.un:Rat))=(I.sc j:Rat)*((yv I.pb T j:Int):Rat):=by
 rcases pT K c with ⟨k,d,rfl,a,e⟩|⟨b,⟨a,q,hq,e⟩|⟨a,e⟩⟩
 . rw[e,du (A5 K.u7.pos H.un.1)];have:yv I.pb T (T.B k)=T.am I.pb k:=by delta yv;rw[b0 (by simp_all),yp K.u7 _ d,N7]
   have:=Z2 (J1 K.u7.pos) (J1 H.un.1);grind
 . rw[e];have:yv I.pb T j=T.size*Sx.uv I.pb j:=by delta yv;rw[b3 a,tm _ b,so]
   have:=(sW H c hq).1;rw[‹yv I.pb T j=_›,dh];grind
 . rw[e];have:yv I.pb T j=0:=by delta yv;rw[b0 (by rw[a];decide),tm _ b,N7]
   rw[this,X7];grind
theorem SK(H:q9 I D E F)(K:Sx.Ok I.pb T)(a:p<I.m):d5 (λj=>val (I.row p j)*val (O4 I T j)) I.n=val (I.rg p):=by
 have:d5 (λj=>val (I.row p j)*val (O4 I T j)) I.n*(T.size*I.un)=val (I.rg p)*(T.size*I.un):=by
  rw[K0,j4 (g:=λj=>((I.pb.A j p*yv I.pb T j:Int))) I.n λj b=>by have:=yz H K b;rw[dh,GQ H a b];grind];rw[<-iB (λj=>I.pb.A j p*yv I.pb T j),show sm I.n (λj=>I.pb.A j p*yv I.pb T j)=_ from XR K a,dh,Li H a];grind
 have:((T.size:Rat)*I.un)≠0:=by have:=Z2 (J1 K.u7.pos) (J1 H.un.1);grind
 grind
theorem SM(H:q9 I D E F)(K:Sx.Ok I.pb T){t:Nat}(b:t<3):d5 (λj=>val (H9 (I.cost j) t)*val (O4 I T j)) I.n*((T.size:Rat)*(I.un:Rat)*(I.mu t:Rat))=((T.obj I.pb t:Int):Rat):=by
 rw[K0,j4 (g:=λj=>((I.pb.c t j*yv I.pb T j:Int))) I.n λj a=>by have:=yz H K a;rw[dh,vn H b a];grind];rw[<-iB (λj=>I.pb.c t j*yv I.pb T j),show sm I.n (λj=>I.pb.c t j*yv I.pb T j)=_ from XS K t]
end
open Sx (sm)
section
variable{I:o7}{D E F:Int}{c:Nat}{T:Sx.Tb}{a:Nat}
abbrev yh(I:o7)(T:Sx.Tb)(a j:Nat):Q2:=bD I.A0 T a I.m j
theorem Gr{j:Nat}:∀i,(∀k,k<i->T.B k≠j)->bD I.A0 T a i j=if j=a then(I.sc a,1)else q0
 | 0,_=>rfl
 |i+1,h=>by
  show(if j=T.B i then _ else bD I.A0 T a i j)=_;rw[b0 λz=>h i j1 z.symm];exact Gr i λk b=>h k aW
theorem Gs(L:Sx.G4 I.pb T){k:Nat}(b:k<I.m):∀i,k<i->i<=I.m->bD I.A0 T a i (T.B k)=o5 (-T.c9 (i8 I.A0) a k*I.sc (T.B k)) T.size
 | 0,h,_=>absurd h (DN _)
 |i+1,h,hi=>by
  rw[bD];by_cases z:i=k;rw[z,b3 rfl];rfl;rw[b0 λy=>z (L.inj i k (by assumption) b y.symm)];exact Gs L b i b6 aL
theorem AY(L:Sx.G4 I.pb T)(j:Nat):(∃k,k<I.m/\T.B k=j/\yh I T a j=o5 (-T.c9 I.pb a k*I.sc j) T.size)\/((∀k,k<I.m->T.B k≠j)/\yh I T a j=if j=a then(I.sc a,1)else q0):=by
 by_cases h:∃k,k<I.m/\T.B k=j;obtain⟨k,b,rfl⟩:=h;exact .inl ⟨k,b,rfl,Gs L b I.m b o6⟩;have c:=λk b z=>h ⟨k,b,z⟩;exact .inr ⟨c,Gr I.m c⟩
theorem Vv(L:Sx.G4 I.pb T)(nb:∀k,k<I.m->T.B k≠a)(j:Nat):val (yh I T a j)*(T.size:Rat)=(I.sc j:Rat)*((vv I.pb T a j:Int):Rat):=by
 have:=J1 L.pos;rcases AY L j with ⟨k,c,rfl,e⟩|⟨b,e⟩
 . rw[e,du L.pos];have:vv I.pb T a (T.B k) = -T.c9 I.pb a k:=by delta vv;rw[b0 (nb k c),yp L _ c,Int.zero_sub]
   rw[this,dh];grind
 . rw[e];by_cases z:j=a
   . have:vv I.pb T a j=T.size:=by delta vv;rw[b3 z,tm _ b,sk]
     rw[this,b3 z,val_one,z]
   . have:vv I.pb T a j=0:=by delta vv;rw[b0 z,tm _ b,sk]
     rw[this,b0 z,X7];grind
theorem Qc(H:q9 I D E F)(L:Sx.G4 I.pb T)(d:a<I.n)(nb:∀k,k<I.m->T.B k≠a){t:Nat}(b:t<3):d5 (λj=>val (H9 (I.cost j) t)*val (yh I T a j)) I.n*((T.size:Rat)*(I.mu t:Rat))=((T.rest I.pb t a:Int):Rat):=by
 rw[K0,j4 (g:=λj=>((I.pb.c t j*vv I.pb T a j:Int))) I.n λj e=>by have:=Vv L nb j;rw[dh,vn H b e];grind];rw[<-iB (λj=>I.pb.c t j*vv I.pb T a j),show sm I.n (λj=>I.pb.c t j*vv I.pb T a j)=_ from Yf L d t]
theorem AA(K:Sx.Ok I.pb T)(i:Sx.G0 I.pb T a)(h:stI I.A0 T a I.m=[]):I.lim a=J/\T.full a=U'/\∀k,k<I.m->T.c9 I.pb a k<=0/\(T.c9 I.pb a k<0->I.lim (T.B k)=J):=by
 have b:∀s,s∉stI I.A0 T a I.m:=λs c=>by simp_all
 have d:I.lim a=J:=by
  cases z:I.lim a with
  |none=>rfl
  |some v=>exact absurd (Q7.mpr (.inl (fN.mpr ⟨v,z,rfl⟩))) (b ⟨v,1,a,J,U'⟩)
 have f:T.full a=U':=by
  cases z:T.full a with
  |false=>rfl
  |true=>exact absurd d (K.fu a i.an z).1
 have sg:T.sg a=1:=by delta Sx.Tb.sg;rw[f];rfl
 refine⟨d,f,λk e=>⟨?_,λg=>?_⟩⟩
 . rcases bW 0 (T.c9 I.pb a k)with z|z
   exact absurd (Q7.mpr (.inr ⟨k,e,T5.mpr (.inl ⟨by rw[sg,U2];exact z,rfl⟩)⟩)) (b _);exact z
 . cases z:I.lim (T.B k)with
   |none=>rfl
   |some v=>exact absurd (Q7.mpr (.inr ⟨k,e,T5.mpr (.inr ⟨by rw[sg,U2];exact g,v,z,rfl⟩)⟩)) (b _)
theorem Bn{x k:Rat}{r:Int}(f:0<k)(h:x*k=(r:Rat)):(0<x↔0<r)/\(x=0↔r=0)/\(0<=x↔0<=r):=by
 have c:0<x->0<r:=λz=>by
  have:=Z2 z f;rw[h]at this
  exact_mod_cast this
 have d:x=0->r=0:=λz=>by
  have:(r:Rat)=0:=by grind
  exact_mod_cast this
 have b:x<0->r<0:=λz=>by
  have:=Z2 (show 0 < -x by grind) f
  have e : -x*k=((-r:Int)):=by rw[DK,<-h];grind
  rw[e]at this;have:0 < -r:=by exact_mod_cast this
  simp_all
 have a:x<0\/x=0\/0<x:=by grind
 refine⟨⟨c,λz=>?_⟩,⟨d,λz=>?_⟩,⟨λz=>?_,λz=>?_⟩⟩
 . rcases a with t|t|t
   have:=b t;lia
   . have:=d t;simp_all
   exact t
 . rcases a with t|t|t
   . have:=b t;simp_all
   exact t
   . have:=c t;simp_all
 . rcases a with t|t|t
   grind;have:=d t;simp[*];have:=c t;exact Y8
 . rcases a with t|t|t
   have:=b t;lia;grind;grind
theorem a1L{x y z k l m:Rat}{r:Nat->Int}(e:0<k)(b:0<l)(c:0<m)(a:x*k=(r 0:Rat))(f:y*l=(r 1:Rat))(d:z*m=(r 2:Rat)):NN x y z↔¬Sx.Neg r:=by
 obtain⟨i,n,_⟩:=Bn e a;obtain⟨g,h,_⟩:=Bn b f;obtain⟨_,_,j⟩:=Bn c d;delta NN Sx.Neg;lia
theorem zy(H:q9 I D E F)(L:Sx.G4 I.pb T){t:Nat}(a:t<3):val (H9 (V2 I.A0 T p) t)*((T.size:Rat)*(I.mu t:Rat))=((T.pr t p:Int):Rat):=by
 have e:H9 (V2 I.A0 T p) t=o5 (T.pr t p) (T.size*I.mu t):=by rcases lt3 a with rfl|rfl|rfl<;>rfl
 have:=Z2 (J1 L.pos) (J1 (H.mu a).1);rw[e,du (A5 L.pos (H.mu a).1),dh];grind
def cw(I:o7)(T:Sx.Tb)(t j:Nat):Rat:=val (H9 (I.cost j) t)-d5 (λp=>val (H9 (V2 I.A0 T p) t)*val (I.row p j)) I.m
theorem Bv(H:q9 I D E F)(L:Sx.G4 I.pb T){t:Nat}(a:t<3)(b:j<I.n):cw I T t j*((I.sc j:Rat)*(I.mu t:Rat)*(T.size:Rat))=((T.rest I.pb t j:Int):Rat):=by
 have e:d5 (λp=>val (H9 (V2 I.A0 T p) t)*val (I.row p j)) I.m*((I.sc j)*(I.mu t)*T.size)=((Sx.dot I.m (T.pr t) (I.pb.A j))):=by
  rw[K0,j4 (g:=λp=>((T.pr t p*I.pb.A j p:Int))) I.m λp d=>by have:=zy (p:=p) H L a;rw[dh,GQ H d b];grind];rw[<-iB (λp=>T.pr t p*I.pb.A j p)];rfl
 have f:((T.rest I.pb t j):Rat)=((I.pb.c t j))*T.size-((Sx.dot I.m (T.pr t) (I.pb.A j))):=by
  show((I.pb.c t j*T.size-Sx.dot I.m (T.pr t) (I.pb.A j):Int):Rat)=_;simp
 delta cw;rw[f,vn H a b,<-e];grind
theorem BE(H:q9 I D E F)(L:Sx.G4 I.pb T){t:Nat}(c:t<3):d5 (λp=>val (H9 (V2 I.A0 T p) t)*val (I.rg p)) I.m*((T.size:Rat)*(I.un:Rat)*(I.mu t:Rat))=((Sx.dot I.m (T.pr t) I.pb.b:Int):Rat):=by
 rw[K0,j4 (g:=λp=>((T.pr t p*I.pb.b p:Int))) I.m λp a=>by have:=zy (p:=p) H L c;rw[dh,Li H a];grind];rw[<-iB (λp=>T.pr t p*I.pb.b p)];rfl
theorem JW(K:Sx.Ok I.pb T)(ne:∀j,j<I.n->¬Sx.G0 I.pb T j)(a:j<I.n):(I.lim j=U 0)\/(T.full j=U'/\¬Sx.Neg λt=>T.rest I.pb t j)\/(T.full j=Uf/\(Sx.Neg (λt=>T.rest I.pb t j)\/∀t,t<3->T.rest I.pb t j=0)):=by
 by_cases z:I.lim j=U 0;exact .inl z
 . have nn:=λy=>ne j a ⟨a,z,y⟩
   cases hf:T.full j with
   |false =>
    have sg:T.sg j=1:=by delta Sx.Tb.sg;rw[hf];rfl
    refine .inr (.inl ⟨rfl,λy=>nn (y.congr λt _=>by rw[sg,U2])⟩)
   |true =>
    have:T.sg j = -1:=by delta Sx.Tb.sg;rw[hf];rfl
    refine .inr (.inr ⟨rfl,?_⟩);unfold Sx.Neg at *;by_cases w:T.rest I.pb 0 j=0/\T.rest I.pb 1 j=0/\T.rest I.pb 2 j=0
    . exact .inr λt b=>by
        rcases lt3 b with rfl|rfl|rfl
        exact w.1;exact w.2.1;exact w.2.2
    left;lia
theorem zN(H:q9 I D E F)(K:Sx.Ok I.pb T)(ne:∀j,j<I.n->¬Sx.G0 I.pb T j)(d:j<I.n){ch:Bool}(f:ch=Uf↔Sx.Neg λt=>T.rest I.pb t j):(ch=Uf->I.tp j≠J)/\∀t,t<3->(if ch=Uf then cw I T t j*val ((I.tp j).getD q0)else 0)*((T.size:Rat)*(I.un:Rat)*(I.mu t:Rat))=((if T.full j=Uf then Sx.uv I.pb j*T.rest I.pb t j else 0:Int):Rat):=by
 have k:=JW K ne d;constructor
 . intro a c;have g:=lh.mp c;rcases k with k|⟨_,k⟩|⟨i,_⟩
   lia;exact k (f.mp a);exact(K.fu j d i).1 g
 . intro t c;have:val ((I.tp j).getD q0)*I.un=((Sx.uv I.pb j))*(I.sc j):=by
    cases htp:I.tp j with
    |none =>
     have:Sx.uv I.pb j=0:=by delta Sx.uv;show(I.lim j).getD 0=0;rw[lh.mp htp];rfl
     rw[this];show val q0*_=0*_;rw[X7];grind
    |some q =>
     have:=(sW H d htp).1;grind
   have h:I.lim j=U 0->Sx.uv I.pb j=0:=λz=>by delta Sx.uv;show(I.lim j).getD 0=0;rw[z];rfl
   by_cases a:ch=Uf
   . rw[b3 a];have e:((if T.full j=Uf then Sx.uv I.pb j*T.rest I.pb t j else 0))=Sx.uv I.pb j*T.rest I.pb t j:=by
      by_cases b:T.full j=Uf;rw[b3 b]
      . rw[b0 b];rcases k with k|⟨_,k⟩|⟨k,_⟩
        rw[h k,aw];exact absurd (f.mp a) k;exact absurd k b
     rw[e,dh,<-(Bv H K.u7 c d)];grind
   . rw[b0 a];have e:((if T.full j=Uf then Sx.uv I.pb j*T.rest I.pb t j else 0))=0:=by
      by_cases b:T.full j=Uf
      . rw[b3 b];rcases k with k|⟨k,_⟩|⟨_,k|k⟩
        rw[h k,aw]
        . simp_all
        exact absurd (f.mpr k) a;rw[k t c,J3]
      rw[b0 b]
     rw[e];grind
theorem Gg(H:q9 I D E F)(K:Sx.Ok I.pb T)(ne:∀j,j<I.n->¬Sx.G0 I.pb T j){ch:Nat->Bool}(d:∀j,j<I.n->(ch j=Uf↔Sx.Neg λt=>T.rest I.pb t j)){t:Nat}(a:t<3):
  d5 (λp=>val (H9 (V2 I.A0 T p) t)*val (I.rg p)) I.m+d5 (λj=>if ch j=Uf then cw I T t j*val ((I.tp j).getD q0)else 0) I.n=d5 (λj=>val (H9 (I.cost j) t)*val (O4 I T j)) I.n:=by
 have:=Z2 (Z2 (J1 K.u7.pos) (J1 H.un.1)) (J1 (H.mu a).1);have:=BE H K.u7 a;have:=SM H K a;have:d5 (λj=>if ch j=Uf then cw I T t j*val ((I.tp j).getD q0)else 0) I.n*(T.size*I.un*(I.mu t))=((Sx.fsum I.pb T (T.rest I.pb t))):=by
  rw[K0,j4 I.n λj c=>(zN H K ne c (d j c)).2 t a];rw[<-iB (λj=>if T.full j=Uf then Sx.uv I.pb j*T.rest I.pb t j else 0)];rfl
 have:((T.obj I.pb t):Rat)=((Sx.dot I.m (T.pr t) I.pb.b))+((Sx.fsum I.pb T (T.rest I.pb t))):=by rw[Jh K t,Rat.intCast_add];rfl
 generalize (T.size:Rat)*I.un*(I.mu t)=z at *;grind
end
open Sx (sN pN sm det t4 dot)
section
variable{I:o7}{D E F:Int}{T:Sx.Tb}{y:Nat->Rat}
theorem vZ{a b c:Rat}(h:¬NN a b c):NN (-a) (-b) (-c):=by unfold NN at *;grind
theorem JQ(b:∀p,p<I.m->d5 (λj=>val (I.row p j)*y j) I.n=val (I.rg p))(t:Nat):
  d5 (λj=>val (H9 (I.cost j) t)*y j) I.n=d5 (λj=>cw I T t j*y j) I.n+d5 (λp=>val (H9 (V2 I.A0 T p) t)*val (I.rg p)) I.m:=by
 have c:d5 (λp=>val (H9 (V2 I.A0 T p) t)*val (I.rg p)) I.m=d5 (λj=>d5 (λp=>val (H9 (V2 I.A0 T p) t)*val (I.row p j)*y j) I.m) I.n:=by
  rw[qX];refine j4 I.m λp a=>?_;rw[<-b p a,Rat.mul_comm,K0];refine j4 I.n λj _=>?_;grind
 rw[c,<-Y0];refine j4 I.n λj _=>?_;rw[<-K0];delta cw;grind
theorem JX(H:q9 I D E F)(K:Sx.Ok I.pb T)(ne:∀j,j<I.n->¬Sx.G0 I.pb T j)(w:∀j,j<I.n->0<=y j)(x:∀j q,j<I.n->I.tp j=U q->y j<=val q)(s:∀p,p<I.m->d5 (λj=>val (I.row p j)*y j) I.n=val (I.rg p)){Δ:Nat->Rat}(hD:∀t,Δ t=d5 (λj=>val (H9 (I.cost j) t)*y j) I.n-d5 (λj=>val (H9 (I.cost j) t)*val (O4 I T j)) I.n):
  NN (Δ 0) (Δ 1) (Δ 2):=by
 classical
 let f:=λj=>decide (Sx.Neg λt=>T.rest I.pb t j)
 have e:∀j,j<I.n->(f j=Uf↔Sx.Neg λt=>T.rest I.pb t j):=λj _=>decide_eq_true_iff
 let g:=λt j=>cw I T t j*y j-(if f j=Uf then cw I T t j*val ((I.tp j).getD q0)else 0)
 have a:∀t,t<3->Δ t=d5 (g t) I.n:=λt d=>by rw[hD,JQ (T:=T) s t,<-Gg H K ne e d,ia];grind
 rw[a 0 a6,a 1 a6,a 2 a6];refine NN.sum I.n λj b=>?_;have l:∀t,t<3->(0:Rat)<(I.sc j)*(I.mu t)*T.size:=λt d=>Z2 (Z2 (J1 (H.sc b).1) (J1 (H.mu d).1)) (J1 K.u7.pos);have i:=λt d=>Bv H K.u7 (t:=t) d b;have o:=a1L (r:=λt=>T.rest I.pb t j) (l 0 a6) (l 1 a6) (l 2 a6) (i 0 a6) (i 1 a6) (i 2 a6);by_cases h:f j=Uf
 . have u:=(zN H K ne b (e j b)).1 h;obtain⟨q,hq⟩:=Option.ne_none_iff_exists'.mp u;have v:NN (- cw I T 0 j) (- cw I T 1 j) (- cw I T 2 j):=by exact vZ λz=>o.mp z ((e j b).mp h)
   have:=v.mul (k:=val q-y j) (by grind)
   have c:∀t,g t j = - cw I T t j*(val q-y j):=λt=>by grind
   rw[c,c,c];exact this
 . have c:∀t,g t j=cw I T t j*y j:=λt=>by grind
   rw[c,c,c];exact(o.mpr λz=>h ((e j b).mpr z)).mul (w j b)
end
section
variable{I:o7}{D E F:Int}{T:Sx.Tb}{a:Nat}
theorem BY(h:I.tp j=U q):I.lim j≠J:=by delta o7.lim o7.hq;rw[h];simp
theorem Vw(K:Sx.Ok I.pb T)(f:Sx.G0 I.pb T a)(h:stI I.A0 T a I.m=[])(hq:I.tp j=U q):val (yh I T a j)=0:=by
 obtain⟨g,_,e⟩:=AA K f h;rcases AY K.u7 j with ⟨k,d,k2,b⟩|⟨_,b⟩
 . obtain⟨c,l⟩:=e k d;have i:T.c9 I.pb a k=0:=by
    rcases Ej c with z|z
    exact absurd (k2▸l z) (BY hq);exact z
   rw[b,i,du K.u7.pos,Int.neg_zero,aw];show 0/_=0;rw[Dk,Dq]
 rw[b,b0 (λz=>BY hq (by rw[z];exact g))];exact X7
theorem Fg(H:q9 I D E F)(K:Sx.Ok I.pb T)(b:Sx.G0 I.pb T a)(h:stI I.A0 T a I.m=[])(fr:∀j,j<I.n->I.tp j=J->I.cost j=gi):False:=by
 have z:∀t,t<3->T.rest I.pb t a=0:=λt c=>by
  have w:=Qc H K.u7 b.an (b.nb K.u7) c;have e:d5 (λj=>val (H9 (I.cost j) t)*val (yh I T a j)) I.n=0:=by
   rw[j4 I.n λj d=>?_,fJ]
   cases q:I.tp j with
   |none =>
    rw[fr j d q];have:val (H9 gi t)=0:=by rcases(by lia:t=0\/t=1\/t=2)with rfl|rfl|rfl<;>exact X7
    rw[this,Dq]
   |some f=>rw[Vw K b h q,Rat.mul_zero]
  rw[e,Dq]at w
  exact_mod_cast w.symm
 exact Sx.fP (λt c=>by rw[z t c,J3]) b.neg
end
end
section
variable{p q:Q2}{ds ds1 ds':Ds}{G2 G:DO}{N j t':Nat}{s':Str}
open Sx (sN pN sm det t4 dot)
structure Hr where
 aK:Int
 need:Int
 line:Option (Int×Int×Int×Int)
noncomputable def US:Option (Int×Int×Int×Int)->a7
 |none=>.none
 |some (a,b,c,d)=>.tuple [.int a,.int b,.int c,.int d]
def n6(h:Hr):a7:=.tuple [.int h.aK,.int h.need,US h.line]
structure Wk where
 name:Str
 J9:Int
 first:Int
 last:Int
 most:Int
noncomputable def K5(w:Wk):a7:=.tuple [.str w.name,.int w.J9,.int w.first,.int w.last,.int w.most]
structure i4 where
 hs:List Hr
 size:Int
 start:Int
 fill:Int
 take:Int
 kept:Q2
 left:Q2
 rest:Int
 ws:List Wk
abbrev i4.n(h:i4):Nat:=h.hs.length
abbrev i4.w(h:i4):Nat:=h.ws.length
noncomputable def S8(h:i4):a7:=.tuple [.int h.size,.int h.start,.int h.fill,.int h.take,fr h.kept,fr h.left,.int h.rest]
def f5(h:i4):a7:=.tuple [.tuple (h.hs.map n6),S8 h,.tuple (h.ws.map K5)]
theorem AK{m n:Nat}(a:k8 m p)(hq:k8 n q)(h:m+n<=7998):jG [fr p,fr q]=sd (fr (Z5 p q)):=by
 have e:Bt 60000 p.1:=a.bt.mono (i0 (i0 (U5 _ _) c6) a6);have b:Bt 60000 p.2:=a.bb.mono (i0 (i0 (U5 _ _) c6) a6);have g:Bt 60000 q.1:=hq.bt.mono (i0 (i0 (cD _ _) c6) a6);have c:Bt 60000 q.2:=hq.bb.mono (i0 (i0 (cD _ _) c6) a6);obtain⟨i,j,d⟩:=RK a.pos hq.pos a.low hq.low;have bs:Bt 8000 (gc p.2 q.2):=(a0z a.pos a.bb).mono (i0 (i0 (U5 _ _) c6) a6);have f:∀t,Bt 8000 (gc t (gc p.2 q.2)):=λt=>wA x6 bs;delta jG;walk_at "r";rw[jl (N8 a.pos) (N8 hq.pos)];walk_at "r";simp only[C4 (show gc p.2 q.2≠0 by exact x6) bs];walk_at "r";simp only[l9,e,b.fdiv,g,c.fdiv];walk_at "r";rw[jl (by split<;>omega) j1,yR];walk_at "r";simp only[C4 (show gc (p.1*q.2.fdiv (gc p.2 q.2)+q.1*p.2.fdiv (gc p.2 q.2)) (gc p.2 q.2)≠0 by exact x6) (f _),C4 (show gc p.2 q.2≠0 by exact x6) bs];walk_at "r";rw[l9 b.fdiv c.fdiv];delta Z5;rw[d];rfl
theorem To{m:Nat}{q:Int×Int}(h:k8 m q):k8 m (-q.1,q.2):=⟨h.pos,by have:=h.low;simpa using this,h.bt.neg,h.bb⟩
theorem RJ(p q:Int×Int):Z5 p (-q.1,q.2)=cN p q:=by
 show o5 (p.1*q.2 + -q.1*p.2) _=o5 (p.1*q.2-q.1*p.2) _;rw[xj];rfl
theorem Mw{m n:Nat}(a:k8 m p)(hq:k8 n q)(h:m+n<=7998):X3 [fr p,fr q]=sd (fr (cN p q)):=by
 delta X3;walk_at "r";rw[show(sh [.int (-q.1),.int q.2])=fr (-q.1,q.2)from rfl,AK a (To hq) h,RJ];rfl
structure Ch where
 k:List Key
 c:Tr
 t:Option Q2
 ns:List (Nat×Q2)
noncomputable def kZ(p:Nat×Q2):a7:=.tuple [.int (p.1:Int),fr p.2]
def F2(x:Ch):a7:=.tuple [B3 x.k,u4 x.c,O2 x.t,.list (x.ns.map kZ)]
def F4(h:Hr):Q2:=if h.aK<=h.need then(1,1)else(-1,1)
def outF(h:Hr):Q2:=if h.aK<=h.need then(-1,1)else(1,1)
def km(p:Int):Tr:=⟨(0,1),(0,1),(p,1)⟩
def k2(s:Str)(t:Nat):List Key:=[.inr s,.inl (t:Int)]
def Ce:Tr:=⟨(1,1),(0,1),(0,1)⟩
def Yi:Tr:=⟨(0,1),(1,1),(0,1)⟩
noncomputable def aX(t:Nat)(h:Hr):List Ch:=match h.line with
 |none=>[]
 |some (a,b,c,d)=>[⟨k2 "bought" t,km a,U (b,1),[(t,F4 h)]⟩,⟨k2 "given" t,km (-c),U (d,1),[(t,outF h)]⟩]
noncomputable def bT(t:Nat)(h:Hr):List Ch:=[⟨k2 "lacked" t,Ce,U (h.need,1),[(t,F4 h)]⟩,⟨k2 "spilt" t,⟨(0,1),(0,1),(0,1)⟩,J,[(t,outF h)]⟩]++aX t h
theorem oj(h:Hr):bZ [n6 h]=sd (fr (F4 h)):=by
 delta bZ;walk_at "r";simp only[n6];walk_at "r";delta F4;by_cases e:h.aK<=h.need;rw[b3 e,b3 e];rfl;rw[b0 e,b0 e];rfl
theorem BI(h:Hr):bP [n6 h]=sd (fr (outF h)):=by
 delta bP;walk_at "r";rw[oj];delta F4 outF;by_cases e:h.aK<=h.need
 . rw[b3 e,b3 e];kernel_rfl
 . rw[b0 e,b0 e];kernel_rfl
theorem vo(p:Int):kI [.int p]=sd (u4 (km p)):=rfl
theorem aN{s:Str}{i:Nat}{n:Nat}(h:b7 i ds=sd (.int (n:Int))):N5 (a8 (fC (.str s)) (a8 (b7 i) d6)) ds=sd (B3 (k2 s n)):=by
 delta N5;have:a8 (fC (.str s)) (a8 (b7 i) d6) ds=U [.str s,.int n]:=by delta a8;rw[h];rfl
 rw[this];rfl
theorem Xt(t:Nat)(h:Hr):bq [.int (t:Int),n6 h]=U (.own ((bT t h).map F2)):=by
 have g:=oj h;have f:=BI h;obtain⟨j,i,e⟩:=h;delta bq;cases e with
 |none =>
  walk_at "r";rw[g,f,aN rfl,aN rfl];rfl
 |some l =>
  obtain⟨a,b,c,d⟩:=l;walk_at "r";rw[g,f,aN rfl,aN rfl];simp only[n6,US]at g f ⊢;walk_at "r";rw[aN rfl,vo,g];walk_at "r";rw[iE _ rfl i9];walk_at "r";rw[aN rfl,vo,f];rfl
theorem g0{a:DO}{r:Option Out}(h:a ds=U (.next ds1))(b:G2 ds1=r):c8 a G2 ds=r:=by rw[k6,h,j0,b]
theorem T9{n:Nat}{l:List a7}{pv:PV}(a:l.length=n)(h:G (L7 l++o1 (N-n) J)=U (.ret pv)):w5 n N G l=U pv:=by delta w5;rw[b3 a,h];rfl
theorem j7{i:Nat}{F:DV}{pv:PV}(h:F ds=U pv)(a:ds.set i (sd pv.d)=ds1):d8 i F ds=U (.next ds1):=by rw[bI,h,<-a];rfl
theorem Y9{a:DL}{gt:a7->Option (List a7)}{Fe:DV}{items l:List a7}(h:a ds=U items)(b:items.length<=1000000)(c:D4 gt j6 Fe ds items=U l):j5 a gt j6 Fe ds=U (.own l):=by
 delta j5
 simp_all
def r9:Hr:=⟨0,0,J⟩
abbrev i4.hr(h:i4)(i:Nat):Hr:=h.hs.getD i r9
def eZ(N t:Nat)(q:Q2):List (Nat×Q2):=(p9 (N-t)).map λi=>(N+t+i,q)
def vh(h:i4)(t:Nat):Int:=if t+1=h.hs.length then h.rest else 0
noncomputable def ah(h:i4)(t:Nat):List Ch :=
 [⟨k2 "filled" t,⟨(0,1),(0,1),(0,1)⟩,U (h.fill,1),(t,outF (h.hs.getD t r9))::eZ h.hs.length t (cN (0,1) h.kept)⟩,
  ⟨k2 "taken" t,⟨(0,1),(0,1),(0,1)⟩,U (h.take,1),(t,C3 (F4 (h.hs.getD t r9)) h.left)::eZ h.hs.length t (1,1)⟩,
  ⟨k2 "level" t,km (-vh h t),U (h.size,1),[(h.hs.length+t,(1,1))]⟩]
theorem Bs{Fe:DV}{t:Nat}(l:t<=N)(k:N<=1000)(a:b7 2 ds=sd (.int (N:Int)))(d:b7 1 ds=sd (.int (t:Int)))(h:∀p:Nat,Fe (sd (.int (p:Int))::ds)=sd (kZ (p,q))):
  j5 (t2 ic (a8 (b8 n8 (b7 2) (b7 1)) (a8 (b8 C8 (fC (.int 2)) (b7 2)) d6))) j8 j6 Fe ds=U (.own ((eZ N t q).map kZ)):=by
 have e:t2 ic (a8 (b8 n8 (b7 2) (b7 1)) (a8 (b8 C8 (fC (.int 2)) (b7 2)) d6)) ds=U (U8 ((N+t:Nat)) (N-t)):=by
  have b:Bt 60000 1000:=⟨by lia⟩
  have f:C8 (.int 2) (.int N)=sd (.int (2*N)):=l9 (b.of_le a6) (b.of_le j1);have c:b8 n8 (b7 2) (b7 1) ds=sd (.int (N+t)):=by delta b8;rw[a,d];rfl
  have g:b8 C8 (fC (.int 2)) (b7 2) ds=sd (.int (2*N)):=by
   delta b8 fC
   simp_all
  delta t2 a8;rw[c,g];show ic [.int (N+t),.int (2*N)]=_;rw[Bu ⟨⟨En _,by lia⟩,by lia,by lia⟩];rw[show(2*(N:Int)-(N+t)).toNat=N-t by lia];rfl
 refine Y9 e ?_ ?_;rw[nQ];lia;rw[qi λi j=>⟨_,h (N+t+i),rfl⟩];delta eZ;rw[cA];rfl
theorem Qz(h:i4)(j:k8 20 h.kept)(k:k8 20 h.left){t:Nat}(f:t<h.hs.length)(c:h.hs.length<=1000):cG [f5 h,.int (t:Int)]=U (.own ((ah h t).map F2)):=by
 refine T9 rfl ?_;refine g0 (j7 (pv:=.dat (.int h.hs.length)) ?_ rfl) ?_;show u9 [.tuple (h.hs.map n6)]=_;delta u9 d1;simp;refine g0 (j7 (pv:=.dat (n6 (h.hs.getD t r9))) ?_ rfl) ?_;show l7 (.tuple (h.hs.map n6)) (.int t)=_;rw[og,ck rfl (by simp_all),C5,cE,y4 f];rfl;refine g0 (j7 rfl rfl) ?_;refine g0 (j7 (Bs (q:=cN (0,1) h.kept) aL c rfl rfl λp=>?_) rfl) ?_;show((((X3 [fr (0,1),fr h.kept]).bind λx=>U [x.d]).bind λl=>U (P0 p::l)).bind λl=>if l.length<=1000000 then U (PV.dat (.tuple l))else J)=_;rw[Mw (m:=1) ⟨by decide,by decide,⟨by decide⟩,⟨by decide⟩⟩ j a6];rfl;refine g0 (j7 (Bs (q:=(1,1)) aL c rfl rfl λp=>rfl) rfl) ?_;refine g0 (j7 (pv:=.dat (.int (vh h t))) ?_ rfl) ?_;show(((F3 (.int t) (.int (h.hs.length-1))).bind λx=>Vh x.d).bind λb=>if b=Uf then U (PV.dat (.int h.rest))else sd (.int 0))=_;rw[vg];delta vh;by_cases e:t+1=h.hs.length;rw[b3 e,dg (show(t:Int)=h.hs.length-1 by lia)];rfl;rw[b0 e,U4 (show ¬(t:Int)=h.hs.length-1 by lia)];rfl
 have g:∀q,((eZ h.hs.length t q).map kZ).length<=1000:=λq=>by rw[o9];delta eZ;rw[o9,sD];exact i0 (xg _ _) c6
 have a:∀d q,n8 (.list [d]) (.list ((eZ h.hs.length t q).map kZ))=U (.own (d::(eZ h.hs.length t q).map kZ)):=λd q=>by delta n8;have:=g q;simp only[W2,gU];rw[b3 b6];rfl
 walk_at "r";rw[aN rfl,aN rfl,aN rfl,BI,oj];walk_at "r";have i:k8 1 (F4 (h.hs.getD t r9)):=by delta F4;split<;>exact⟨by decide,by decide,⟨by decide⟩,⟨by decide⟩⟩
 rw[show l7 (S8 h) (.int 2)=sd (.int h.fill)from rfl,show l7 (S8 h) (.int 3)=sd (.int h.take)from rfl,show l7 (S8 h) (.int 5)=sd (fr h.left)from rfl,show l7 (S8 h) (.int 0)=sd (.int h.size)from rfl,vo];walk_at "r";rw[kP i k a6];walk_at "r";rw[a,a];rfl
def H0:Wk:=⟨jr,0,0,0,0⟩
abbrev i4.wk(h:i4)(i:Nat):Wk:=h.ws.getD i H0
noncomputable def qS(h:i4)(j t:Nat):Ch:=⟨[.inr "worked",.inl (t:Int),.inl (j:Int)],⟨(0,1),(0,1),(0,1)⟩,U ((h.ws.getD j H0).most,1),[(t,outF (h.hs.getD t r9)),(2*h.hs.length+j,(1,1))]⟩
noncomputable def Z4(h:i4)(j:Nat):Ch:=⟨k2 "undone" j,Yi,U ((h.ws.getD j H0).J9,1),[(2*h.hs.length+j,(1,1))]⟩
def AW(w:Wk):Nat:=(w.last+1-w.first).toNat
def X6(h:i4)(j:Nat):List Ch:=Z4 h j::(p9 (AW (h.ws.getD j H0))).map λi=>qS h j ((h.ws.getD j H0).first.toNat+i)
theorem HJ(h:i4){t:Nat}(a:t<h.hs.length):l7 (.tuple (h.hs.map n6)) (.int (t:Int))=sd (n6 (h.hs.getD t r9)):=by
 rw[og,ck rfl (by simp_all),C5,cE,y4 a];rfl
theorem Vt(h:i4){t:Nat}(a:t<h.ws.length):l7 (.tuple (h.ws.map K5)) (.int (t:Int))=sd (K5 (h.ws.getD t H0)):=by
 rw[og,ck rfl (by simp_all),C5,cE,y4 a];rfl
theorem A6{f:a7->a7->Option PV}{Fa Fb:DV}{x y:PV}(b:Fa ds=U x)(a:Fb ds=U y):b8 f Fa Fb ds=f x.d y.d:=by
 delta b8
 simp_all
theorem Kk(h:i4){w:Wk}{t:Nat}(c:h.ws.getD j H0=w)(e:t<h.hs.length){l:List a7}(b:l.length<1000000)(a:Option PV):
  bR [sd (f5 h),sd (.int (j:Int)),sd (K5 w),sd (.int ((2*h.hs.length+j:Nat):Int)),U (.own l),sd (.int (t:Int)),a] =
   U (.next [sd (f5 h),sd (.int (j:Int)),sd (K5 w),sd (.int ((2*h.hs.length+j:Nat):Int)),U (.own (l++[F2 (qS h j t)])),sd (.int (t:Int)),sd (.list [kZ (t,outF (h.hs.getD t r9)),kZ (2*h.hs.length+j,(1,1))])]):=by
 refine g0 (j7 (pv:=.own [kZ (t,outF (h.hs.getD t r9)),kZ (2*h.hs.length+j,(1,1))]) ?_ rfl) ?_;show(((((((l7 (.tuple (h.hs.map n6)) (.int t)).bind λx=>U [x.d]).bind bP).bind λx=>U [x.d]).bind λl=>U (P0 t::l)).bind λl=>if l.length<=1000000 then U (PV.dat (.tuple l))else J).bind λx=>U [x.d,.tuple [.int ((2*h.hs.length+j)),.tuple [.int 1,.int 1]]]).bind (λl=>if l.length<=1000000 then U (PV.own l)else J)=_;rw[HJ h e,g8,g8,show(PV.dat (n6 (h.hs.getD t r9))).d=n6 (h.hs.getD t r9)from rfl,BI];rfl;rw[kH];refine Eq.trans (m2 (λo=>zf o 4 _) (?_:_=U (PV.dat (F2 (qS h j t))))) (iE _ rfl b);delta qS;rw[c];rfl
theorem Vs(h:i4)(s:j<h.ws.length)(E:h.hs.length<=1000)(r:0<=(h.ws.getD j H0).first)(D:(h.ws.getD j H0).first<=(h.ws.getD j H0).last)(u:(h.ws.getD j H0).last<(h.hs.length:Int)):dO [f5 h,.int (j:Int)]=U (.own ((X6 h j).map F2)):=by
 have p:Bt 60000 1000:=⟨by lia⟩;have y:C8 (.int 2) (.int h.hs.length)=sd (.int (2*h.hs.length)):=l9 (p.of_le a6) (p.of_le j1);have m:=Vt h s;generalize d:h.ws.getD j H0=w at m r u D;refine T9 rfl ?_;refine g0 (j7 m rfl) ?_;refine g0 (j7 (pv:=.dat (.int ((2*h.hs.length+j:Nat)))) ?_ rfl) ?_
 . have z:b4 u9 (a8 (b8 l7 (b7 0) (fC (.int 0))) d6) [sd (f5 h),sd (.int j),sd (K5 w),J,J,J,J]=sd (.int h.hs.length):=by
     show u9 [.tuple (h.hs.map n6)]=_;delta u9 d1;simp only[o9]
   have c:=A6 (f:=C8) (Fa:=fC (.int 2)) rfl z;have g:=A6 (f:=n8) (Fb:=b7 1) (c.trans y) rfl;assumption
 refine g0 (ds1:=[sd (f5 h),sd (.int j),sd (K5 w),sd (.int ((2*h.hs.length+j))),U (.own [F2 (Z4 h j)]),J,J]) ?_ ?_
 . rw[yS];have c:D6 (a8 (f9 (a8 (N5 (a8 (fC (.str "undone")) (a8 (b7 1) d6))) (a8 (fC vr) (a8 (f9 (a8 (b8 l7 (b7 2) (fC (.int 1))) (a8 (fC (.int 1)) d6))) (a8 (D6 (a8 (f9 (a8 (b7 3) (a8 (f9 (a8 (fC (.int 1)) (a8 (fC (.int 1)) d6))) d6))) d6)) d6))))) d6) [sd (f5 h),sd (.int j),sd (K5 w),sd (.int ((2*h.hs.length+j))),J,J,J]=U (.own [F2 (Z4 h j)]):=by delta Z4;rw[d];rfl
   exact m2 (λo=>Jy o 4 _) c
 have A:∃b a,A8 (t2 ic (a8 (b8 l7 (b7 2) (fC (.int 2))) (a8 (b8 n8 (b8 l7 (b7 2) (fC (.int 3))) (fC (.int 1))) d6))) (A1 5) bR [sd (f5 h),sd (.int j),sd (K5 w),sd (.int ((2*h.hs.length+j:Nat))),U (.own [F2 (Z4 h j)]),J,J]
   = U (.next [sd (f5 h),sd (.int j),sd (K5 w),sd (.int ((2*h.hs.length+j:Nat))),U (.own ((X6 h j).map F2)),b,a]):=by
  have g:t2 ic (a8 (b8 l7 (b7 2) (fC (.int 2))) (a8 (b8 n8 (b8 l7 (b7 2) (fC (.int 3))) (fC (.int 1))) d6)) [sd (f5 h),sd (.int j),sd (K5 w),sd (.int ((2*h.hs.length+j:Nat))),U (.own [F2 (Z4 h j)]),J,J]=U (U8 w.first (AW w)):=by
   show ic [.int w.first,.int (w.last+1)]=_;rw[Bu ⟨⟨by lia,by lia⟩,by lia,by lia⟩];rfl
  delta A8;rw[g,g8];obtain⟨t,B,b,a,x⟩:=iw (gt:=A1 5) (n:=AW w) (ds:=[sd (f5 h),sd (.int j),sd (K5 w),sd (.int ((2*h.hs.length+j:Nat))),U (.own [F2 (Z4 h j)]),J,J])
   (λi k=>∃b a,k=[sd (f5 h),sd (.int j),sd (K5 w),sd (.int ((2*h.hs.length+j:Nat))),U (.own ((Z4 h j::(p9 i).map λi=>qS h j (w.first.toNat+i)).map F2)),b,a])
   ⟨J,J,rfl⟩ (by
    rintro i k v ⟨b,a,e⟩;subst e;have:i<(w.last+1-w.first).toNat:=v;have C:w.first.toNat+i<h.hs.length:=by lia
    have q:=Kk h d C (l:=(Z4 h j::(p9 i).map λi=>qS h j (w.first.toNat+i)).map F2) (by simp;lia) a;rw[show((w.first.toNat+i:Nat))=w.first+i by lia]at q
    exact⟨_,_,rfl,.inl q,_,_,by rw[gG,V9];simp only[m6,V9];rfl⟩)
  refine⟨b,a,?_⟩;rw[B,x];delta X6;rw[d]
 obtain⟨b,a,e⟩:=A;exact g0 e rfl
def R1(h:i4)(t:Nat):List Ch:=bT t (h.hs.getD t r9)++ah h t
def f6(h:i4):List Ch:=(p9 h.hs.length).flatMap (R1 h)++(p9 h.ws.length).flatMap (X6 h)
theorem wu(t:Nat)(h:Hr):(bT t h).length<=4:=by
 delta bT aX;cases h.line with
 |none=>simp
 |some l=>simp
theorem CC{i:Nat}{F:DV}{l m:List a7}(h:F ds=U (.own m))(a:ds[i]? = U (U (.own l)))(b:l.length+m.length<=1000000)(e:ds.set i (U (.own (l++m)))=ds'):rM i F ds=U (.next ds'):=by delta rM;rw[h,g8,a,<-e];exact b3 b
theorem w4{g:FV}{Fa Fb:DV}{x y:PV}{r:Option PV}(b:Fa ds=U x)(a:Fb ds=U y)(e:g [x.d,y.d]=r):b4 g (a8 Fa (a8 Fb d6)) ds=r:=by delta b4 a8;rw[b,g8,a,g8];exact e
structure hB(h:i4):Prop where
 k:k8 20 h.kept
 l:k8 20 h.left
 n:h.hs.length<=1000
 w:h.ws.length<=100
 f:∀j,j<h.ws.length->0<=(h.ws.getD j H0).first/\(h.ws.getD j H0).first<=(h.ws.getD j H0).last/\(h.ws.getD j H0).last<(h.hs.length:Int)
theorem TN(h:i4)(H:hB h){t:Nat}(a:t<h.hs.length){l:List Ch}(b:l.length<=900000):
  dR [sd (f5 h),U (.own (l.map F2)),sd (.int (t:Int)),sd (n6 (h.hs.getD t r9))]=U (.next [sd (f5 h),U (.own ((l++R1 h t).map F2)),sd (.int (t:Int)),sd (n6 (h.hs.getD t r9))]):=by
 have:=wu t (h.hs.getD t r9);refine g0 (CC (w4 rfl rfl (Xt t _)) rfl (by rw[o9,o9];lia) rfl) ?_;refine CC (w4 rfl rfl (Qz h H.k H.l a H.n)) rfl ?_ ?_;rw[U6,o9,o9,o9];show _+3<=_;lia;delta R1;simp only[V9,Oy];rfl
theorem TM(h:i4)(H:hB h)(b:j<h.ws.length){l:List Ch}(g:l.length<=900000)(a:Option PV):
  dQ [sd (f5 h),U (.own (l.map F2)),sd (.int (j:Int)),a]=U (.next [sd (f5 h),U (.own ((l++X6 h j).map F2)),sd (.int (j:Int)),a]):=by
 obtain⟨d,e,c⟩:=H.f j b;have:=H.n;refine CC (w4 rfl rfl (Vs h b H.n d e c)) rfl ?_ ?_;rw[o9,o9];delta X6 AW;rw[W2,o9,sD];lia;simp
theorem tj(h:i4):∀i,((p9 i).flatMap (R1 h)).length<=7*i
 | 0=>o8
 |i+1=>by
  have:=tj h i;have:=wu i (h.hs.getD i r9);rw[gG,sI,U6];have:(List.flatMap (R1 h) [i]).length=(bT i (h.hs.getD i r9)).length+3:=by rw[xI,xE,Z9];delta R1;rw[U6];rfl
  lia
theorem AU(h:i4)(H:hB h){c:Nat}(a:h.hs.length<c):∀i,i<=h.ws.length->((p9 i).flatMap (X6 h)).length<=c*i
 | 0,_=>o8
 |i+1,hi=>by
  have:=AU h H a i aL;obtain⟨d,e,b⟩:=H.f i c6;rw[gG,sI,U6,Nat.mul_succ];have:(List.flatMap (X6 h) [i]).length<=c:=by
   rw[xI,xE,Z9];delta X6 AW;rw[W2,o9,sD];lia
  exact xx c6 c6
theorem JS(h:i4)(H:hB h):hH [f5 h]=U (.own ((f6 h).map F2)):=by
 have:=H.n;have:=H.w;refine T9 rfl ?_;refine g0 rfl ?_;have u:∃b a,A8 (t2 aR (a8 (b8 l7 (b7 0) (fC (.int 0))) d6)) (bE 2 (A7 2 (A7 3 bF))) dR [sd (f5 h),U (.own []),J,J]
   = U (.next [sd (f5 h),U (.own (((p9 h.hs.length).flatMap (R1 h)).map F2)),b,a]):=by
  delta A8;rw[show t2 aR (a8 (b8 l7 (b7 0) (fC (.int 0))) d6) [sd (f5 h),U (.own []),J,J]=U (O8 0 (h.hs.map n6))from rfl,g8]
  obtain⟨q,r,b,a,o⟩:=bJ (gt:=bE 2 (A7 2 (A7 3 bF))) (ds:=[sd (f5 h),U (.own []),J,J])
   (λi f=>∃b a,f=[sd (f5 h),U (.own (((p9 i).flatMap (R1 h)).map F2)),b,a]) ⟨J,J,rfl⟩ (by
    rintro i d f m ⟨b,a,e⟩;subst e;rw[qa,C5]at m;have k:i<h.hs.length:=by
     rcases sq i h.hs.length with z|z
     exact z;rw[ku z]at m;cases m
    rw[y4 k]at m;have t:h.hs.getD i r9=h.hs[i]:=by simp_all
    have j:=TN h H k (l:=(p9 i).flatMap (R1 h)) (by have:=tj h i;lia);rw[t]at j;cases m;rw[show(i:Int)=0+i from(N7 _).symm]at j
    refine⟨_,_,rfl,.inl j,sd (.int (0+i)),sd (n6 h.hs[i]),?_⟩;rw[gG,sI,xI,xE,Z9])
  rw[pZ,o9]at o;exact⟨b,a,by rw[r,o]⟩
 obtain⟨b,a,v⟩:=u;refine g0 v ?_;have s:∃g,A8 (t2 E2 (a8 (b4 u9 (a8 (b8 l7 (b7 0) (fC (.int 2))) d6)) d6)) (A1 2) dQ [sd (f5 h),U (.own (((p9 h.hs.length).flatMap (R1 h)).map F2)),b,a]
   = U (.next [sd (f5 h),U (.own ((f6 h).map F2)),g,a]):=by
  have p:t2 E2 (a8 (b4 u9 (a8 (b8 l7 (b7 0) (fC (.int 2))) d6)) d6) [sd (f5 h),U (.own (((p9 h.hs.length).flatMap (R1 h)).map F2)),b,a]=U (U8 0 h.ws.length):=by
   show E2 [.int (((h.ws.map K5).length))]=_;rw[o9,O3 b6];rfl
  delta A8;rw[p,g8];obtain⟨q,r,g,o⟩:=iw (gt:=A1 2) (n:=h.ws.length) (ds:=[sd (f5 h),U (.own (((p9 h.hs.length).flatMap (R1 h)).map F2)),b,a])
   (λi f=>∃g,f=[sd (f5 h),U (.own (((p9 h.hs.length).flatMap (R1 h)++(p9 i).flatMap (X6 h)).map F2)),g,a]) ⟨b,by simp⟩ (by
    rintro i f k ⟨g,e⟩;subst e;have:=tj h h.hs.length;have:=AU h H (c:=1001) (xG c6) i aL;have j:=TM h H k (l:=(p9 h.hs.length).flatMap (R1 h)++(p9 i).flatMap (X6 h)) (by rw[U6];lia) a;rw[show(i:Int)=0+i from(N7 _).symm]at j
    refine⟨_,_,rfl,.inl j,sd (.int (0+i)),?_⟩;rw[gG,sI,xI,xE,Z9,Oy])
  exact⟨g,by rw[r,o];rfl⟩
 obtain⟨g,p⟩:=s;exact g0 p rfl
def iJ(x:Hr):Q2:=(if x.need-x.aK<0 then -(x.need-x.aK)else x.need-x.aK,1)
def B1(h:i4):List Q2:=h.hs.map iJ++o1 h.hs.length (h.start,1)++h.ws.map λw=>(w.J9,1)
theorem Bw(n:Nat)(x:a7):(o1 n [x]).flatten=o1 n x:=by simp
theorem cL{F:DV}{pv:PV}(h:F ds=U pv):p4 F ds=U (.ret pv):=by delta p4;rw[h];rfl
theorem Lh(h:i4)(H:hB h):iO [f5 h]=U (.own ((B1 h).map fr)):=by
 have:=H.n;have:=H.w;refine T9 rfl ?_;refine g0 (j7 (Y9 rfl (by rw[o9];exact i0 c6 a6) (comp_map λx _=>⟨_,rfl,rfl⟩)) rfl) ?_
 have b:b4 u9 (a8 (b8 l7 (b7 0) (fC (.int 0))) d6) [sd (f5 h),sd (.list (h.hs.map λx=>fr (iJ x))),J]=sd (.int h.hs.length):=by
  show u9 [.tuple (h.hs.map n6)]=_;delta u9 d1;simp
 refine g0 (j7 (pv:=.own (o1 h.hs.length (fr (h.start,1)))) ((A6 rfl b).trans ?_) rfl) ?_;show cx (.list [fr (h.start,1)]) (.int h.hs.length)=_;delta cx;simp only[W2,gU,fj];rw[b3 ⟨⟨by simp[*],i0 c6 a6⟩,by lia⟩,Bw]
 . have c:j5 (D8 (b8 l7 (b7 0) (fC (.int 2)))) j8 j6 jS [sd (f5 h),sd (.list (h.hs.map λx=>fr (iJ x))),sd (.list (o1 h.hs.length (fr (h.start,1))))]=U (.own (h.ws.map λw=>fr (w.J9,1))) :=
     Y9 rfl (by rw[o9];exact dS) (comp_map λx _=>⟨_,rfl,rfl⟩)
   have a:b8 n8 (b7 1) (b7 2) [sd (f5 h),sd (.list (h.hs.map λx=>fr (iJ x))),sd (.list (o1 h.hs.length (fr (h.start,1))))]=U (.own ((h.hs.map λx=>fr (iJ x))++o1 h.hs.length (fr (h.start,1)))):=by refine(A6 rfl rfl).trans ?_;exact b3 (by rw[o9,pq];lia)
   refine cL ((A6 (f:=n8) a c).trans ?_);refine(b3 (by rw[U6,o9,o9,pq];lia)).trans ?_;delta B1;simp only[V9,cA,OH];rfl
theorem Xx(p q:Q2):F3 (fr p) (fr q)=sd (.bool (decide (p=q))):=by
 have a:(if S3 (fr p)=Uf/\S3 (fr q)=Uf then U (PV.dat (.bool (!PyData.eqv (fr p) (fr q))))else J)=U (PV.dat (.bool (decide (p≠q)))):=(Hu p q);show(if S3 (fr p)=Uf/\S3 (fr q)=Uf then U (PV.dat (.bool (N6 (fr p) (fr q))))else J)=_
 simp_all
def ny(x:Hr):Str:=if x.aK<=x.need then "lacked" else "spilt"
def M9(h:i4):List (List Key):=((p9 h.hs.length).map λt=>k2 (ny (h.hs.getD t r9)) t)++((p9 h.hs.length).map λt=>k2 "level" t)++(p9 h.ws.length).map λj=>k2 "undone" j
theorem rn{b:Type}(g:b->a7)(a:b)(l:List b):l.map g=rl l.length λi=>g (l.getD i a):=by
 refine oX (by simp[rl]) λi d e=>?_
 have c:i<l.length:=by simpa using d
 simp[y4 c]
theorem xb{Fa Fb:DV}{x y:PV}(a:Fa ds=U x)(b:Fb ds=U y):a8 Fa (a8 Fb d6) ds=U [x.d,y.d]:=by delta a8;rw[a,g8,b,g8];rfl
theorem a0C(h:i4)(t:Nat)(x:Hr)(ds:Ds):hJ (sd (.int ((t:Nat):Int))::sd (n6 x)::ds)=sd (B3 (k2 (ny x) t)):=by
 have b:eG (k9 (b8 F3 (b4 bZ (a8 (b7 1) d6)) (f9 (a8 (fC (.int 1)) (a8 (fC (.int 1)) d6))))) (fC (.str "lacked")) (fC (.str "spilt")) (sd (.int t)::sd (n6 x)::ds)=sd (.str (ny x)):=by
  have a:b8 F3 (b4 bZ (a8 (b7 1) d6)) (f9 (a8 (fC (.int 1)) (a8 (fC (.int 1)) d6))) (sd (.int t)::sd (n6 x)::ds)=sd (.bool (decide (F4 x=(1,1)))) :=
   (A6 (x:=.dat (fr (F4 x))) (y:=.dat (fr (1,1))) (oj x) rfl).trans (Xx _ _)
  delta eG k9;rw[a];delta ny F4;by_cases e:x.aK<=x.need;rw[b3 e,b3 e];rfl;rw[b0 e,b0 e];rfl
 refine(m2 (λo=>Dn o _) (xb b rfl)).trans ?_;rfl
theorem SG(h:i4)(H:hB h):cc [f5 h]=U (.own ((M9 h).map B3)):=by
 have:=H.n;have:=H.w;refine T9 rfl ?_;refine g0 (j7 (Y9 (items:=rl h.hs.length λt=>.tuple [.int (0+t),n6 (h.hs.getD t r9)]) ?_ (by rw[u6];exact i0 c6 a6) (C9 λt b=>⟨[.int (0+t),n6 (h.hs.getD t r9)],.dat (B3 (k2 (ny (h.hs.getD t r9)) t)),rfl,?_,rfl⟩)) rfl) ?_;show U (O8 0 (h.hs.map n6))=_;rw[rn n6 r9,oy];rw[show(0:Int)+t=t from N7 _];exact a0C h t _ _
 have d:∀a,t2 E2 (a8 (b4 u9 (a8 (b8 l7 (b7 0) (fC (.int 0))) d6)) d6) (sd (f5 h)::a)=U (U8 0 h.hs.length):=λa=>by
  show E2 [.int (((h.hs.map n6).length))]=_;rw[o9,O3 b6];rfl
 have f:∀a,t2 E2 (a8 (b4 u9 (a8 (b8 l7 (b7 0) (fC (.int 2))) d6)) d6) (sd (f5 h)::a)=U (U8 0 h.ws.length):=λa=>by
  show E2 [.int (((h.ws.map K5).length))]=_;rw[o9,O3 b6];rfl
 refine g0 (j7 (Y9 (d _) (by rw[nQ];exact i0 c6 a6) (qi λt b=>⟨.dat (B3 (k2 "level" t)),?_,rfl⟩)) rfl) ?_;exact aN (by rw[show(0:Int)+t=t from N7 _];rfl)
 have e:j5 (t2 E2 (a8 (b4 u9 (a8 (b8 l7 (b7 0) (fC (.int 2))) d6)) d6)) j8 j6 hI [sd (f5 h),sd (.list (rl h.hs.length λt=>B3 (k2 (ny (h.hs.getD t r9)) t))),sd (.list (rl h.hs.length λt=>B3 (k2 "level" t)))]=U (.own (rl h.ws.length λj=>B3 (k2 "undone" j))) :=
  Y9 (f _) (by rw[nQ];exact dS) (qi λt b=>⟨.dat (B3 (k2 "undone" t)),aN (by rw[show(0:Int)+t=t from N7 _];rfl),rfl⟩)
 have c:b8 n8 (b7 1) (b7 2) [sd (f5 h),sd (.list (rl h.hs.length λt=>B3 (k2 (ny (h.hs.getD t r9)) t))),sd (.list (rl h.hs.length λt=>B3 (k2 "level" t)))]=U (.own ((rl h.hs.length λt=>B3 (k2 (ny (h.hs.getD t r9)) t))++rl h.hs.length λt=>B3 (k2 "level" t))):=by refine(A6 rfl rfl).trans ?_;exact b3 (by rw[u6,u6];lia)
 refine cL ((A6 c e).trans ?_);refine(b3 (by rw[U6,u6,u6,u6];lia)).trans ?_;delta M9;simp only[V9,cA];rfl
theorem Tv(x y:Key):N6 (Y7 x) (Y7 y)=decide (x=y):=by rw[oV,decide_eq_true_iff];cases x<;>cases y<;>simp[Y7,N6]
theorem CG:∀a b:List Key,sv (a.map Y7) (b.map Y7)=decide (a=b)
 | [],[]=>by rfl
 | [],_::_=>by rfl
 |_::_,[]=>by rfl
 |x::a,y::b=>by rw[m6,m6,sv,Tv,CG a b];simp
def PN(k:List Key):Prop:=∀s:Str,(eL s:Key)∈k->Dp s=Uf
theorem uY:∀a:List Key,PN a->bN (a.map Y7)=Uf
 | [],_=>by rfl
 |x::a,h=>by
  rw[m6,bN,uY a λs b=>h s (m5 _ b)]
  cases x with
  |inl i=>rfl
  |inr s=>simp[Y7,df,h s m8]
theorem Cd:∀ks:List (List Key),(∀k∈ks,PN k)->bN ((ks.map B3).map un)=Uf
 | [],_=>by rfl
 |k::ks,h=>by
  rw[m6,m6,bN,Cd ks λa b=>h a (m5 _ b)];show(df (.tuple (k.map Y7))&&Uf)=Uf;rw[df,uY k (h k m8)];rfl
theorem CJ:∀a:List Key,oS (a.map Y7)<=1
 | []=>by simp[oS]
 |x::a=>by have:=CJ a;rw[m6,oS];cases x<;>simp[Y7,sj]<;>omega
theorem zQ(k:List Key):∀ks:List (List Key),(((ks.map B3).map un).findIdx? λe=>N6 e (un (B3 k)))=ks.findIdx? λa=>decide (a=k)
 | []=>rfl
 |a::ks=>by
  rw[m6,m6,OF,OF,zQ k ks];have:N6 (un (B3 a)) (un (B3 k))=decide (a=k):=by
   show N6 (.tuple (a.map Y7)) (.tuple (k.map Y7))=_;rw[N6,CG]
  rw[this]
theorem Nm{ks:List (List Key)}{k:List Key}(b:∀a∈ks,PN a)(l:ks.length<=1000000)(c:ks[j]? = U k)(m:ks.Nodup):kG (.list (ks.map B3)) [B3 k]=sd (.int (j:Int)):=by
 show tJ (.list ((ks.map B3).map un)) [un (B3 k)]=_
 delta tJ;have g:(un (B3 k)).canLay0=Uf:=by
  show df (.tuple (k.map Y7))=Uf;rw[df,uY k (b k (lZ c))]
 have f:(un (B3 k)).depth<=10:=by
  have:=CJ k;show sj (.tuple (k.map Y7))<=10;rw[sj];exact lU c6 a6
 simp only;rw[b3 ⟨Cd ks b,g,f,by rw[o9,o9];exact l⟩,zQ]
 have:(ks.findIdx? λa=>decide (a=k))=U j:=by
  obtain⟨h,d⟩:=List.getElem?_eq_some_iff.mp c;rw[List.findIdx?_eq_some_iff_getElem];refine⟨h,dg d,λi n=>?_⟩;simp only[decide_eq_true_eq];intro e;have:=(Ow m).mp (e.trans d.symm);lia
 rw[this];rfl
theorem jf{s:Str}{t:Nat}(h:k2 s t=k2 s' t'):s=s'/\t=t':=by
 injection h with h1 h2
 injection h1 with h1
 injection h2 with h2 _
 injection h2 with h2
 exact⟨h1,by lia⟩
theorem a1Q{s:Str}(t t':Nat)(h:s≠s'):k2 s t≠k2 s' t':=λe=>h (jf e).1
theorem Xs(h:i4)(t:Nat):(R1 h t).Pairwise λa b=>a.k≠b.k:=by
 have e:∀l:List Ch,(l.map (·.k)).Nodup->l.Pairwise λa b=>a.k≠b.k:=λl f=>List.pairwise_map.mp f;have p:∀c:List Str,c.Nodup->(c.map λs=>k2 s t).Nodup:=λc d=>List.pairwise_map.mpr (d.imp λz=>a1Q t t z)
 refine e _ ?_;delta R1 bT aX ah;cases(h.hs.getD t r9).line with
 |none=>exact p ["lacked","spilt","filled","taken","level"] i6
 |some l=>exact p ["lacked","spilt","bought","given","filled","taken","level"] i6
theorem oo(h:i4)(t:Nat){x:Ch}(a:x∈R1 h t):∃s:Str,s∈(["lacked","spilt","bought","given","filled","taken","level"]:List Str)/\x.k=k2 s t:=by
 unfold R1 bT aX ah at a;cases hl:(h.hs.getD t r9).line with
 |none =>
  rw[hl]at a;simp only[W0,Z8,Q1,dM,bc]at a;rcases a with rfl|rfl|rfl|rfl|rfl<;>exact⟨_,by grind,rfl⟩
 |some l =>
  rw[hl]at a;simp only[W0,Z8,Q1,dM,bc]at a;rcases a with rfl|rfl|rfl|rfl|rfl|rfl|rfl<;>exact⟨_,by grind,rfl⟩
theorem qT(h:i4)(j:Nat){x:Ch}(a:x∈X6 h j):x.k=k2 "undone" j\/∃i,x.k=[.inr "worked",.inl (((h.ws.getD j H0).first.toNat+i:Nat):Int),.inl (j:Int)]:=by
 rcases List.mem_cons.mp a with rfl|a
 exact .inl rfl;obtain⟨i,_,rfl⟩:=mem_map.mp a;exact .inr ⟨i,rfl⟩
theorem Vu(h:i4)(j:Nat):(X6 h j).Pairwise λa b=>a.k≠b.k:=by
 refine List.Pairwise.cons (λx c=>?_) ?_;obtain⟨i,_,rfl⟩:=mem_map.mp c;intro e;have:=m2 gQ e;simp[Z4,qS,k2]at this;refine List.pairwise_map.mpr ((DX).imp λ{a b} ne e=>?_);simp only[qS]at e;exact ne b6
theorem mL(h:i4):((f6 h).map (·.k)).Nodup:=by
 refine List.pairwise_map.mpr ?_;refine List.pairwise_append.mpr ⟨?_,?_,?_⟩;refine List.pairwise_flatMap.mpr ⟨λt _=>Xs h t,(DX).imp λ{a b} ne x c y d e=>?_⟩;obtain⟨s,_,g⟩:=oo h a c;obtain⟨m,_,f⟩:=oo h b d;rw[g,f]at e;exact ne (jf e).2
 . refine List.pairwise_flatMap.mpr ⟨λt _=>Vu h t,(DX).imp λ{a b} ne x c y d e=>?_⟩
   rcases qT h a c with g|⟨i,g⟩<;>rcases qT h b d with f|⟨n,f⟩<;>rw[g,f]at e
   exact ne (jf e).2;have:=m2 gQ e;simp[k2]at this;have:=m2 gQ e;simp[k2]at this;simp only[Ob]at e;exact ne b6
 . intro x c y d e;obtain⟨t,_,c⟩:=mem_flatMap.mp c;obtain⟨j,_,d⟩:=mem_flatMap.mp d;obtain⟨s,l,g⟩:=oo h t c;rcases qT h j d with f|⟨i,f⟩<;>rw[g,f]at e
   rw[(jf e).1]at l;exact absurd l i6;have:=m2 gQ e;simp[k2]at this
theorem ML{s:Str}(t:Nat)(h:Dp s=Uf):PN (k2 s t):=λz a=>by
 unfold k2 at a
 simp_all
theorem Xl(h:i4):∀k∈(f6 h).map (·.k),PN k:=by
 intro k d;obtain⟨x,a,rfl⟩:=mem_map.mp d;rcases List.mem_append.mp a with a|a
 . obtain⟨t,_,a⟩:=mem_flatMap.mp a;obtain⟨s,c,e⟩:=oo h t a;rw[e];have:∀s∈(["lacked","spilt","bought","given","filled","taken","level"]:List Str),Dp s=Uf:=by decide +kernel
   exact ML t (this s c)
 . obtain⟨j,_,a⟩:=mem_flatMap.mp a;rcases qT h j a with e|⟨i,e⟩
   rw[e];exact ML j i6;rw[e];intro z b;simp only[Q1,dM,bc,Sum.inr.injEq,reduceCtorEq]at b;rw[b];decide +kernel
def cq(m n:Nat)(M:Nat->Nat->a7):PV:=.ob J (.seq Uf (hW ((p9 m).map λp=>PF.own (rl n (M p)))))
def pG(M:Nat->Nat->a7)(p j:Nat)(d:a7):Nat->Nat->a7:=λa b=>if a=p/\b=j then d else M a b
theorem YO{n:Nat}(f:Nat->a7)(d:a7):(rl n f).set j d=rl n λb=>if b=j then d else f b:=by
 refine oX (by simp[rl]) λi a c=>?_;simp only[DY,oW,Eh];by_cases e:j=i;rw[b3 e,b3 e.symm];rw[b0 e,b0 λz=>e z.symm]
theorem QD{m n p:Nat}{M:Nat->Nat->a7}{Fr Fk Fv:DV}{pv:PV}(c:ds[2]? = U (U (cq m n M)))(f:p<m)(h:j<n)(l:Fr ds=sd (.int (p:Int)))(g:Fk ds=sd (.int (j:Int)))(o:Fv ds=U pv):
  wB 2 Fr Fk Fv ds=U (.next (ds.set 2 (U (cq m n (pG M p j pv.d))))):=by
 have k:yr 2 p ds=U (J,hW ((p9 m).map λp=>PF.own (rl n (M p))),jr,p,rl n (M p)):=by
  delta yr;rw[c];simp only[cq];rw[fR (by simp[hW];exact f),g8];simp[hW,f]
 delta wB;rw[o,l,g];show((yr 2 p ds).bind λx=>(gy x.2.2.2.2.length j).bind λj=>U (Out.next (ds.set 2 (U (.ob x.1 (.seq Uf (x.2.1.set x.2.2.2.1 (x.2.2.1,.own (x.2.2.2.2.set j pv.d)))))))))=_
 rw[k,g8];rw[u6,fR h,g8,YO];have e:(hW ((p9 m).map λp=>PF.own (rl n (M p)))).set p (jr,PF.own (rl n λb=>if b=j then pv.d else M p b))=hW ((p9 m).map λa=>PF.own (rl n (pG M p j pv.d a))):=by
  delta hW;refine oX i9 λi q c=>?_;simp only[DY,oW,Eh];by_cases z:p=i;subst z;delta pG;simp;rw[b0 z];delta pG;have:∀b,(if i=p/\b=j then pv.d else M i b)=M i b:=λb=>b0 λy=>z y.1.symm;simp only[this]
 rw[e];rfl
def foldM(j:Nat)(ns:List (Nat×Q2))(M:Nat->Nat->a7):Nat->Nat->a7:=ns.foldl (λM e=>pG M e.1 j (fr e.2)) M
theorem GP{m n j:Nat}(f:j<n){d0 d1 d4:Option PV}:∀(ns:List (Nat×Q2)) (M:Nat->Nat->a7) (a b:Option PV),(∀e∈ns,e.1<m) ->
  ∃c d,V1 (bE 2 (A7 5 (A7 6 bF))) iS (ns.map kZ) [d0,d1,U (cq m n M),sd (.int (j:Int)),d4,a,b]=U (.next [d0,d1,U (cq m n (foldM j ns M)),sd (.int (j:Int)),d4,c,d])
 | [],M,a,b,_=>⟨a,b,rfl⟩
 |e::ns,M,a,b,h=>by
  obtain⟨c,d,k⟩:=GP f ns (pG M e.1 j (fr e.2)) (sd (.int e.1)) (sd (fr e.2)) λx g=>h x (m5 _ g)
  refine⟨c,d,?_⟩;have i:iS [d0,d1,U (cq m n M),sd (.int j),d4,sd (.int e.1),sd (fr e.2)]=U (.next [d0,d1,U (cq m n (pG M e.1 j (fr e.2))),sd (.int j),d4,sd (.int e.1),sd (fr e.2)]) :=
   QD (Fv:=b7 6) (ds:=[d0,d1,U (cq m n M),sd (.int j),d4,sd (.int e.1),sd (fr e.2)]) rfl (h e m8) f rfl rfl rfl
  rw[m6,K8 rfl i,k];rfl
def ur:Ch:=⟨[],⟨(0,1),(0,1),(0,1)⟩,J,[]⟩
def allM(C:List Ch):Nat->Nat->Nat->a7
 | 0=>λ_ _=>fr (0,1)
 |j+1=>foldM j (C.getD j ur).ns (allM C j)
theorem VU{C:List Ch}{m:Nat}(N:m<=100000)(K:C.length<=100000)(v:∀x∈C,∀e∈x.ns,e.1<m):mW [.list (C.map F2),.int (m:Int)]=U (cq m C.length (allM C C.length)):=by
 refine T9 rfl ?_;refine g0 (ds1:=[sd (.list (C.map F2)),sd (.int m),U (cq m C.length (allM C 0)),J,J,J,J]) ?_ ?_
 . have w:lu (t2 E2 (a8 (b7 1) d6)) j8 aI [sd (.list (C.map F2)),sd (.int m),J,J,J,J,J]=U (cq m C.length (allM C 0)):=by
     have I:∀d:a7,aI (sd d::[sd (.list (C.map F2)),sd (.int m),J,J,J,J,J])=U (.own (rl C.length λ_=>fr (0,1))):=λd=>by
      have r:b4 u9 (a8 (b7 1) d6) (sd d::[sd (.list (C.map F2)),sd (.int m),J,J,J,J,J])=sd (.int C.length):=by
       show u9 [.list (C.map F2)]=_;delta u9 d1;simp
      refine(A6 rfl r).trans ?_;show cx (.list [fr (0,1)]) (.int C.length)=_;delta cx;simp only[W2,gU];rw[b3 ⟨⟨by simp[*],by simp[*]⟩,by simp[*]⟩,Bw]
      congr 2
      refine oX (by simp[rl]) λi L M=>?_;simp[rl]
     have B:∀l:List Nat,wN j8 aI [sd (.list (C.map F2)),sd (.int m),J,J,J,J,J] (l.map λk=>.int (0+(k:Nat)))=U (l.map λ_=>PF.own (rl C.length λ_=>fr (0,1))):=λl=>by
      induction l with
      |nil=>rfl
      |cons a l E =>
       show((aI (sd (.int (0+a))::[sd (.list (C.map F2)),sd (.int m),J,J,J,J,J])).bind λy=>(fe y).bind λp=>(wN j8 aI _ (l.map λk=>.int (0+(k:Nat)))).bind λl=>U (p::l))=_;rw[I,E];rfl
     delta lu;rw[show t2 E2 (a8 (b7 1) d6) [sd (.list (C.map F2)),sd (.int m),J,J,J,J,J]=U (U8 0 m) by
      show E2 [.int m]=_
      rw[O3 b6];rfl,g8,b3 (by rw[nQ];exact i0 c6 a6)]
     rw[show U8 0 m=(p9 m).map λk=>P0 (0+(k:Nat))from rfl,B];rfl
   exact m2 (λo=>Jy o 2 _) w
 have F:∃f g b c,A8 (t2 aR (a8 (b7 0) d6)) (bE 2 (A7 3 (A7 4 bF))) iR [sd (.list (C.map F2)),sd (.int m),U (cq m C.length (allM C 0)),J,J,J,J]
   = U (.next [sd (.list (C.map F2)),sd (.int m),U (cq m C.length (allM C C.length)),f,g,b,c]):=by
  delta A8;rw[show t2 aR (a8 (b7 0) d6) [sd (.list (C.map F2)),sd (.int m),U (cq m C.length (allM C 0)),J,J,J,J]=U (O8 0 (C.map F2))from rfl,g8]
  obtain⟨u,D,f,g,b,c,t⟩:=bJ (gt:=bE 2 (A7 3 (A7 4 bF))) (G:=iR) (items:=O8 0 (C.map F2))
   (λi s=>∃f g b c,s=[sd (.list (C.map F2)),sd (.int m),U (cq m C.length (allM C i)),f,g,b,c]) ⟨J,J,J,J,rfl⟩ (by
    rintro i d s h ⟨f,g,b,c,e⟩;subst e;rw[qa,C5]at h;have j:i<C.length:=by
     rcases sq i C.length with z|z
     exact z;rw[ku z]at h;exact nE h
    rw[y4 j]at h;have q:C.getD i ur=C[i]:=by rw[cE,y4 j];rfl
    obtain⟨A,H,n⟩:=GP j C[i].ns (allM C i) b c (v C[i] (oY j));rw[<-q]at n;rw[show(i:Int)=0+i from(N7 _).symm]at n;rw[q]at n;cases h;refine⟨_,_,rfl,.inl n,sd (.int (0+i)),sd (F2 C[i]),A,H,?_⟩;show _=[_,_,U (cq m C.length (foldM i (C.getD i ur).ns (allM C i))),_,_,_,_]
    rw[q])
  rw[pZ,o9]at t;exact⟨f,g,b,c,by rw[D,t]⟩
 obtain⟨f,g,b,c,r⟩:=F;exact g0 r rfl
def BO(ns:List (Nat×Q2))(o:a7)(a:Nat):a7:=ns.foldl (λo e=>if a=e.1 then fr e.2 else o) o
theorem Ct(j:Nat):∀(ns:List (Nat×Q2)) (M:Nat->Nat->a7) (a b:Nat),foldM j ns M a b=if b=j then BO ns (M a b) a else M a b
 | [],M,a,b=>by split<;>rfl
 |e::ns,M,a,b=>by
  show foldM j ns (pG M e.1 j (fr e.2)) a b=if b=j then BO ns (if a=e.1 then fr e.2 else M a b) a else M a b;rw[Ct j ns];delta pG;by_cases h:b=j;rw[b3 h,b3 h];by_cases c:a=e.1;rw[b3 ⟨c,h⟩,b3 c];rw[b0 (λz=>c z.1),b0 c];rw[b0 h,b0 h,b0 (λz=>h z.2)]
theorem Ie(C:List Ch):∀(n a j:Nat),allM C n a j=if j<n then BO (C.getD j ur).ns (fr (0,1)) a else fr (0,1)
 | 0,a,j=>by rfl
 |n+1,a,j=>by
  show foldM n (C.getD n ur).ns (allM C n) a j=_;rw[Ct,Ie C n a j];by_cases h:j=n;subst h;rw[b3 rfl,b0 (S5 _),b3 (sA _)];rw[b0 h];by_cases b:j<n;rw[b3 b,b3 aW];rw[b0 b,b0 b6]
end
def ls(f:Ch->Rat):List Ch->Rat
 | []=>0
 |x::l=>f x+ls f l
theorem lg(f:Ch->Rat):∀a b,ls f (a++b)=ls f a+ls f b
 | [],b=>by show ls f b=0+ls f b;grind
 |x::a,b=>by show f x+ls f (a++b)=f x+ls f a+ls f b;rw[lg f a b];grind
theorem Mx(f:Ch->Rat)(C:List Ch):∀n,n<=C.length->d5 (λj=>f (C.getD j ur)) n=ls f (C.take n)
 | 0,_=>by rfl
 |n+1,h=>by
  show d5 _ n+f (C.getD n ur)=_;rw[Mx f C n aL,List.take_add_one,lg,cE,y4 c6];show _=_+(f (C[n])+0);grind
theorem oa(f:Ch->Rat)(g:Nat->List Ch):∀n,ls f ((p9 n).flatMap g)=d5 (λt=>ls f (g t)) n
 | 0=>rfl
 |n+1=>by
  rw[gG,sI,lg,oa f g n];show _+ls f (g n++[])=_;rw[Z9];rfl
theorem BV(f:Ch->Rat)(g:Nat->Ch):∀n,ls f ((p9 n).map g)=d5 (λi=>f (g i)) n
 | 0=>rfl
 |n+1=>by
  rw[gG,V9,lg,BV f g n];show _+(f (g n)+0)=_+f (g n);grind
theorem nM{g:Nat->Rat}(a b:Nat):∀n,d5 (λi=>if a=b+i then g i else 0) n=if b<=a/\a<b+n then g (a-b)else 0
 | 0=>by rw[b0 j1];rfl
 |n+1=>by
  show d5 _ n+(if a=b+n then g n else 0)=_;rw[nM a b n];by_cases h:a=b+n;rw[b3 h,b0 j1,b3 j1,show a-b=n by simp[*]];grind;rw[b0 h];by_cases c:b<=a/\a<b+n;rw[b3 c,b3 b6];grind;rw[b0 c,b0 b6];grind
theorem GB{g:Nat->Rat}(s:Nat):∀n,d5 (λi=>if i<=s then g i else 0) n=d5 g (if n<=s then n else s+1)
 | 0=>by rfl
 |n+1=>by
  show d5 _ n+(if n<=s then g n else 0)=_;rw[GB s n];by_cases h:n+1<=s;rw[b3 aL,b3 aL,b3 h];rfl;rw[b0 h];by_cases a:n=s;rw[b3 (lJ c6),b3 (lJ c6),a];rfl;rw[b0 b6,b0 b6];grind
def cM(ns:List (Nat×Q2))(o:Q2)(a:Nat):Q2:=ns.foldl (λo e=>if a=e.1 then e.2 else o) o
theorem Hk(a:Nat):∀(ns:List (Nat×Q2)) (o:Q2),BO ns (fr o) a=fr (cM ns o a)
 | [],_=>rfl
 |e::ns,o=>by
  show BO ns (if a=e.1 then fr e.2 else fr o) a=fr (cM ns (if a=e.1 then e.2 else o) a)
  rw[<-Hk a ns];split<;>rfl
theorem Mn(b:Nat)(q o:Q2)(p:Nat):∀n,cM ((p9 n).map λi=>(b+i,q)) o p=if b<=p/\p<b+n then q else o
 | 0=>by rw[b0 j1];rfl
 |n+1=>by
  rw[gG,V9];delta cM;rw[List.foldl_append];show(if p=b+n then q else cM _ o p)=_;rw[Mn b q o p n];by_cases h:p=b+n;rw[b3 h,b3 j1];rw[b0 h];by_cases a:b<=p/\p<b+n;rw[b3 a,b3 b6];rw[b0 a,b0 b6]
theorem Hl{N t:Nat}(c:t<N)(a q:Q2)(p:Nat):cM ((t,a)::eZ N t q) q0 p=if p=t then a else if N+t<=p/\p<2*N then q else q0:=by
 show cM (eZ N t q) (if p=t then a else q0) p=_;delta eZ;rw[Mn];by_cases h:p=t;rw[b0 b6,b3 h,b3 h];rw[b0 h,b0 h];by_cases b:N+t<=p/\p<2*N;rw[b3 b,b3 b6];rw[b0 b,b0 b6]
structure Pl where
 lk:Nat->Rat
 sp:Nat->Rat
 bo:Nat->Rat
 gv:Nat->Rat
 fl:Nat->Rat
 tk:Nat->Rat
 lv:Nat->Rat
 un:Nat->Rat
 wk:Nat->Nat->Rat
def mr(t j:Nat):List Key:=[.inr "worked",.inl (t:Int),.inl (j:Int)]
structure Ag(h:i4)(Y:List Key->Rat)(P:Pl):Prop where
 lk:∀t,Y (k2 "lacked" t)=P.lk t
 sp:∀t,Y (k2 "spilt" t)=P.sp t
 bo:∀t,(h.hs.getD t r9).line≠J->Y (k2 "bought" t)=P.bo t/\Y (k2 "given" t)=P.gv t
 nl:∀t,(h.hs.getD t r9).line=J->P.bo t=0/\P.gv t=0
 fl:∀t,Y (k2 "filled" t)=P.fl t
 tk:∀t,Y (k2 "taken" t)=P.tk t
 lv:∀t,Y (k2 "level" t)=P.lv t
 un:∀j,Y (k2 "undone" j)=P.un j
 wk:∀t j,Y (mr t j)=P.wk t j
section
variable{h:i4}{Y:List Key->Rat}{P:Pl}
def gq(x:Hr):Rat:=if x.aK<=x.need then 1 else -1
theorem aM(n:Int):val (n,1)=(n:Rat):=val_one n
theorem uE(x:Hr):val (F4 x)=gq x:=by delta F4 gq;split<;>rw[aM]<;>rfl
theorem sU(x:Hr):val (outF x) = - gq x:=by
 delta outF gq;split<;>rw[aM]
 rfl;rfl
def fy(Y:List Key->Rat)(p:Nat)(x:Ch):Rat:=val (cM x.ns q0 p)*Y x.k
theorem bS{c:Prop}[Decidable c](a b:Q2):val (if c then a else b)=if c then val a else val b:=by split<;>rfl
theorem a0y(A:Ag h Y P)(H:hB h){t:Nat}(m:t<h.n)(p:Nat):ls (fy Y p) (R1 h t) =
  (if p=t then gq (h.hr t)*(P.lk t+P.bo t+val h.left*P.tk t-P.sp t-P.gv t-P.fl t)else 0)+(if h.n+t<=p/\p<2*h.n then P.tk t-val h.kept*P.fl t else 0)+if p=h.n+t then P.lv t else 0:=by
 have g:∀q:Q2,cM [(t,q)] q0 p=if p=t then q else q0:=λ_=>rfl;have o:cM [(h.n+t,((1,1)))] q0 p=if p=h.n+t then(1,1)else q0:=rfl
 have u:val (C3 (F4 (h.hr t)) h.left)=gq (h.hr t)*val h.left:=by rw[qU (by delta F4;split<;>decide) H.l.pos,uE]
 have s:val (cN (0,1) h.kept) = - val h.kept:=by rw[zm a6 H.k.pos,show val (0,1)=0 from X7];grind
 have r:ls (fy Y p) (ah h t)=(if p=t then gq (h.hr t)*(val h.left*P.tk t-P.fl t)else 0)+(if h.n+t<=p/\p<2*h.n then P.tk t-val h.kept*P.fl t else 0)+if p=h.n+t then P.lv t else 0:=by
  delta ah;simp only[ls,fy];rw[Hl m,Hl m,o,A.fl,A.tk,A.lv,bS,bS,bS,bS,bS,u,s,(aM 1),sU,X7];by_cases e:p=t;rw[b3 e,b3 e,b3 e,b0 b6,b0 b6,b0 b6];grind
  . rw[b0 e,b0 e,b0 e];by_cases f:h.n+t<=p/\p<2*h.n
    . rw[b3 f,b3 f,b3 f];split<;>grind
    . rw[b0 f,b0 f,b0 f];split<;>grind
 delta R1 bT aX;rw[lg,r];cases hl:(h.hr t).line with
 |none =>
  obtain⟨j,i⟩:=A.nl t hl;simp only[Z9,ls,fy];rw[g,g,A.lk,A.sp,bS,bS,uE,sU,X7,j,i];by_cases e:p=t;rw[b3 e,b3 e,b3 e,b3 e];grind;rw[b0 e,b0 e,b0 e,b0 e];grind
 |some l =>
  obtain⟨a,b,c,d⟩:=l;obtain⟨j,i⟩:=A.bo t (by rw[hl];simp);simp only[W0,Z8,ls,fy];rw[g,g,A.lk,A.sp,j,i,bS,bS,uE,sU,X7];by_cases e:p=t;rw[b3 e,b3 e,b3 e,b3 e];grind;rw[b0 e,b0 e,b0 e,b0 e];grind
end
section
variable{j p:Nat}
section
variable{h:i4}{Y:List Key->Rat}{P:Pl}
abbrev M5(h:i4)(j:Nat):Nat:=(h.ws.getD j H0).first.toNat
abbrev cv(h:i4)(j:Nat):Nat:=AW (h.ws.getD j H0)
noncomputable def mq(h:i4)(P:Pl)(s:Nat):Rat:=d5 (λj=>if M5 h j<=s/\s<M5 h j+cv h j then P.wk s j else 0) h.ws.length
theorem Yd(A:Ag h Y P)(H:hB h)(g:j<h.w)(p:Nat):ls (fy Y p) (X6 h j) =
  (if p=2*h.n+j then P.un j+d5 (λi=>P.wk (M5 h j+i) j) (cv h j)else 0)+if M5 h j<=p/\p<M5 h j+cv h j then-gq (h.hr p)*P.wk p j else 0:=by
 have:=H.f j g;show fy Y p (Z4 h j)+ls _ _=_;have d:cM [(2*h.n+j,((1,1)))] q0 p=if p=2*h.n+j then(1,1)else q0:=rfl
 have c:=aM 1;have l:fy Y p (Z4 h j)=if p=2*h.n+j then P.un j else 0:=by
  show val (cM [(2*h.n+j,(1,1))] q0 p)*Y (k2 "undone" j)=_
  rw[d,A.un,bS,c,X7];split<;>grind
 have e:∀i,i<cv h j->fy Y p (qS h j (M5 h j+i))=(if p=2*h.n+j then P.wk (M5 h j+i) j else 0)+if p=M5 h j+i then-gq (h.hr (M5 h j+i))*P.wk (M5 h j+i) j else 0:=λi k=>by
  have:i<((h.wk j).last+1-(h.wk j).first).toNat:=k;show val (if p=2*h.n+j then(1,1)else if p=M5 h j+i then outF (h.hr (M5 h j+i))else q0)*Y (mr (M5 h j+i) j)=_;rw[A.wk,bS,bS,c,X7,sU];by_cases a:p=2*h.n+j;rw[b3 a,b3 a,b0 b6];grind
  . rw[b0 a,b0 a];split<;>grind
 rw[l,BV,j4 _ e,Y0,nM];by_cases b:M5 h j<=p/\p<M5 h j+cv h j
 . have:p<h.n:=by
     have:p<M5 h j+((h.wk j).last+1-(h.wk j).first).toNat:=b.2;lia
   rw[j4 _ λi _=>b0 b6,fJ];grind
 rw[b0 b,b0 b];by_cases a:p=2*h.n+j;rw[b3 a,b3 a,j4 _ λi _=>b3 a];grind;rw[b0 a,b0 a,j4 _ λi _=>b0 a,fJ];grind
theorem yk(A:Ag h Y P)(H:hB h)(p:Nat):ls (fy Y p) (f6 h)=d5 (λt=>(if p=t then gq (h.hr t)*(P.lk t+P.bo t+val h.left*P.tk t-P.sp t-P.gv t-P.fl t)else 0)+(if h.n+t<=p/\p<2*h.n then P.tk t-val h.kept*P.fl t else 0)+if p=h.n+t then P.lv t else 0) h.n +
  d5 (λj=>(if p=2*h.n+j then P.un j+d5 (λi=>P.wk (M5 h j+i) j) (cv h j)else 0)+if M5 h j<=p/\p<M5 h j+cv h j then-gq (h.hr p)*P.wk p j else 0) h.w:=by delta f6;rw[lg,oa,oa,j4 _ λt b=>a0y A H b p,j4 _ λj a=>Yd A H a p]
theorem GC{g:Nat->Rat}(a:Nat){n:Nat}(h:a<n):d5 (λi=>if a=i then g i else 0) n=g a:=by
 have:=nM (g:=g) a 0 n;rw[b3 j1]at this;rw[<-j4 n λi _=>by rw[oK]]at this;exact this
theorem M7{f:Nat->Rat}{n:Nat}(h:∀i,i<n->f i=0):d5 f n=0:=by rw[j4 n h,fJ]
theorem YM(A:Ag h Y P)(H:hB h){s:Nat}(hs:s<h.n):ls (fy Y s) (f6 h)=gq (h.hr s)*(P.lk s+P.bo s+val h.left*P.tk s-P.sp s-P.gv s-P.fl s-mq h P s):=by
 rw[yk A H,Y0,Y0,GC s hs,
  M7 λt _=>b0 b6,M7 λt _=>b0 (E9 (C1 c6 (U5 _ _))),Y0,
  M7 λt _=>b0 b6]
 have:d5 (λj=>if M5 h j<=s/\s<M5 h j+cv h j then-gq (h.hr s)*P.wk s j else 0) h.w=mq h P s * - gq (h.hr s):=by delta mq;rw[K0];exact j4 _ λj _=>by split<;>grind
 grind
theorem Il(H:hB h)(a:j<h.w)(b:h.n<=p):¬(M5 h j<=p/\p<M5 h j+cv h j):=by
 have:=H.f j a;show ¬(_/\p<(h.wk j).first.toNat+((h.wk j).last+1-(h.wk j).first).toNat);lia
theorem YL(A:Ag h Y P)(H:hB h){s:Nat}(hs:s<h.n):ls (fy Y (h.n+s)) (f6 h)=P.lv s-d5 (λt=>val h.kept*P.fl t-P.tk t) (s+1):=by
 rw[yk A H,Y0,Y0,M7 λt _=>b0 b6,Y0,
  M7 (f:=λj=>if h.n+s=2*h.n+j then P.un j+d5 (λi=>P.wk (M5 h j+i) j) (cv h j)else 0) λt _=>b0 b6,
  M7 λj b=>b0 (Il H b j1)]
 have d:d5 (λt=>if h.n+s=h.n+t then P.lv t else 0) h.n=P.lv s:=by rw[nM,b3 j1,show h.n+s-h.n=s by simp[*]]
 have a:d5 (λt=>if h.n+t<=h.n+s/\h.n+s<2*h.n then P.tk t-val h.kept*P.fl t else 0) h.n=d5 (λt=>P.tk t-val h.kept*P.fl t) (s+1):=by
  have:=GB (g:=λt=>P.tk t-val h.kept*P.fl t) s h.n;rw[b0 j1]at this;rw[<-this];refine j4 _ λt _=>?_;by_cases c:t<=s;rw[b3 c,b3 b6];rw[b0 c,b0 j1]
 rw[d,a,ia,ia];grind
theorem YK(A:Ag h Y P)(H:hB h)(b:j<h.w):ls (fy Y (2*h.n+j)) (f6 h)=P.un j+d5 (λi=>P.wk (M5 h j+i) j) (cv h j):=by
 rw[yk A H,M7 λt c=>by rw[b0 b6,b0 j1,b0 b6];grind,Y0,
  M7 λi a=>b0 (Il H a b6),
  nM,b3 j1,show 2*h.n+j-2*h.n=j by simp[*]]
 grind
def ae(x:Hr):Int:=match x.line with
 |none=>0
 |some l=>l.1
def Y5(x:Hr):Int:=match x.line with
 |none=>0
 |some l=>l.2.2.1
noncomputable def cV(h:i4)(P:Pl):Nat->Rat
 | 0=>d5 P.lk h.hs.length
 | 1=>d5 P.un h.ws.length
 |_=>d5 (λt=>(ae (h.hs.getD t r9):Rat)*P.bo t-(Y5 (h.hs.getD t r9):Rat)*P.gv t) h.hs.length-(h.rest:Rat)*P.lv (h.hs.length-1)
def qh(Y:List Key->Rat)(i:Nat)(x:Ch):Rat:=val (H9 x.c i)*Y x.k
theorem TJ(A:Ag h Y P)(m:1<=h.n){i:Nat}(o:i<3):ls (qh Y i) (f6 h)=cV h P i:=by
 have z:=X7;have d:=aM 1;have a:∀q j,(∀c,qh Y i ⟨(Z4 h j).k,Yi,c,(Z4 h j).ns⟩=q)->ls (qh Y i) (X6 h j)=q:=λq j e=>by
  show qh Y i (Z4 h j)+ls _ _=_;rw[BV,M7 λt _=>?_,show qh Y i (Z4 h j)=q from e _];grind;show val (H9 ⟨(0,1),(0,1),(0,1)⟩ i)*_=0;rw[show val (H9 ⟨(0,1),(0,1),(0,1)⟩ i)=0 by rcases(by lia:i=0\/i=1\/i=2)with rfl|rfl|rfl<;>exact X7];grind
 delta f6;rw[lg,oa,oa];rcases(by lia:i=0\/i=1\/i=2)with rfl|rfl|rfl
 . rw[M7 λj _=>a 0 j λc=>by show val (0,1)*_=0;rw[z];grind,j4 (g:=P.lk) _ λt _=>?_];show _+0=d5 P.lk _;grind
   . delta R1 bT aX ah;cases(h.hr t).line<;>simp only[W0,Z8,ls,qh,H9,Ce,km,A.lk]<;>grind
 . rw[j4 _ λj _=>a (P.un j) j λc=>by show val (1,1)*Y (k2 "undone" j)=_;rw[d,A.un];grind,M7 λt _=>?_];show 0+_=d5 P.un _;grind
   . delta R1 bT aX ah;cases(h.hr t).line<;>simp only[W0,Z8,ls,qh,H9,Ce,km]<;>grind
 . rw[M7 λj _=>a 0 j λc=>by show val (0,1)*_=0;rw[z];grind,
     j4 (g:=λt=>((ae (h.hr t))*P.bo t-(Y5 (h.hr t))*P.gv t)-(if t+1=h.n then h.rest*P.lv t else 0)) _ λt _=>?_,ia]
   . have:d5 (λt=>if t+1=h.n then h.rest*P.lv t else 0) h.n=h.rest*P.lv (h.n-1):=by
       rw[<-GC (g:=λt=>h.rest*P.lv t) (h.n-1) (show h.n-1<h.n by omega)];refine j4 _ λt _=>?_;by_cases c:t+1=h.n;rw[b3 c,b3 b6];rw[b0 c,b0 b6]
     show _+0=_-_;grind
   . have:((-vh h t:Int))*P.lv t = - if t+1=h.n then h.rest*P.lv t else 0:=by
       delta vh;split;rw[DK];grind;show 0*_=_;grind
     delta R1 bT aX ah ae Y5;cases hl:(h.hr t).line with
     |none =>
      obtain⟨f,b⟩:=A.nl t hl;simp only[W0,Z8,ls,qh,H9,Ce,km,aM,A.lv];grind
     |some l =>
      obtain⟨f,b⟩:=A.bo t (by rw[hl];simp);simp only[W0,Z8,ls,qh,H9,Ce,km,aM,A.lv];grind
end
end
structure v5(h:i4):Prop where
 n1:1<=h.hs.length
 n4:h.hs.length<=4
 w2:h.ws.length<=2
 k:k8 4 h.kept
 k0:0<h.kept.1/\h.kept.1<=h.kept.2
 l:k8 4 h.left
 l0:0<h.left.1/\h.left.1<=h.left.2
 st:0<=h.start/\h.start<=h.size/\h.size<=1000000
 fl:0<=h.fill/\h.fill<=1000000
 tk:0<=h.take/\h.take<=1000000
 re:0<=h.rest/\h.rest<=1000
 hr:∀t,t<h.hs.length->0<=(h.hs.getD t r9).aK/\(h.hs.getD t r9).aK<=1000000/\0<=(h.hs.getD t r9).need/\(h.hs.getD t r9).need<=1000000
 ln:∀t a b c d,t<h.hs.length->(h.hs.getD t r9).line=U (a,b,c,d)->(-1000<=a/\a<=1000)/\(0<=b/\b<=1000000)/\(-1000<=c/\c<=1000)/\0<=d/\d<=1000000
 wk:∀j,j<h.ws.length->0<=(h.ws.getD j H0).J9/\(h.ws.getD j H0).J9<=1000000/\0<=(h.ws.getD j H0).most/\(h.ws.getD j H0).most<=1000000
 f:∀j,j<h.ws.length->0<=(h.ws.getD j H0).first/\(h.ws.getD j H0).first<=(h.ws.getD j H0).last/\(h.ws.getD j H0).last<(h.hs.length:Int)
abbrev hD(h:i4):Int:=h.kept.2*h.left.2
abbrev hM(h:i4):Nat:=2*h.hs.length+h.ws.length
abbrev CB(q:Q2):Prop:=q.2=1/\-1000<=q.1/\q.1<=1000
structure a3l(h:i4)(x:Ch):Prop where
 ns:∀e∈x.ns,e.1<hM h/\k8 10 e.2/\e.2.2∣hD h
 tp:∀q,x.t=U q->q.2=1/\0<=q.1/\q.1<=1000000
 c:∀t,t<3->CB (H9 x.c t)
 fr:x.t=J->x.c=gi/\∃t,x.k=k2 "spilt" t
section
variable{h:i4}
theorem v5.s(H:v5 h):hB h:=⟨H.k.mono a6,H.l.mono a6,by have:=H.n4;exact dS,by have:=H.w2;exact dS,H.f⟩
theorem vD{P:Q2->Prop}{x:Tr}(f:P x.a)(g:P x.b)(d:P x.c):∀t,t<3->P (H9 x t):=λt e=>by rcases(by lia:t=0\/t=1\/t=2)with rfl|rfl|rfl<;>assumption
theorem qk(H:v5 h):∀x∈f6 h,a3l h x:=by
 have one:1∣hD h:=⟨hD h,by simp[*]⟩
 have B:∀y:Hr,(k8 10 (F4 y)/\(F4 y).2∣hD h)/\k8 10 (outF y)/\(outF y).2∣hD h:=λy=>by delta F4 outF;split<;>exact⟨⟨⟨by decide,by decide,⟨by decide⟩,⟨by decide⟩⟩,one⟩,⟨by decide,by decide,⟨by decide⟩,⟨by decide⟩⟩,one⟩
 have o:CB (0,1):=by decide
 have O:CB (1,1):=by decide
 have C:∀t,t<3->CB (H9 ⟨(0,1),(0,1),(0,1)⟩ t):=vD o o o;have I:∀p:Int,-1000<=p->p<=1000->∀t,t<3->CB (H9 (km p) t):=λp m L=>vD o o ⟨rfl,m,L⟩
 have s:∀{v:Int},0<=v->v<=1000000->∀q:Q2,U (v,1)=U q->q.2=1/\0<=q.1/\q.1<=1000000:=λm L q e=>by cases e;exact⟨rfl,m,L⟩
 have F:k8 10 ((1,1))/\((1,1)).2∣hD h:=⟨⟨by decide,by decide,⟨by decide⟩,⟨by decide⟩⟩,one⟩
 have m:∀{p:Nat} {q:Q2},p<hM h->k8 10 q/\q.2∣hD h->∀e∈[(p,q)],e.1<hM h/\k8 10 e.2/\e.2.2∣hD h:=λW hq e r=>by rw[mem_singleton.mp r];exact⟨W,hq⟩
 have u:∀{t:Nat} {a q:Q2},t<h.n->k8 10 a/\a.2∣hD h->k8 10 q/\q.2∣hD h->∀e∈(t,a)::eZ h.n t q,e.1<hM h/\k8 10 e.2/\e.2.2∣hD h:=λA T hq e r=>by
  rcases List.mem_cons.mp r with rfl|r
  exact⟨by show _<_;lia,T⟩;obtain⟨i,G,rfl⟩:=mem_map.mp r;have:=mem_range.mp G;exact⟨by show _<_;lia,hq⟩
 have:=H.k.pos;have:=H.l.pos;have mk:k8 10 (cN (0,1) h.kept)/\(cN (0,1) h.kept).2∣hD h:=by
  have w:0<1*h.kept.2:=by lia
  refine⟨cO w ?_ ?_,jw (Q9 w).2.2.2 ⟨h.left.2,by rw[U2]⟩⟩;exact(H.k.bt.mono a6).of_le (by show(0*h.kept.2-h.kept.1*1).natAbs<=_;simp[*]);exact(H.k.bb.mono a6).of_le (by show(1*h.kept.2).natAbs<=_;simp[*])
 have S:∀y:Hr,k8 10 (C3 (F4 y) h.left)/\(C3 (F4 y) h.left).2∣hD h:=λy=>by
  have M:(F4 y).2=1:=by delta F4;split<;>rfl
  have w:0<(F4 y).2*h.left.2:=by rw[M];simp[*]
  refine⟨cO w ((H.l.bt.mono a6).of_le (by delta F4;split<;>simp)) ?_,jw (Q9 w).2.2.2 ⟨h.kept.2,by rw[M,U2,x9]⟩⟩;exact(H.l.bb.mono a6).of_le (by rw[M];lia)
 intro x g;rcases List.mem_append.mp g with g|g
 . obtain⟨t,A,g⟩:=mem_flatMap.mp g;have A:=mem_range.mp A;obtain⟨s0,s1,Q,Y⟩:=H.hr t A;have E:t<hM h:=by lia
   rcases List.mem_append.mp g with g|g
   . rcases List.mem_append.mp g with g|g
     . simp only[Q1,dM,bc]at g;rcases g with rfl|rfl
       exact⟨m E (B _).1,s Q Y,vD O o o,λz=>by exact nS z⟩;exact⟨m E (B _).2,(λq z=>by exact nE z),C,λ_=>⟨rfl,t,rfl⟩⟩
     . unfold aX at g;cases hl:(h.hr t).line with
       |none=>rw[hl]at g;cases g
       |some l =>
        obtain⟨a,b,c,d⟩:=l;obtain⟨⟨N,K⟩,⟨w,X⟩,⟨V,c1⟩,R,P⟩:=H.ln t a b c d A hl;rw[hl]at g;simp only[Q1,dM,bc]at g;rcases g with rfl|rfl
        exact⟨m E (B _).1,s w X,I a N K,λz=>by exact nS z⟩;exact⟨m E (B _).2,s R P,I (-c) b6 b6,λz=>by exact nS z⟩
   . unfold ah at g;have:=H.re;simp only[Q1,dM,bc]at g;rcases g with rfl|rfl|rfl
     exact⟨u A (B _).2 mk,s H.fl.1 H.fl.2,C,λz=>by exact nS z⟩;exact⟨u A (S _) F,s H.tk.1 H.tk.2,C,λz=>by exact nS z⟩;exact⟨m b6 F,s (Q0 H.st.1 H.st.2.1) H.st.2.2,I _ (by delta vh;split<;>lia) (by delta vh;split<;>lia),λz=>by exact nS z⟩
 . obtain⟨j,D,g⟩:=mem_flatMap.mp g;have D:=mem_range.mp D;obtain⟨N,K,m0,m1⟩:=H.wk j D;obtain⟨f0,Z,f2⟩:=H.f j D;rcases List.mem_cons.mp g with rfl|g
   exact⟨m b6 F,s N K,vD o O o,λz=>by exact nS z⟩
   . obtain⟨i,G,rfl⟩:=mem_map.mp g;have G:i<((h.wk j).last+1-(h.wk j).first).toNat:=mem_range.mp G;refine⟨λe r=>?_,s m0 m1,C,λz=>by exact nS z⟩
     unfold qS at r;simp only[Q1,dM,bc]at r;rcases r with rfl|rfl
     exact⟨by show _<_;lia,(B _).2⟩;exact⟨by show _<_;lia,F⟩
end
section
variable{j p:Nat}
abbrev X1(h:i4):List (List Key):=(f6 h).map (·.k)
abbrev au(h:i4)(j:Nat):Ch:=(f6 h).getD j ur
def hZ(h:i4)(k:List Key):Nat:=(X1 h).findIdx λa=>decide (a=k)
noncomputable def f7(h:i4):o7:=⟨hM h,(f6 h).length,λj=>(au h j).c,λp j=>cM (au h j).ns q0 p,λp=>(B1 h).getD p q0,λj=>(au h j).t,λk=>hZ h ((M9 h).getD k [])⟩
section
variable{h:i4}
theorem dD(a:j<(f6 h).length):au h j∈f6 h:=by simp_all
theorem Mo(a:Nat):∀(ns:List (Nat×Q2)) (o:Q2),cM ns o a=o\/∃e∈ns,cM ns o a=e.2
 | [],_=>.inl rfl
 |e::ns,o=>by
  rcases Mo a ns (if a=e.1 then e.2 else o)with z|⟨b,c,d⟩
  show cM ns (if a=e.1 then e.2 else o) a=o\/∃b∈e::ns,cM ns (if a=e.1 then e.2 else o) a=b.2;rw[z];split;exact .inr ⟨e,m8,rfl⟩;exact .inl rfl;exact .inr ⟨b,m5 _ c,d⟩
theorem getD_at{b:Type}{l:List b}{i:Nat}{a d:b}(h:l[i]? = U a):l.getD i d=a:=by simp_all
theorem a1R{t:Nat}(a:t<h.hs.length):h.hs[t]? = U (h.hs.getD t r9):=by simp_all
theorem Uq{t:Nat}(a:t<h.ws.length):h.ws[t]? = U (h.ws.getD t H0):=by simp_all
theorem UJ{s:Nat}(hs:s<h.n):(B1 h).getD s q0=iJ (h.hr s):=by
 refine getD_at ?_;delta B1;rw[fm (by simp;exact Oj _ c6),fm (by simpa using hs),C5,a1R hs];rfl
theorem UI{s:Nat}(hs:s<h.n):(B1 h).getD (h.n+s) q0=(h.start,1):=by
 refine getD_at ?_;delta B1;rw[fm (by simp;omega),kx i9];simp[hs]
theorem UH(a:j<h.w):(B1 h).getD (2*h.n+j) q0=((h.wk j).J9,1):=by
 refine getD_at ?_;delta B1;rw[kx (by simp;lia),U6,o9,pq,show 2*h.n+j-(h.n+h.n)=j by omega,C5,Uq a];rfl
theorem yq(c:p<hM h):p<h.n\/(∃s,s<h.n/\p=h.n+s)\/∃j,j<h.w/\p=2*h.n+j:=by
 by_cases a:p<h.n;exact .inl a;by_cases b:p<2*h.n;exact .inr (.inl ⟨p-h.n,by lia,by simp_all⟩);exact .inr (.inr ⟨p-2*h.n,by lia,by simp_all⟩)
theorem AI(H:v5 h)(c:p<hM h):((B1 h).getD p q0).2=1/\0<=((B1 h).getD p q0).1/\((B1 h).getD p q0).1<=1000000:=by
 rcases yq c with a|⟨s,a,rfl⟩|⟨j,b,rfl⟩
 . rw[UJ a];have:=H.hr p a;delta iJ;refine⟨rfl,?_,?_⟩<;>dsimp only<;>split<;>lia
 rw[UI a];have:=H.st;exact⟨rfl,by simp[*],by lia⟩;rw[UH b];have:=H.wk j b;exact⟨rfl,by simp only[*];done,by simp only[*];done⟩
theorem ve(H:v5 h){k:Nat}(i:k<hM h):∃x∈f6 h,x.k=(M9 h).getD k []/\x.ns=[(k,(1,1))]/\∀q,x.t=U q->((B1 h).getD k q0).1<=q.1:=by
 have b:∀{t:Nat},t<h.n->∀{x:Ch},x∈R1 h t->x∈f6 h:=λf x g=>L3 _ (mem_flatMap.mpr ⟨_,mem_range.mpr f,g⟩)
 rcases yq i with a|⟨s,a,rfl⟩|⟨j,d,rfl⟩
 . have e:(M9 h).getD k []=k2 (ny (h.hr k)) k:=by
     refine getD_at ?_;delta M9;rw[fm (by simp;exact Oj _ c6),fm (by simpa using a),C5,lW a];rfl
   rw[e,UJ a];delta ny iJ;have:=H.hr k a;by_cases c:(h.hr k).aK<=(h.hr k).need
   . rw[b3 c];refine⟨_,b a (L3 _ (L3 _ m8)),rfl,?_,λq z=>?_⟩;show[(k,F4 _)]=_;delta F4;rw[b3 c]
     . cases z;split<;>lia
   rw[b0 c];refine⟨_,b a (L3 _ (L3 _ (m5 _ m8))),rfl,?_,λq z=>by exact nE z⟩;delta outF;rw[b0 c]
 . have e:(M9 h).getD (h.n+s) []=k2 "level" s:=by
     refine getD_at ?_;delta M9;rw[fm (by simp;omega),kx i9];simp[a]
   rw[e,UI a];refine⟨_,b a (A3 _ (m5 _ (m5 _ m8))),rfl,rfl,λq z=>?_⟩;cases z;exact H.st.2.1
 . have e:(M9 h).getD (2*h.n+j) []=k2 "undone" j:=by
     refine getD_at ?_;delta M9;rw[kx (by simp;lia)];simp only[U6,o9,sD];rw[show 2*h.n+j-(h.n+h.n)=j by lia,C5,lW d];rfl
   rw[e,UH d];refine⟨Z4 h j,A3 _ (mem_flatMap.mpr ⟨j,mem_range.mpr d,m8⟩),rfl,rfl,λq z=>?_⟩;cases z;exact oI _
theorem WZ{d:Type}{l:List d}(n:l.Nodup){i:Nat}(a:i<l.length)(b:j<l.length)(e:l[i]=l[j]):i=j:=by
 have p:=List.pairwise_iff_getElem.mp n;rcases Ox i j with c|c|c
 exact absurd e (p i j a b c);exact c;exact absurd e.symm (p j i b a c)
theorem rR(a:j<(f6 h).length):au h j=(f6 h)[j]:=by simp_all
theorem Cg{k:List Key}(c:k∈X1 h):hZ h k<(f6 h).length/\(au h (hZ h k)).k=k:=by
 have b:hZ h k<(X1 h).length:=List.findIdx_lt_length_of_exists ⟨k,c,by simp⟩
 have a:hZ h k<(f6 h).length:=by simpa using b
 refine⟨a,?_⟩;have:=lR (List.findIdx_getElem (w:=b));rw[rR a];exact(oW (l:=f6 h) (·.k)).symm.trans this
theorem MW(a:j<(f6 h).length):hZ h (au h j).k=j:=by
 have c:(au h j).k∈X1 h:=mem_map.mpr ⟨_,dD a,rfl⟩;obtain⟨b,d⟩:=Cg c;refine WZ (mL h) (by simpa using b) (by simpa using a) ?_;rw[oW,oW,<-rR b,<-rR a];exact d
theorem wX{x:Ch}(b:x∈f6 h):hZ h x.k<(f6 h).length/\au h (hZ h x.k)=x:=by obtain⟨i,a,rfl⟩:=List.mem_iff_getElem.mp b;rw[<-rR a,MW a];exact⟨a,rfl⟩
end
end
section
variable{D v:Int}{q:Q2}{k β ω p j:Nat}
open Sx (sN pN sm det t4 dot)
theorem vB{M b:Int}(h:FD D M q)(hd:q.2∣b)(a:0<b):((wh q b).natAbs:Int)<=M*b:=by
 have p:=h.pos;have d:((wh q b).natAbs)*q.2=q.1.natAbs*b:=by
  have:=m2 Int.natAbs (vA h.pos hd);rw[aS,aS]at this;have c:(((wh q b).natAbs*q.2.natAbs:Nat):Int)=((q.1.natAbs*b.natAbs:Nat)):=by rw[this]
  rw[Int.natCast_mul,Int.natCast_mul,lX (N8 p),lX (N8 a)]at c;exact c
 have:q.2*((wh q b).natAbs)<=q.2*(M*b):=by rw[x9 q.2,d];refine Q0 (ky h.uf (N8 a)) (Int.le_of_eq ?_);rw[x9 M,F0]
 exact xY this p
theorem CZ{x M:Int}(h:(x.natAbs:Int)<=M)(b:Bt k M):Bt k x:=b.of_le b6
section
variable{Q:G7}{T:Sx.Tb}{b:Nat->Int}{c:Nat}
theorem Small.bits(S:Small Q b c)(K:Sx.Ok (Q.pb b) T)(y:∀p,p<Q.m->Bt β (b p))(w:∀j v,j<Q.n->Q.lim j=U v->Bt β v)(D:∀t j,t<3->j<Q.n->Bt ω (Q.wt t j))(g:1<=β):
  Bt (c*Q.m+1) T.size/\(∀a k,a<Q.n->k<Q.m->Bt (c*Q.m+c+1) (T.c9 (Q.pb b) a k))/\(∀k,k<Q.m->Bt (c*Q.m+(β+c+22)+1) (T.am (Q.pb b) k))/\∀t q,t<3->q<Q.m->Bt (ω+(c*Q.m+12)+10) (T.pr t q):=by
 have L:=K.u7;have l:∀k q,k<Q.m->q<Q.m->Bt (c*Q.m+12) (T.inv k q):=λk q e hq=>by
  have h:Sx.sN Q.m (λr=>(Sx.unit q r).natAbs)<2 ^ (1+10):=vM S.m1 λi _=>by delta Sx.unit;split<;>decide
  have:=S.det L e (eS h);rw[Sx.qb _ hq]at this;exact this
 have rt:∀p,p<Q.m->Bt (β+c+12) (T.rt p):=λp f=>by
  rw[K.rt p f];have g:Bt (β+(c+1)+10) (Sx.fsum (Q.pb b) T λj=>(Q.pb b).A j p):=Bt.sm S.n1 λj o=>by
   split
   . refine Bt.mul ?_ (S.col o f);show Bt β ((Q.lim j).getD 0)
     cases hl':Q.lim j with
     |none=>exact Bt.mono ⟨by decide⟩ g
     |some v=>exact w j v o hl'
   exact Bt.mono (m:=1) ⟨by decide⟩ (Nat.succ_pos _)
  exact((y p f).mono b6).sub (g.mono o6)
 refine⟨?_,λa k B e=>S.det L e (S.cn a B),λk e=>?_,λt q u hq=>?_⟩;obtain⟨s,g,x,E⟩:=L.sg;exact Bt.sign g x (zc (d:=0) (k:=Q.m) (λi C _=>S.cn _ (L.bn i C)) (λz=>by simp_all));have h:=vM S.m1 λp f=>(rt p f).lt;exact S.det L e (eS h);rw[L.pr t q hq];exact Bt.sm S.m1 λk e=>(D t _ u (L.bn k e)).mul (l k q e hq)
end
section
variable{h:i4}
theorem rL(H:v5 h):0<hD h/\hD h<=225:=by have:=H.k.bb.lt;have:=H.l.bb.lt;have d:=H.l.pos;refine⟨A5 H.k.pos d,?_⟩;exact Q0 (xv (show h.kept.2<=15 by lia) (show h.left.2<=15 by omega) Y8 a6) a6
theorem vO(H:v5 h)(a:j<(f6 h).length):k8 10 ((f7 h).row p j)/\((f7 h).row p j).2∣hD h:=by
 rcases Mo p (au h j).ns q0 with z|⟨e,b,z⟩
 show k8 10 (cM (au h j).ns q0 p)/\(cM (au h j).ns q0 p).2∣_;rw[z];exact⟨ot a6,⟨hD h,by show _=1*_;simp[*]⟩⟩;show k8 10 (cM (au h j).ns q0 p)/\(cM (au h j).ns q0 p).2∣_;rw[z];exact((qk H _ (dD a)).ns e b).2
theorem qm{m:Nat}{b:Int}(a:Bt m b)(d : -b<=v)(c:v<=b):Bt m v:=a.of_le b6
theorem Cq{m:Nat}{b:Int}(f:1<=m)(d:Bt m b)(h:q.2=1)(g : -b<=q.1)(e:q.1<=b):k8 m q:=by obtain⟨a,c⟩:=q;subst h;exact kW (qm d g e) f
theorem vE(H:v5 h)(d:j<(f6 h).length)(hq:(au h j).t=U q):q.2=1/\0<=q.1/\q.1<=1000000/\k8 20 q:=by obtain⟨a,b,c⟩:=(qk H _ (dD d)).tp q hq;exact⟨a,b,c,Cq a6 ⟨by decide⟩ a b6 c⟩
theorem gz(H:v5 h):q9 (f7 h) (hD h) 1 (hD h):=by
 obtain⟨l,y⟩:=rL H;have:=H.n4;have:=H.w2;have g:Bt 900 (hD h):=qm ⟨by decide⟩ b6 y;have:(f7 h).m=2*h.n+h.w:=rfl;refine⟨by lia,?_,l,by decide,l,g,⟨by decide⟩,g,λp j i f=>?_,λt j u f=>?_,λp i=>?_,λj q f hq=>?_,λk r=>?_⟩;show(f6 h).length<=1000;delta f6;rw[U6];have:=tj h h.n;have:=AU h H.s (c:=5) (xG c6) h.w o6;lia;exact⟨(vO H f).1.mono a6,(vO H f).2⟩;obtain⟨a,b,c⟩:=(qk H _ (dD f)).c t u;exact⟨Cq a6 ⟨by decide⟩ a b c,⟨1,by show _=_*1;rw[show(H9 ((f7 h).cost j) t).2=1 from a];rfl⟩⟩;obtain⟨a,b,c⟩:=AI H i;exact⟨Cq a6 ⟨by decide⟩ a (Q0 a6 b) c,⟨hD h,by rw[show((f7 h).rg p).2=1 from a];simp[*]⟩⟩;obtain⟨a,b,c,d⟩:=vE H f hq;exact⟨d.mono a6,λs o=>by simp_all⟩;obtain⟨x,v,e,_⟩:=ve H r;show hZ h ((M9 h).getD k [])<_;rw[<-e];exact(wX v).1
theorem a1V{m:Nat}(h:k8 m q)(hd:q.2∣D):FD D (2 ^ m) q:=by
 refine⟨h.pos,h.low,hd,?_⟩;have:=h.bt.lt;have:=h.pos;have:(2 ^ m)*1<=2 ^ m*q.2:=cF c6 (N8 (Int.pow_pos a6));lia
theorem Lc{c:Nat}:∀(m:Nat) (f:Nat->Nat),(∀i,i<m->f i<=c)->Sx.sN m f<=m*c
 | 0,f,_=>by rw[Sx.sN];exact cY _
 |m+1,f,hf=>by
  have:=Lc m f λi a=>hf i aW;have:=hf m j1;rw[Sx.sN,Nat.add_mul];lia
theorem wo(H:v5 h):gZ (f7 h) 22:=by
 have O:=gz H;obtain⟨C,D⟩:=rL H;have:=H.n4;have:=H.w2;have:(f7 h).m=2*h.n+h.w:=rfl;have s:∀k,k<(f7 h).m->∃x∈f6 h,au h ((f7 h).fs k)=x/\x.ns=[(k,(1,1))]/\∀q,x.t=U q->((B1 h).getD k q0).1<=q.1:=λk d=>by
  obtain⟨x,g,e,a,b⟩:=ve H d;refine⟨x,g,?_,a,b⟩;show au h (hZ h ((M9 h).getD k []))=x;rw[<-e];exact(wX g).2
 have o:∀k p,k<(f7 h).m->p<(f7 h).m->(f7 h).row p ((f7 h).fs k)=if p=k then(1,1)else q0:=λk p d i=>by
  obtain⟨x,g,e,a,b⟩:=s k d;show cM (au h ((f7 h).fs k)).ns q0 p=_;rw[e,a];rfl
 refine⟨o,λk l d B e=>?_,λp i=>(AI H i).2.1,λj q f hq=>(vE H f hq).2.1,λk q d hq=>?_,λj f=>?_,by lia,by decide⟩;have u:=o k k d d;have r:=o l k B d;rw[b3 rfl,e]at u;rw[u]at r;by_cases c:k=l;exact c;rw[b0 c]at r;cases r
 . obtain⟨x,g,e,a,b⟩:=s k d;have:=vE H (O.fs k d) hq;have:=AI H d;have A:x.t=U q:=by rw[<-e];exact hq
   have:=b q A;show((B1 h).getD k q0).1*q.2<=q.1*((B1 h).getD k q0).2
   simp_all
 obtain⟨v,y,_,z⟩:=O.sc f;have:=dJ C y;refine i0 (Lc (c:=230400) _ _ λp i=>?_) ?_;have:=vB (a1V (vO H f).1 (vO H f).2) (z p i) v;lia;have:(f7 h).m*230400<=10*230400:=lY _ b6;exact i0 c6 a6
theorem yO(H:v5 h){T:Sx.Tb}(K:Sx.Ok (f7 h).pb T):Bt 221 T.size/\(∀k,k<(f7 h).m->Bt 293 (T.am (f7 h).pb k))/\∀t q,t<3->q<(f7 h).m->Bt 260 (T.pr t q):=by
 have O:=gz H;obtain⟨z,R⟩:=rL H;have:=H.n4;have:=H.w2;obtain⟨u1,u2,Q,C,E⟩:=O.un;have:=dJ z u2;have:(f7 h).m=2*h.n+h.w:=rfl;have h:=(o7.side O (wo H)).s.bits K (β:=28) (ω:=18) (λp i=>by
   obtain⟨a,b,c⟩:=AI H i;have f:FD 1 1000000 ((f7 h).rg p):=⟨by show 0<((B1 h).getD p q0).2;simp_all,(O.rg p i).1.low,⟨1,by show 1=((B1 h).getD p q0).2*1;lia⟩,by show(((B1 h).getD p q0).1.natAbs)<=_*((B1 h).getD p q0).2;lia⟩;have:=vB f (C p i) u1;refine CZ (M:=225000000) ?_ ⟨by decide⟩;show((wh ((f7 h).rg p) (f7 h).un).natAbs:Int)<=_
   lia) (λj v e F=>by
   obtain⟨r,y,rfl⟩:=Option.map_eq_some_iff.mp F;have G:=E j r e y;obtain⟨q,hq,rfl⟩:=Option.map_eq_some_iff.mp y;obtain⟨x,o,_,_⟩:=O.sc e;obtain⟨a,b,c,d⟩:=vE H e hq;have u:FD (hD h) 1 (1,(f7 h).sc j):=⟨x,by simp,o,by show((1:Int).natAbs)<=1*(f7 h).sc j;lia⟩;have l:FD 1 1000000 q:=⟨by simp[*],d.low,⟨1,by simp[*]⟩,by lia⟩;have:=vB (l.times u) G u1;refine CZ (M:=225000000) ?_ ⟨by decide⟩
   lia) (λt j g e=>by
   obtain⟨x,o,_,_⟩:=O.sc e;have:=dJ z o;obtain⟨m1,L,_,B⟩:=O.mu g;have:=dJ a6 L;obtain⟨a,b,c⟩:=(qk H _ (dD e)).c t g;have l:FD 1 1000 (H9 ((f7 h).cost j) t):=⟨by show 0<(H9 (au h j).c t).2;simp_all,(O.cost t j g e).1.low,⟨1,by show 1=(H9 (au h j).c t).2*1;lia⟩,by show((H9 (au h j).c t).1.natAbs)<=_*(H9 (au h j).c t).2;lia⟩;have u:FD 1 225 ((f7 h).sc j,1):=⟨by simp,by simp,ju _,by show(((f7 h).sc j).natAbs:Int)<=225*1;lia⟩;refine CZ (M:=225000) ?_ ⟨by decide⟩;show((wh ((f7 h).wq t j) ((f7 h).mu t)).natAbs:Int)<=_;have:((wh ((f7 h).wq t j) ((f7 h).mu t)).natAbs)<=1000*225*(f7 h).mu t:=(vB (l.times u) (B j e) m1)
   lia) a6
 obtain⟨N,P,I,D⟩:=h;have:(f7 ‹i4›).A0.m=(f7 ‹i4›).m:=rfl;exact⟨N.mono b6,λk A=>(I k A).mono b6,λt q g hq=>(D t q g hq).mono b6⟩
end
end
section
variable{q p:Q2}{D N E:Int}{y a:Rat}
def q2(x:Rat):Q2:=(x.num,(x.den:Int))
def qd(x:Rat):a7:=fr (q2 x)
theorem Y2(x:Rat):0<(q2 x).2:=by have:=x.den_pos;show(0:Int)<x.den;simp[*]
theorem Zb(x:Rat):m3 (q2 x).1 (q2 x).2=1:=x.reduced
theorem cH(x:Rat):val (q2 x)=x:=by
 show x.num/((x.den:Int))=x;rw[<-Rat.divInt_eq_div,Rat.num_divInt_den]
theorem yu{x:Rat}(h:0<x):0<x.num:=by
 have:=(Rat.lt_iff 0 x).mp h
 simp_all
theorem NR(i:Int){m:Nat}(h:i.natAbs<=m):Bt m i:=⟨C1 Nat.lt_two_pow_self (OV a6 h)⟩
theorem Cr(a:0<q.2)(b:m3 q.1 q.2=1):k8 (q.1.natAbs+q.2.natAbs) q:=⟨a,b,NR _ j1,NR _ j1⟩
theorem jd(a:0<q.2)(b:m3 q.1 q.2=1):q=q2 (val q):=val_inj (Cr a b) (Cr (Y2 _) (Zb _)) (cH _).symm
theorem YZ{t b:Int}(a:0<b):o5 t b=q2 ((t:Rat)/(b:Rat)):=by obtain⟨d,c,_,_⟩:=Q9 a;rw[jd d c,du a]
theorem ym(x y:Rat):Z5 (q2 x) (q2 y)=q2 (x+y):=by
 obtain⟨b,a,_,_⟩:=Q9 (A5 (Y2 x) (Y2 y));have:=jd (q:=Z5 (q2 x) (q2 y)) b a
 rwa [Qe (Y2 x) (Y2 y),cH,cH]at this
theorem QY(x y:Rat):cN (q2 x) (q2 y)=q2 (x-y):=by
 obtain⟨b,a,_,_⟩:=Q9 (A5 (Y2 x) (Y2 y));have:=jd (q:=cN (q2 x) (q2 y)) b a
 rwa [zm (Y2 x) (Y2 y),cH,cH]at this
theorem pQ(x y:Rat):C3 (q2 x) (q2 y)=q2 (x*y):=by
 obtain⟨b,a,_,_⟩:=Q9 (A5 (Y2 x) (Y2 y));have:=jd (q:=C3 (q2 x) (q2 y)) b a
 rwa [qU (Y2 x) (Y2 y),cH,cH]at this
theorem rd(x:Rat):(-(q2 x).1,(q2 x).2)=q2 (-x):=rfl
theorem Za(n:Int):q2 (n:Rat)=(n,1):=rfl
theorem Ni(x:Rat):l7 (qd x) (.int 0)=sd (.int x.num):=rfl
theorem a0u(x:Rat):l7 (qd x) (.int 1)=sd (.int x.den):=rfl
structure RO(x:Rat):Prop where
 f:k8 3000 (q2 x)
structure EJ(D:Int):Prop where
 pos:0<D
 bt:Bt 1000 D
structure Sz(D M:Int)(x:Rat):Prop where
 f:FD D M (q2 x)
theorem Sz.m0{M:Int}{x:Rat}(h:Sz D M x):0<=M:=by
 have:=h.f.uf;rcases bW M 0 with c|c
 have:=xX c h.f.pos;lia;exact c
theorem Sz.ok{M:Int}{x:Rat}(h:Sz D M x)(hD:EJ D)(hM:M<=2 ^ 200):RO x:=by
 have:=h.m0;have b:Bt 201 M:=by
  have z:Bt 201 (2 ^ 200):=⟨by decide⟩;exact z.of_le b6
 exact⟨h.f.a3e hD.pos (hD.bt.mono a6) ((b.mul hD.bt).mono a6)⟩
theorem Sz.mono{D M E N:Int}{x:Rat}(h:Sz D M x)(hd:D∣E)(a:M<=N):Sz E N x:=⟨h.f.mono hd a⟩
theorem Sz.add{M:Int}{x:Rat}(b:Sz D M x)(a:Sz D N y):Sz D (M+N) (x+y):=⟨by rw[<-ym];exact b.f.plus a.f⟩
theorem Sz.neg{M:Int}{x:Rat}(a:Sz D M x):Sz D M (-x):=by
 refine⟨a.f.pos,?_,a.f.dvd,?_⟩;have:=a.f.low;rw[<-rd];rw[Int.neg_gcd];exact this
 . have:=a.f.uf;rw[<-rd]
   simp_all
theorem Sz.sub{M:Int}{x:Rat}(b:Sz D M x)(a:Sz D N y):Sz D (M+N) (x-y):=by rw[OE];exact b.add a.neg
theorem Sz.mul{M:Int}{x:Rat}(a:Sz D M x)(b:Sz E N y):Sz (D*E) (M*N) (x*y):=⟨by rw[<-pQ];exact a.f.times b.f⟩
theorem Sz.int{M n:Int}(h:(n.natAbs:Int)<=M):Sz D M (n:Rat):=by
 refine⟨by show 0<1;decide,by show m3 n 1=1;simp,by show 1∣D;simp,?_⟩;show n.natAbs<=M*1;simp[*]
theorem Sz.zero{M:Int}(h:0<=M):Sz D M 0:=Sz.int (by simpa using h)
theorem RO.neg{x:Rat}(h:RO x):RO (-x):=⟨h.f.pos,by have:=h.f.low;rw[<-rd];rw[Int.neg_gcd];exact this,by rw[<-rd];exact h.f.bt.neg,h.f.bb⟩
theorem Kt(x y:Rat):kM (q2 x) (q2 y)=decide (x<y):=by rw[qV (Y2 x) (Y2 y),cH,cH]
theorem nV:RO 0:=⟨k8.mono (m:=2) ⟨by decide,by decide,⟨by decide⟩,⟨by decide⟩⟩ a6⟩
theorem Cj{x:Rat}(h:0<x):q2 x⁻¹=((q2 x).2,(q2 x).1):=by
 have a:m3 x.den x.num=1:=by rw[xn];exact x.reduced
 have:=jd (q:=(x.den,x.num)) (yu h) a;have e:val (x.den,x.num)=x⁻¹:=by
  have:=cH x;have:val (q2 x)=x.num/((x.den:Int)):=rfl;show((x.den:Int))/x.num=x⁻¹;grind
 rw[e]at this;exact this.symm
theorem ZY{x:Rat}(h:0<x)(a:RO x):RO x⁻¹:=by refine⟨?_⟩;rw[Cj h];exact⟨(yu h),by rw[xn];exact a.f.low,a.f.bb,a.f.bt⟩
theorem Yh{m n:Nat}(a:k8 m p)(hq:k8 n q)(h:m+n<=59999):fZ [fr p,fr q]=sd (.bool (kM p q)):=by have c:Bt 60000 p.1:=a.bt.mono (i0 (i0 (U5 _ _) c6) a6);have b:Bt 60000 p.2:=a.bb.mono (i0 (i0 (U5 _ _) c6) a6);have d:Bt 60000 q.1:=hq.bt.mono (i0 (i0 (cD _ _) c6) a6);have e:Bt 60000 q.2:=hq.bb.mono (i0 (i0 (cD _ _) c6) a6);delta fZ;walk_at "r";simp only[l9,c,b,d,e];rfl
theorem JM{m:Nat}(h:k8 m q):fr q=qd (val q):=by
 show fr q=fr (q2 (val q));rw[<-jd h.pos h.low]
theorem Hh{x:Rat}(a:RO x)(b:RO y):X3 [qd x,qd y]=sd (qd (x-y)):=by
 show X3 [fr (q2 x),fr (q2 y)]=_;rw[Mw a.f b.f a6,QY];rfl
theorem Hg{x:Rat}(a:RO x)(b:RO y):P2 [qd x,qd y]=sd (qd (x*y)):=by
 show P2 [fr (q2 x),fr (q2 y)]=_;rw[kP a.f b.f a6,pQ];rfl
theorem WK{x:Rat}(a:RO x)(b:RO y):fZ [qd x,qd y]=sd (.bool (decide (x<y))):=by
 show fZ [fr (q2 x),fr (q2 y)]=_;rw[Yh a.f b.f a6,Kt]
theorem ZL{x:Rat}(g:RO x)(a:RO y)(h:0<y):sR [qd x,qd y]=sd (qd (x*y⁻¹)):=by
 have d:=yu h;have e:M4 [.int y.den,.int y.num]=sd (qd y⁻¹):=by
  rw[eF (b:=y.num) x6 (Bt.mono a.f.bt a6)];have:=YZ (t:=y.den) d;rw[this];have:((y.den:Int))/y.num=y⁻¹:=by have c:=cH y⁻¹;rw[Cj h]at c;exact c
  rw[this];rfl
 delta sR;walk_at "r";rw[Ni];walk_at "r";rw[b0 (show ¬y.num=0 by exact x6)];walk_at "r";rw[a0u,Ni];walk_at "r";rw[e];walk_at "r";rw[Hg g (ZY h a)];walk_at "r"
theorem mI{x:Rat}(a:RO x)(b:RO y):R5 [qd x,qd y]=sd (qd (x+y)):=by
 show R5 [fr (q2 x),fr (q2 y)]=_;rw[Iv a.f b.f a6,ym];rfl
theorem tE{x:Rat}(a:RO x)(b:RO y):P5 [qd x,qd y]=sd (qd (x*y)):=by
 show P5 [fr (q2 x),fr (q2 y)]=_;rw[tD a.f b.f a6,pQ];rfl
theorem UT(x:Rat):dk [qd x]=sd (qd (-x)):=by
 show U (PV.dat (fr (0-(q2 x).1,(q2 x).2)))=_;rw[Int.zero_sub,rd];rfl
def ud(κ f t:Rat):Rat:=if κ*f-t<0 then 0 else(κ*f-t)*κ⁻¹
def zx(κ f t:Rat):Rat:=if κ*f-t<0 then 0-(κ*f-t)else 0
theorem GX(f t:Rat)(h:0<a):a*ud a f t-zx a f t=a*f-t:=by delta ud zx;split<;>grind
theorem LO{h:i4}{m:Nat}(k:k8 m h.kept)(p:0<val h.kept){f t:Rat}(s:RO f)(q:RO t)(j:RO (val h.kept))(l:RO (val h.kept*f))(g:RO (val h.kept*f-t)):
  qs [S8 h,qd f,qd t]=sd (.tuple [qd (ud (val h.kept) f t),qd (zx (val h.kept) f t)]):=by
 have i:l7 (S8 h) (.int 4)=sd (qd (val h.kept)):=by
  show U (PV.dat (fr h.kept))=_;rw[JM k]
 have r:=Hh l q;have n:=WK g nV;delta ud zx;generalize val h.kept*f-t=a at *;refine T9 rfl ?_;refine g0 (ds1:=[sd (S8 h),sd (qd f),sd (qd t),sd (qd a)]) (j7 (pv:=.dat (qd a)) ?_ rfl) ?_;show(((((l7 (S8 h) (.int 4)).bind λx=>U [x.d,qd f]).bind P2).bind λx=>U [x.d,qd t]).bind X3)=_;rw[i,g8];show((((P2 [qd (val h.kept),qd f]).bind λx=>U [x.d,qd t]).bind X3))=_;rw[(Hg j s),g8];exact r
 . have u:∀b,decide (a<0)=b->∀G,G3 (k9 (b4 fZ (a8 (b7 3) (a8 (fC v7) d6)))) G A4 [sd (S8 h),sd (qd f),sd (qd t),sd (qd a)]=if b=Uf then G [sd (S8 h),sd (qd f),sd (qd t),sd (qd a)]else U (.next [sd (S8 h),sd (qd f),sd (qd t),sd (qd a)]):=λb o G=>by have e:=w4 (Fa:=b7 3) (Fb:=fC v7) (ds:=[sd (S8 h),sd (qd f),sd (qd t),sd (qd a)]) rfl rfl n;rw[o]at e;delta G3 k9;rw[e];rfl
   by_cases c:a<0;rw[b3 c,b3 c,k6,u Uf (dg c),b3 rfl];rw[cL (by delta f9 h8;rw[xb rfl (w4 (Fa:=fC v7) (Fb:=b7 3) (ds:=[sd (S8 h),sd (qd f),sd (qd t),sd (qd a)]) rfl rfl (Hh nV g))];rfl)];rfl;rw[b0 c,b0 c,k6,u U' (U4 c),b0 ax];exact cL (by delta f9 h8;rw[xb (w4 (Fa:=b7 3) (Fb:=b8 l7 (b7 0) (fC (.int 4))) (ds:=[sd (S8 h),sd (qd f),sd (qd t),sd (qd a)]) rfl i (ZL g j p)) rfl];rfl)
end
section
variable{ds:Ds}{k:List Key}
structure Am(h:i4)(d:a7)(Y:List Key->Rat):Prop where
 v:∀k,k∈X1 h->jL d k=U (U (qd (Y k)))
 n:∀k,k∉X1 h->jL d k=U J
 o:∀k,k∉X1 h->Y k=0
structure Dy where
 b:Rat
 g:Rat
 fi:Rat
 ta:Rat
 la:Rat
 wk:Nat->Rat
noncomputable def fz(w:Nat)(x:Dy):a7:=.tuple [qd x.b,qd x.g,qd x.fi,qd x.ta,qd x.la,.tuple (rl w λj=>qd (x.wk j))]
def S9(h:i4)(Y:List Key->Rat)(t:Nat):Dy:=⟨Y (k2 "bought" t),Y (k2 "given" t),ud (val h.kept) (Y (k2 "filled" t)) (Y (k2 "taken" t)),zx (val h.kept) (Y (k2 "filled" t)) (Y (k2 "taken" t)),Y (k2 "lacked" t),λj=>Y (mr t j)⟩
section
variable{h:i4}{d:a7}{Y:List Key->Rat}
theorem yQ{b a:DV}(A:Am h d Y)(f:b ds=sd d)(e:a ds=sd (B3 k)):iy b a (fC v7) ds=sd (qd (Y k)):=by
 delta iy;rw[f,e];show((iC (k.map Y7)).bind λk=>(jL d k).bind λr=>U (PV.dat (r.getD v7)))=_;rw[lz,g8];by_cases c:k∈X1 h;rw[A.v k c];rfl;rw[A.n k c,A.o k c];rfl
theorem Cm{b a:DV}(A:Am h d Y)(e:k∈X1 h)(f:b ds=sd d)(c:a ds=sd (B3 k)):ji b a ds=sd (qd (Y k)):=by
 delta ji;rw[f,c];show((iC (k.map Y7)).bind λk=>(jL d k).bind λr=>r.bind λd=>U (PV.dat d))=_;rw[lz,g8,A.v k e];rfl
theorem JE{t:Nat}(a:t<h.n){s:Str}(hs:s∈(["lacked","spilt","filled","taken","level"]:List Str)):k2 s t∈X1 h:=by
 have:∃x∈R1 h t,x.k=k2 s t:=by
  simp only[Q1,dM,bc]at hs;rcases hs with rfl|rfl|rfl|rfl|rfl
  exact⟨_,L3 _ (L3 _ m8),rfl⟩;exact⟨_,L3 _ (L3 _ (m5 _ m8)),rfl⟩;exact⟨_,A3 _ m8,rfl⟩;exact⟨_,A3 _ (m5 _ m8),rfl⟩;exact⟨_,A3 _ (m5 _ (m5 _ m8)),rfl⟩
 obtain⟨x,b,e⟩:=this;exact mem_map.mpr ⟨x,L3 _ (mem_flatMap.mpr ⟨t,mem_range.mpr a,b⟩),e⟩
theorem vq{g:FV}{Fa Fb Fc:DV}{x y z:PV}{r:Option PV}(c:Fa ds=U x)(b:Fb ds=U y)(a:Fc ds=U z)(e:g [x.d,y.d,z.d]=r):b4 g (a8 Fa (a8 Fb (a8 Fc d6))) ds=r:=by delta b4 a8;rw[c,g8,b,g8,a,g8];exact e
theorem ow{Fa Fb:DV}{x y:PV}(b:Fa ds=U x)(a:Fb ds=U y):f9 (a8 Fa (a8 Fb d6)) ds=sd (.tuple [x.d,y.d]):=by delta f9;rw[xb b a];rfl
structure Ke(h:i4)(Y:List Key->Rat)(t:Nat):Prop where
 f:RO (Y (k2 "filled" t))
 tk:RO (Y (k2 "taken" t))
 kf:RO (val h.kept*Y (k2 "filled" t))
 m:RO (val h.kept*Y (k2 "filled" t)-Y (k2 "taken" t))
theorem LG(A:Am h d Y)(H:v5 h)(b:0<val h.kept)(ok:RO (val h.kept)){t:Nat}(a:t<h.n)(O:Ke h Y t){l:List a7}(r:l.length<1000)(o i c:Option PV):
  ∃p q g,iT [sd (f5 h),sd d,U (.own l),sd (.int (t:Int)),o,i,c]=U (.next [sd (f5 h),sd d,U (.own (l++[fz h.w (S9 h Y t)])),sd (.int (t:Int)),p,q,g]):=by
 have:=H.w2;refine⟨sd (.tuple [qd (Y (k2 "bought" t)),qd (Y (k2 "given" t))]),sd (.tuple [qd (S9 h Y t).fi,qd (S9 h Y t).ta]),sd (.list (rl h.w λj=>qd (Y (mr t j)))),?_⟩;refine g0 (j7 (ow (yQ A rfl (aN rfl)) (yQ A rfl (aN rfl))) rfl) ?_;refine g0 (j7 (vq rfl (Cm A (JE a i6) rfl (aN rfl)) (Cm A (JE a i6) rfl (aN rfl)) (LO H.k b O.f O.tk ok O.kf O.m)) rfl) ?_;refine g0 (ds1:=[sd (f5 h),sd d,U (.own l),sd (.int t),sd (.tuple [qd (Y (k2 "bought" t)),qd (Y (k2 "given" t))]),sd (.tuple [qd (S9 h Y t).fi,qd (S9 h Y t).ta]),sd (.list (rl h.w λj=>qd (Y (mr t j))))]) (j7 (Y9 (items:=U8 0 h.w) ?_ (by rw[nQ];exact dS) (qi λj _=>⟨_,yQ A rfl ?_,rfl⟩)) rfl) ?_;show E2 [.int ((h.ws.map K5).length)]=_;rw[o9,O3 b6,fj];show((iC [.str "worked",.int t,.int (0+j)]).bind λk=>U (PV.dat (B3 k)))=_;rw[N7];rfl
 . rw[kH];have e:b8 n8 (b8 n8 (b7 4) (b7 5)) (f9 (a8 (ji (b7 1) (N5 (a8 (fC (.str "lacked")) (a8 (b7 3) d6)))) (a8 (b4 X9 (a8 (b7 6) d6)) d6))) [sd (f5 h),sd d,U (.own l),sd (.int t),sd (.tuple [qd (Y (k2 "bought" t)),qd (Y (k2 "given" t))]),sd (.tuple [qd (S9 h Y t).fi,qd (S9 h Y t).ta]),sd (.list (rl h.w λj=>qd (Y (mr t j))))]=sd (fz h.w (S9 h Y t)) :=
    (A6 rfl (ow (Cm A (JE a i6) rfl (aN rfl)) rfl)).trans rfl
   rw[e,iE _ rfl (i0 c6 a6)];rfl
theorem Wy(A:Am h d Y)(H:v5 h)(k:0<val h.kept)(ok:RO (val h.kept))(O:∀t,t<h.n->Ke h Y t):mX [f5 h,d]=sd (.tuple (rl h.n λt=>fz h.w (S9 h Y t))):=by
 have:=H.n4;refine T9 rfl ?_;refine g0 rfl ?_;have u:∃f b c a,A8 (t2 E2 (a8 (b4 u9 (a8 (b8 l7 (b7 0) (fC (.int 0))) d6)) d6)) (A1 3) iT [sd (f5 h),sd d,U (.own []),J,J,J,J]=U (.next [sd (f5 h),sd d,U (.own (rl h.n λt=>fz h.w (S9 h Y t))),f,b,c,a]):=by
  have o:t2 E2 (a8 (b4 u9 (a8 (b8 l7 (b7 0) (fC (.int 0))) d6)) d6) [sd (f5 h),sd d,U (.own []),J,J,J,J]=U (U8 0 h.n):=by
   show E2 [.int ((h.hs.map n6).length)]=_;rw[o9,O3 b6,fj]
  delta A8;rw[o,g8];obtain⟨s,r,f,b,c,a,m⟩:=iw (gt:=A1 3) (ds:=[sd (f5 h),sd d,U (.own []),J,J,J,J])
   (λi g=>∃f b c a,g=[sd (f5 h),sd d,U (.own (rl i λt=>fz h.w (S9 h Y t))),f,b,c,a]) ⟨J,J,J,J,rfl⟩ (by
    rintro i g j ⟨f,b,c,a,rfl⟩;obtain⟨q,p,v,e⟩:=LG A H k ok j (O i j) (l:=rl i λt=>fz h.w (S9 h Y t)) (by rw[u6];lia) b c a;rw[show(i:Int)=0+i from(N7 _).symm]at e
    refine⟨_,_,rfl,.inl e,sd (.int (0+i)),q,p,v,?_⟩;delta rl;rw[gG,V9];rfl)
  exact⟨f,b,c,a,by rw[r,m]⟩
 obtain⟨f,b,c,a,e⟩:=u;exact g0 e rfl
end
end
section
variable{ds:Ds}
theorem UR{m n:Nat}{x:Tr}{q:Q2}(d:cu m x)(hq:k8 n q)(h:m+n<=7998):bp [u4 x,fr q]=sd (u4 (yw x q)):=by delta bp;walk_at "r";rw[rG,rF,rE];walk_at "r";rw[kP d.a hq h,kP d.b hq h,kP d.c hq h];rfl
theorem a3h{m n:Nat}{x y:Tr}(d:cu m x)(e:cu n y)(h:m+n<=7998):pB [u4 x,u4 y]=sd (u4 (Dc x y)):=by delta pB;walk_at "r";rw[rG,rF,rE,rG,rF,rE];walk_at "r";rw[AK d.a e.a h,AK d.b e.b h,AK d.c e.c h];rfl
theorem Xz{gt:a7->Option (List a7)}{Fe:DV}{items:List a7}(h:∀x∈items,∃bs pv,gt x=U bs/\Fe (L7 bs++ds)=U pv):∃l,D4 gt j6 Fe ds items=U l:=by
 classical
 exact⟨_,CN (f:=λx=>if a:x∈items then(h x a).choose_spec.choose.d else .none) λx a=>⟨_,_,(h x a).choose_spec.choose_spec.1,(h x a).choose_spec.choose_spec.2,by rw[dif_pos a]⟩⟩
theorem oD{Fa Fb Fc:DV}{x y z:PV}(b:Fa ds=U x)(a:Fb ds=U y)(c:Fc ds=U z):a8 Fa (a8 Fb (a8 Fc d6)) ds=U [x.d,y.d,z.d]:=by delta a8;rw[b,g8,a,g8,c,g8];rfl
theorem XO{α β γ:Type}{f:α->β->γ}{z:γ}{l:List α}{m:List β}(h:z∈oN f l m):∃a∈l,∃b∈m,z=f a b:=by
 induction l generalizing m with
 |nil=>cases h
 |cons a l j=>cases m with
  |nil=>cases h
  |cons b m =>
   rcases List.mem_cons.mp h with rfl|h
   exact⟨a,m8,b,m8,rfl⟩;obtain⟨i,d,c,g,e⟩:=j h;exact⟨i,m5 _ d,c,m5 _ g,e⟩
theorem LC{h:i4}(H:v5 h){X:List Tr}(W:X.length<=10)(ok:∀x∈X,cu 300 x):∃d,iP [f5 h,.list (X.map u4)]=sd d:=by
 have:=H.n4;have w:Bt 60000 1000:=⟨by lia⟩
 have B:C8 (.int 2) (.int h.n)=sd (.int (2*h.n)):=l9 (w.of_le a6) (w.of_le dS);have I:∀x:Hr,k8 1 (F4 x):=λx=>by delta F4;split<;>exact⟨by decide,by decide,⟨by decide⟩,⟨by decide⟩⟩
 have v:k8 1 ((-1,1)):=⟨by decide,by decide,⟨by decide⟩,⟨by decide⟩⟩
 have t:∀{j p:Option Int} {d},d∈cutD (X.map u4) j p->∃x∈X,d=u4 x:=λ{j p d} r=>by obtain⟨x,m,e⟩:=mem_map.mp (List.mem_of_mem_drop (OQ r));exact⟨x,m,e.symm⟩
 have P:∀j p:Option Int,(cutD (X.map u4) j p).length<=10:=λj p=>by delta cutD;rw[pd,Ed,o9];exact i0 (Ec _ _) (i0 (xg _ _) c6)
 obtain⟨f,Q⟩:=Xz (gt:=G5 2) (Fe:=fo) (items:=oN (λx y=>.tuple [x,y]) (h.hs.map n6) (X.map u4)) λz N=>by obtain⟨a,R,b,q,rfl⟩:=XO N;obtain⟨x,m,rfl⟩:=mem_map.mp q;obtain⟨y,V,rfl⟩:=mem_map.mp R;refine⟨_,.dat (u4 (yw x (F4 y))),rfl,?_⟩;exact w4 rfl (oj y) (UR (ok x m) (I y) a6)
 have C:(oN (λx y=>sh [x,y]) (h.hs.map n6) (X.map u4)).length<=1000000:=by
  rw[OM,o9];lia
 have T:∃d,(c8 (d8 2 (b4 u9 (a8 (b8 l7 (b7 0) (fC (.int 0))) d6))) (c8 (d8 3 (j5 (t2 aT (a8 (b8 l7 (b7 0) (fC (.int 0))) (a8 (b7 1) d6))) (G5 2) j6 fo)) (c8 (I0 4 (D6 d6)) (c8 (d8 5 (fC ly)) (c8 (A8 (t2 uM (a8 (gC mB (b7 1) (N4 (b7 2)) (N4 (b8 C8 (fC (.int 2)) (b7 2)))) d6)) (A1 6) cj) (c8 (tM 4 Du) (p4 (nA (f9 (a8 (b4 X9 (a8 (b7 3) d6)) (a8 (b4 X9 (a8 (b7 4) d6)) (a8 (b4 X9 (a8 (gC mB (b7 1) (N4 (b8 C8 (fC (.int 2)) (b7 2))) kh) d6)) d6)))))))))))) [sd (f5 h),sd (.list (X.map u4)),J,J,J,J,J]=U (.ret (.dat d)):=by
  rw[g0 (ds1:=[sd (f5 h),sd (.list (X.map u4)),sd (.int h.n),J,J,J,J]) (j7 (pv:=.dat (.int h.n)) (by
   show u9 [.tuple (h.hs.map n6)]=_
   delta u9 d1;simp) rfl) rfl]
  rw[g0 (j7 (by
   delta j5;rw[show t2 aT (a8 (b8 l7 (b7 0) (fC (.int 0))) (a8 (b7 1) d6)) [sd (f5 h),sd (.list (X.map u4)),sd (.int h.n),J,J,J,J]=U (oN (λx y=>.tuple [x,y]) (h.hs.map n6) (X.map u4))from rfl,g8,b3 C,Q]
   rfl) rfl) rfl]
  rw[g0 rfl rfl];rw[g0 (ds1:=[sd (f5 h),sd (.list (X.map u4)),sd (.int h.n),sd (.list f),U (.own []),sd (u4 gi),J]) rfl rfl];have j:∃l k g,A8 (t2 uM (a8 (gC mB (b7 1) (N4 (b7 2)) (N4 (b8 C8 (fC (.int 2)) (b7 2)))) d6)) (A1 6) cj [sd (f5 h),sd (.list (X.map u4)),sd (.int h.n),sd (.list f),U (.own []),sd (u4 gi),J]=U (.next [sd (f5 h),sd (.list (X.map u4)),sd (.int h.n),sd (.list f),U (.own l),k,g]):=by
   have D:t2 uM (a8 (gC mB (b7 1) (N4 (b7 2)) (N4 (b8 C8 (fC (.int 2)) (b7 2)))) d6) [sd (f5 h),sd (.list (X.map u4)),sd (.int h.n),sd (.list f),U (.own []),sd (u4 gi),J]=U (cutD (X.map u4) (U h.n) (U (2*h.n))).reverse:=by
    have e:gC mB (b7 1) (N4 (b7 2)) (N4 (b8 C8 (fC (.int 2)) (b7 2))) [sd (f5 h),sd (.list (X.map u4)),sd (.int h.n),sd (.list f),U (.own []),sd (u4 gi),J]=U (.own (cutD (X.map u4) (U h.n) (U (2*h.n)))):=by
     have o:N4 (b8 C8 (fC (.int 2)) (b7 2)) [sd (f5 h),sd (.list (X.map u4)),sd (.int h.n),sd (.list f),U (.own []),sd (u4 gi),J]=U (U (2*(h.n:Int))):=by
      delta N4;rw[A6 rfl rfl];show((C8 (.int 2) (.int h.n)).bind _)=_;rw[B];rfl
     delta gC;rw[o];rfl
    delta t2 a8;rw[e];rfl
   delta A8;rw[D,g8];obtain⟨M,O,l,g,b,E,_⟩:=bJ (gt:=A1 6) (G:=cj) (items:=(cutD (X.map u4) (U h.n) (U (2*h.n))).reverse)
    (λi A=>∃l g b,A=[sd (f5 h),sd (.list (X.map u4)),sd (.int h.n),sd (.list f),U (.own l),sd (u4 b),g]/\l.length=i/\cu (1+302*i) b) ⟨[],J,gi,rfl,rfl,KA a6⟩ (by
     rintro i d A r ⟨l,g,b,rfl,L,q⟩;have:i<10:=by
      have S:=(List.getElem?_eq_some_iff.mp r).1;rw[kq]at S;have:=P (U h.n) (U (2*h.n));lia
     obtain⟨x,m,rfl⟩:=t (List.mem_reverse.mp (lZ r));have u:=Xd (ok x m) v;have s:=XM q u;refine⟨_,[sd (f5 h),sd (.list (X.map u4)),sd (.int h.n),sd (.list f),U (.own (l++[u4 (Dc b (yw x (-1,1)))])),sd (u4 (Dc b (yw x (-1,1)))),sd (u4 x)],rfl,.inl ?_,_,_,_,rfl,by simp[L],⟨s.a.mono b6,s.b.mono b6,s.c.mono b6⟩⟩
     refine g0 (j7 (w4 rfl (w4 (y:=.dat (fr (-1,1))) rfl rfl (UR (ok x m) v a6)) (a3h q u b6)) rfl) ?_;rw[kH];exact iE (.dat (u4 (Dc b (yw x (-1,1))))) rfl b6)
   exact⟨l,sd (u4 b),g,by rw[O,E]⟩
  obtain⟨l,k,g,e⟩:=j;rw[g0 e rfl];rw[g0 (ds1:=[sd (f5 h),sd (.list (X.map u4)),sd (.int h.n),sd (.list f),U (.own l.reverse),k,g]) rfl rfl];have o:N4 (b8 C8 (fC (.int 2)) (b7 2)) (bU [sd (f5 h),sd (.list (X.map u4)),sd (.int h.n),sd (.list f),U (.own l.reverse),k,g])=U (U (2*(h.n:Int))):=by
   delta N4;rw[A6 rfl rfl];show((C8 (.int 2) (.int h.n)).bind _)=_;rw[B];rfl
  have F:gC mB (b7 1) (N4 (b8 C8 (fC (.int 2)) (b7 2))) kh (bU [sd (f5 h),sd (.list (X.map u4)),sd (.int h.n),sd (.list f),U (.own l.reverse),k,g])=U (.own (cutD (X.map u4) (U (2*h.n)) J)):=by delta gC;rw[o];rfl
  refine⟨_,cL (pv:=.dat (.tuple [.tuple f,.tuple l.reverse,.tuple (cutD (X.map u4) (U (2*h.n)) J)])) ?_⟩;have K:b4 X9 (a8 (gC mB (b7 1) (N4 (b8 C8 (fC (.int 2)) (b7 2))) kh) d6) (bU [sd (f5 h),sd (.list (X.map u4)),sd (.int h.n),sd (.list f),U (.own l.reverse),k,g])=sd (.tuple (cutD (X.map u4) (U (2*h.n)) J)):=by delta b4 a8;rw[F];rfl
  delta nA f9;rw[oD rfl rfl K];rfl
 obtain⟨d,e⟩:=T;exact⟨d,T9 rfl e⟩
end
section
variable{j:Nat}
section
variable{I:o7}{D E F:Int}{c:Nat}{T:Sx.Tb}
theorem a0e(H:q9 I D E F)(G:gZ I c)(K:Sx.Ok I.pb T){i:Nat}(a:i<I.n):0<=val (O4 I T i):=by
 rcases pT K a with ⟨k,d,rfl,b,e⟩|⟨f,⟨b,q,hq,e⟩|⟨b,e⟩⟩
 have p:=A5 K.u7.pos H.un.1;rw[e,du p,Dk];exact DH (by exact_mod_cast de (K.lo k d) (N8 (H.sc a).1)) (oJ (Rat.inv_pos.mpr (J1 p)));rw[e];exact(BS (H.tp i q a hq).1.pos).mp (G.t0 i q a hq);rw[e,X7];rfl
theorem Xe(H:q9 I D E F)(G:gZ I c)(K:Sx.Ok I.pb T){i:Nat}{q:Q2}(a:i<I.n)(hq:I.tp i=U q):val (O4 I T i)<=val q:=by
 have:=yz H K a;have:=(sW H a hq).1;have:=(BS (H.tp i q a hq).1.pos).mp (G.t0 i q a hq);obtain⟨v,j,o⟩:=(sW H a hq).2;refine Rat.not_lt.mp λlt=>?_
 rcases pT K a with ⟨k,h,g,f,e⟩|⟨m,⟨f,l,b,e⟩|⟨f,e⟩⟩
 . have:yv I.pb T i=T.am I.pb k:=by delta yv;rw[b0 (by rw[f];decide),<-g,yp K.u7 _ h,N7]
   have d:((T.am I.pb k):Rat)<=v*T.size:=by exact_mod_cast (K.hi k v h (by rw[g];exact j))
   have:=PH lt (Z2 (J1 K.u7.pos) (J1 H.un.1));have:=PL d (oJ (J1 (H.sc a).1));have:(I.sc i)*(v*T.size)=val q*(T.size*I.un):=by grind
   grind
 . simp_all
 rw[e,X7]at lt;grind
end
open Classical in
def yK(h:i4)(T:Sx.Tb)(k:List Key):Rat:=if k∈X1 h then val (O4 (f7 h) T (hZ h k))else 0
section
variable{h:i4}{T:Sx.Tb}
theorem Mv(H:v5 h)(K:Sx.Ok (f7 h).pb T)(f:j<(f6 h).length):k8 310 (O4 (f7 h) T j)/\(O4 (f7 h) T j).2∣T.size*(f7 h).un:=by
 have O:=gz H;obtain⟨l,s⟩:=rL H;obtain⟨r,p,_⟩:=yO H K;have:=dJ l O.un.2.1;have m:=O.sc f;have:=dJ l m.2.1;have g:=A5 K.u7.pos O.un.1;rcases pT K f with ⟨k,o,rfl,i,e⟩|⟨t,⟨i,q,hq,e⟩|⟨i,e⟩⟩
 rw[e];refine⟨cO g (((p k o).mul (n:=8) (qm (b:=225) ⟨by decide⟩ b6 (Q0 c6 c6))).mono a6) ((r.mul (n:=8) (qm (b:=225) ⟨by decide⟩ (by have:=O.un.1;lia) (Q0 c6 c6))).mono a6),(Q9 g).2.2.2⟩;obtain⟨a,b,c,d⟩:=vE H f hq;rw[e,a];exact⟨d.mono a6,⟨_,(U2 _).symm⟩⟩;rw[e];exact⟨ot a6,⟨_,(U2 _).symm⟩⟩
theorem Ik{x:Ch}(a:x∈f6 h):yK h T x.k=val (O4 (f7 h) T (hZ h x.k)):=by delta yK;rw[b3 (mem_map.mpr ⟨x,a,rfl⟩)]
theorem Up(a:j<(f6 h).length):yK h T (au h j).k=val (O4 (f7 h) T j):=by rw[Ik (dD a),MW a]
theorem vy{k:List Key}(a:k∉X1 h):yK h T k=0:=by delta yK;rw[b0 a]
theorem XT(H:v5 h)(K:Sx.Ok (f7 h).pb T){x:Ch}(c:x∈f6 h):0<=yK h T x.k/\∀q,x.t=U q->yK h T x.k<=val q:=by obtain⟨a,b⟩:=wX c;rw[Ik c];exact⟨a0e (gz H) (wo H) K a,λq hq=>Xe (gz H) (wo H) K a (by show(au h _).t=_;rw[b];exact hq)⟩
open Classical in
theorem Cy(f:Nat->a7)(k:List Key):∀(ks:List (List Key)) (b:Nat),ks.Nodup->((ks.zip ((List.range' b ks.length).map f)).find? λp=>decide (p.1=k)).map (·.2)=if k∈ks then U (f (b+ks.findIdx λa=>decide (a=k)))else J
 | [],_,_=>(b0 i9).symm
 |a::ks,b,hn=>by
  rw[W2,Oq,m6,iM,Od,List.findIdx_cons];by_cases e:a=k;subst e;simp
  . simp only[U4 e,Q1];rw[(Cy f k ks (b+1) (List.nodup_cons.mp hn).2)];by_cases c:k∈ks
    . rw[b3 c,b3 (.inr c)];congr 2;exact Ek _ _ _
    rw[b0 c,b0 (λz=>z.elim (λz=>e z.symm) c)]
open Classical in
theorem XI(H:v5 h)(K:Sx.Ok (f7 h).pb T):Am h (vi (X1 h) (rl (f6 h).length λj=>fr (O4 (f7 h) T j))) (yK h T):=by
 have c:(X1 h).length=(f6 h).length:=(o9 ..);have b:∀k,jL (vi (X1 h) (rl (f6 h).length λj=>fr (O4 (f7 h) T j))) k=U (if k∈X1 h then U (fr (O4 (f7 h) T (hZ h k)))else J):=λk=>by
  show((rS ((X1 h).map λk=>.tuple (k.map Y7))).bind λd=>U (((d.zip (rl (f6 h).length λj=>fr (O4 (f7 h) T j))).find? λp=>decide (p.1=k)).map (·.2)))=_;rw[wY,g8];have:=Cy (λj=>fr (O4 (f7 h) T j)) k (X1 h) 0 (mL h);rw[oK,<-OS,c]at this;exact m2 U this
 refine⟨λk a=>?_,λk a=>?_,λk a=>vy a⟩;rw[b,b3 a];delta yK;rw[b3 a,JM (Mv H K (Cg a).1).1];rw[b,b0 a]
end
end
section
variable{h:i4}
theorem Ih{b:Type}{g:b->a7}(a:∀x,LF (g x)=Uf):∀l:List b,jn (l.map g)=Uf
 | []=>by simp[jn]
 |x::l=>by simp[jn,a x,Ih a l]
theorem wZ:∀ks:List (List Key),jm (ks.map B3)=U ks
 | []=>rfl
 |k::ks=>by
  show((iC (k.map Y7)).bind λk=>(jm (ks.map B3)).bind λks=>U (k::ks))=_;rw[lz,wZ ks];rfl
theorem JN(H:v5 h):∀k∈M9 h,k∈X1 h:=λk c=>by
 obtain⟨i,a,rfl⟩:=List.mem_iff_getElem.mp c;have:(M9 h).length=hM h:=by delta M9 hM;simp;lia
 obtain⟨x,b,e,_⟩:=ve H (k:=i) (OJ c6 c6);rw[cE,y4 a]at e;exact mem_map.mpr ⟨x,b,e⟩
theorem TR{g:FV}{Fa Fb Fc f Fe:DV}{ds:Ds}{a b c d e:PV}{r:Option PV}(l:Fa ds=U a)(i:Fb ds=U b)(k:Fc ds=U c)(hd:f ds=U d)(h:Fe ds=U e)(j:g [a.d,b.d,c.d,d.d,e.d]=r):b4 g (a8 Fa (a8 Fb (a8 Fc (a8 f (a8 Fe d6))))) ds=r:=by delta b4 a8;rw[l,g8,i,g8,k,g8,hd,g8,h,g8];exact j
theorem a1P(m n:Nat)(M:Nat->Nat->a7):(cq m n M).d=.list (rl m λp=>.list (rl n (M p))):=by
 show lF ((hW ((p9 m).map λp=>PF.own (rl n (M p)))).map λf=>f.2.d)=_;delta hW rl;rw[cA,cA];rfl
theorem XF(H:v5 h):∃T d,Sx.Ok (f7 h).pb T/\(∀j,j<(f7 h).n->¬Sx.G0 (f7 h).pb T j) /\
  ((∀t,t<h.n->Ke h (yK h T) t)->RO (val h.kept)->0<val h.kept->iQ [f5 h]=sd (.tuple [.tuple (rl h.n λt=>fz h.w (S9 h (yK h T) t)),d])):=by
 have O:=gz H;have:=H.n4;have:=H.w2;have:(f6 h).length<=1000:=O.n1;have hl:(X1 h).length=(f6 h).length:=(o9 ..);have r:(B1 h).length=hM h:=by delta B1 hM;simp;lia
 have l:(M9 h).length=hM h:=by delta M9 hM;simp;lia
 obtain⟨sd,es,R⟩:=KR O (wo H);have best:∃T,Sx.Ok (f7 h).pb T/\(∀j,j<(f7 h).n->¬Sx.G0 (f7 h).pb T j)/\sd=.tuple [.str "best",.list (rl (f6 h).length λj=>fr (O4 (f7 h) T j)),.list (rl (hM h) λp=>u4 (V2 (f7 h).A0 T p))]:=by
  cases R with
  |best K ne=>exact⟨_,K,ne,rfl⟩
  |endless K Y e=>exact(Fg O K Y e λj A Z=>((qk H _ (dD A)).fr Z).1).elim
 obtain⟨T,K,ne,rfl⟩:=best;obtain⟨M,N⟩:=LC H (X:=(p9 (hM h)).map λp=>V2 (f7 h).A0 T p) (by simp;show 2*h.n+h.w<=10;lia) λx L=>by
  obtain⟨p,P,rfl⟩:=mem_map.mp L;obtain⟨W,_,z4⟩:=yO H K;have mu:∀t,t<3->Bt 1 ((f7 h).mu t)/\0<(f7 h).mu t:=λt q=>by have:=dJ a6 (O.mu q).2.1;have:=(O.mu q).1;exact⟨qm (b:=1) ⟨by decide⟩ b6 b6,this⟩
  have one:∀t,t<3->k8 300 (o5 (T.pr t p) (T.size*(f7 h).mu t)):=λt q=>cO (A5 K.u7.pos (mu t q).2) ((z4 t p q (mem_range.mp P)).mono a6) ((W.mul (mu t q).1).mono a6);exact⟨one 0 a6,one 1 a6,one 2 a6⟩
 rw[cA]at N;refine⟨T,M,K,ne,λpk ok k0=>?_⟩;have ap:=Wy (XI H K) H k0 ok pk;have v:=JS h H.s;have E:=Lh h H.s;have C:=SG h H.s;have G:((f6 h).map λx=>u4 x.c)=rl (f6 h).length λj=>u4 ((f7 h).cost j):=rn (λx=>u4 x.c) ur _;have z:((f6 h).map λx=>O2 x.t)=rl (f6 h).length λj=>O2 ((f7 h).tp j):=rn (λx=>O2 x.t) ur _
 have D:((B1 h).map fr)=rl (hM h) λp=>fr ((f7 h).rg p):=by rw[<-r];exact rn fr q0 _
 have I:((M9 h).map λk=>P0 (hZ h k))=rl (hM h) λk=>.int ((f7 h).fs k):=by rw[<-l];exact rn (λk=>P0 (hZ h k)) [] _
 have u:(cq (hM h) (f6 h).length (allM (f6 h) (f6 h).length)).d=(f7 h).R8:=by
  rw[a1P];refine m2 lF (xQ λp _=>m2 lF (xQ λj A=>?_));rw[Ie,b3 (mem_range.mp A)];exact Hk p _ q0
 generalize f5 h=m at *;refine T9 rfl ?_;have o:∀g:Ch->a7,∀F:DV,(∀x i,F (sd (F2 x)::i)=sd (g x))->∀i:Ds,i[1]? = U (sd (.list ((f6 h).map F2)))->j5 (D8 (b7 1)) j8 j6 F i=U (.own ((f6 h).map g)):=λg F V i h1=>by
  refine Y9 ?_ (by rw[o9];lia) (comp_map λx _=>⟨_,V x _,rfl⟩);delta D8 b7;rw[h1];rfl
 refine g0 (j7 v rfl) ?_;refine g0 (ds1:=[sd m,sd (.list ((f6 h).map F2)),sd (.list ((X1 h).map B3)),J,J,J,J,J]) (j7 (o (λx=>B3 x.k) _ (λx i=>rfl) _ rfl) (by rw[cA];rfl)) ?_;refine g0 (ds1:=[sd m,sd (.list ((f6 h).map F2)),sd (.list ((X1 h).map B3)),U (.dat (f7 h).u3),J,J,J,J]) (j7 (o (λx=>u4 x.c) _ (λx i=>rfl) _ rfl) (by rw[G];rfl)) ?_;refine g0 (ds1:=[sd m,sd (.list ((f6 h).map F2)),sd (.list ((X1 h).map B3)),U (.dat (f7 h).u3),U (.dat (f7 h).B2),J,J,J]) (j7 (o (λx=>O2 x.t) _ (λx i=>rfl) _ rfl) (by rw[z];rfl)) ?_;refine g0 (ds1:=[sd m,sd (.list ((f6 h).map F2)),sd (.list ((X1 h).map B3)),U (.dat (f7 h).u3),U (.dat (f7 h).B2),U (.dat (f7 h).r4),J,J]) (j7 E (by rw[D];rfl)) ?_;refine g0 (ds1:=[sd m,sd (.list ((f6 h).map F2)),sd (.list ((X1 h).map B3)),U (.dat (f7 h).u3),U (.dat (f7 h).B2),U (.dat (f7 h).r4),U (.dat (f7 h).L6),J]) (j7 (pv:=.own ((M9 h).map λk=>.int (hZ h k))) (Y9 (items:=(M9 h).map B3) ?_ (by rw[o9,l];show 2*h.n+h.w<=_;lia) (comp_map λk hk=>⟨.dat (.int (hZ h k)),?_,rfl⟩)) (by rw[I];rfl)) ?_;show((cc [m]).bind λx=>ke x.d)=_;rw[C];rfl;show kG (.list ((X1 h).map B3)) [B3 k]=sd (.int (hZ h k));obtain⟨a,b⟩:=Cg (JN H k hk);refine Nm (Xl h) b6 ?_ (mL h);rw[C5,y4 a,<-rR a];exact m2 U b
 . have S:b4 u9 (a8 (b7 5) d6) [sd m,sd (.list ((f6 h).map F2)),sd (.list ((X1 h).map B3)),U (.dat (f7 h).u3),U (.dat (f7 h).B2),U (.dat (f7 h).r4),U (.dat (f7 h).L6),J]=sd (.int ((hM h))):=by
     show u9 [(f7 h).r4]=_;delta u9 d1;simp only[u6];rfl
   refine g0 (j7 (pv:=.dat (.tuple [.str "best",.list (rl (f6 h).length λj=>fr (O4 (f7 h) T j)),.list (rl (hM h) λp=>u4 (V2 (f7 h).A0 T p))])) ?_ rfl) ?_;refine TR rfl (w4 (Fa:=b7 1) (x:=.dat (.list ((f6 h).map F2))) rfl S (VU (by show 2*h.n+h.w<=_;lia) b6 λx L e Q=>((qk H x L).ns e Q).1)) rfl rfl rfl ?_;rw[u];exact es;refine cL (ow (x:=.dat _) (y:=.dat M) (w4 (y:=.dat (vi (X1 h) (rl (f6 h).length λj=>fr (O4 (f7 h) T j)))) rfl ?_ ap) (w4 rfl rfl N));show((jm ((X1 h).map B3)).bind λB=>if B.Nodup/\(rl (f6 h).length λj=>fr (O4 (f7 h) T j)).length=B.length/\jn (rl (f6 h).length λj=>fr (O4 (f7 h) T j))=Uf then U (PV.dat (vi B (rl (f6 h).length λj=>fr (O4 (f7 h) T j))))else J)=_;rw[wZ,g8,b3 ⟨mL h,by rw[u6,hl],Ih (λ_=>rfl) _⟩]
end
abbrev cB:Int:=2 ^ 60
structure Kh(h:i4)(D:Int)(x:Dy):Prop where
 b:Sz D (2 ^ 39) x.b
 g:Sz D (2 ^ 39) x.g
 fi:RO x.fi
 kf:RO (val h.kept*x.fi)
 ta:RO x.ta
 lv:Sz D cB (val h.kept*x.fi-x.ta)
 la:Sz D cB x.la
 wk:∀j,j<h.ws.length->Sz D cB (x.wk j)
theorem cI{D:Int}{f:Nat->Rat}:∀n,(∀i,i<n->Sz D cB (f i))->Sz D (cB*n) (d5 f n)
 | 0,_=>Sz.zero a6
 |n+1,hf=>by
  have:=Sz.add (cI n λi a=>hf i aW) (hf n j1);exact this
section
variable{h:i4}{D:Int}{X:Nat->Dy}
def jP(h:i4)(j:Nat):Rat:=((h.ws.getD j H0).J9:Rat)
def zH(X:Nat->Dy)(t:Nat):Rat:=d5 (λi=>(X i).la) t
def gh(h:i4)(X:Nat->Dy)(t:Nat):Rat:=d5 (jP h) h.ws.length-d5 (λi=>d5 (X i).wk h.ws.length) t
noncomputable def jV(h:i4)(X:Nat->Dy)(t:Nat):Rat:=d5 (λi=>(ae (h.hs.getD i r9):Rat)*(X i).b+((0-Y5 (h.hs.getD i r9):Int):Rat)*(X i).g) t
def gx(h:i4)(X:Nat->Dy)(t:Nat):Rat:=(h.start:Rat)+d5 (λi=>val h.kept*(X i).fi-(X i).ta) t
noncomputable abbrev cS(a p:a7)(l u q v:Rat)(y6 y7 y8 y9 y10:Option PV):Ds:=[U (.dat a),U (.dat p),U (.dat (qd l)),U (.dat (qd u)),U (.dat (qd q)),U (.dat (qd v)),y6,y7,y8,y9,y10]
theorem ja(hD:EJ D){x:Rat}{k:Nat}(h:Sz D (cB*k) x)(a:k<=1000):RO x:=h.ok hD (Q0 (cF (show(k:Int)<=1000 by lia) a6) a6)
theorem mz{x:Rat}(h:Sz D cB x):Sz D (cB*(1:Nat)) x:=by assumption
theorem aq{n:Int}(a : -1000000<=n)(b:n<=1000000):Sz D (2 ^ 20) (n:Rat):=Sz.int b6
theorem eY{x:Rat}{M:Int}(h:Sz D M x)(hM:M<=cB):Sz D cB x:=h.mono (ju _) hM
theorem Qi(hD:EJ D){g:Nat->Rat}{w:Nat}(A:w<=2)(s:∀j,j<w->Sz D cB (g j)){u:Rat}(x:Sz D (cB*(50:Nat)) u)(a p:a7)(l q v:Rat)(h m f k c:Option PV):
  ∃b,V1 (A1 10) iW (rl w λj=>qd (g j)) (cS a p l u q v h m f k c)=U (.next (cS a p l (u-d5 g w) q v h m f k b)):=by
 obtain⟨z,t,b,e⟩:=bJ (gt:=A1 10) (G:=iW)
  (λi o=>∃b,o=cS a p l (u-d5 g i) q v h m f k b) ⟨c,by rw[show u-d5 g 0=u by show u-0=u;grind]⟩ (by
   rintro i d o n ⟨b,rfl⟩;have r:i<w:=by
    have:=(List.getElem?_eq_some_iff.mp n).1
    rwa [u6]at this
   have y:d=qd (g i):=by rw[C5,lW r]at n;exact(L1 n).symm
   subst y;refine⟨_,_,rfl,.inl (j7 (w4 rfl (UT (g i)) (mI (ja hD (by have:=x.sub (cI i λj B=>s j (lI c6 c6));rw[<-bj]at this;exact this) b6) (ja hD (mz (s i r)) a6).neg)) rfl),sd (qd (g i)),?_⟩;show _=cS a p l (u-(d5 g i+g i)) q v h m f k _;rw[show u-(d5 g i+g i)=u-d5 g i + - g i by grind]
   rfl)
 rw[u6]at e;exact⟨b,by rw[t,e]⟩
noncomputable def zD(x:Hr):a7:=match x.line with
 |none=>.tuple [.int 0,.int 0,.int 0,.int 0]
 |some (a,b,c,d)=>.tuple [.int a,.int b,.int c,.int d]
theorem Xh(x:Hr):mj [n6 x]=sd (zD x)/\l7 (zD x) (.int 0)=sd (.int (ae x))/\l7 (zD x) (.int 2)=sd (.int (Y5 x)):=by
 obtain⟨s,n,l⟩:=x;cases l with
 |none=>exact⟨rfl,rfl,rfl⟩
 |some l=>exact⟨rfl,rfl,rfl⟩
theorem SR(H:v5 h){t:Nat}(f:t<h.n):(-1000<=ae (h.hr t)/\ae (h.hr t)<=1000)/\-1000<=Y5 (h.hr t)/\Y5 (h.hr t)<=1000:=by
 delta ae Y5;cases e:(h.hr t).line with
 |none=>decide
 |some l =>
  obtain⟨a,b,c,d⟩:=l;have:=H.ln t a b c d f e;exact⟨this.1,this.2.2.1⟩
theorem Ku(H:v5 h)(P:∀t,t<h.n->Kh h D (X t)){t:Nat}(g:t<=h.n):Sz D (cB*(50:Nat)) (gh h X t):=by
 have:=H.n4;have:=H.w2;have f:∀i,i<h.n->Sz D (cB*2) (d5 (X i).wk h.w):=λi b=>(cI h.w λj a=>(P i b).wk j a).mono (ju _) (cF b6 a6);have d:Sz D (cB*h.w) (d5 (jP h) h.w):=cI _ λj a=>eY (aq (by have:=H.wk j a;lia) (by have:=H.wk j a;simp only[*];done)) a6
 have e:∀i,i<=t->Sz D (cB*(2*i)) (d5 (λi=>d5 (X i).wk h.w) i):=λi=>by
  induction i with
  |zero=>intro _;exact Sz.zero a6
  |succ i c =>
   intro b;have:=(c aL).add (f i (i0 c6 c6));rw[<-bj]at this;exact this.mono (ju _) (cF b6 a6)
 have:=d.sub (e t o6);rw[<-bj]at this;exact this.mono (ju _) (cF b6 a6)
theorem NJ(hD:EJ D)(H:v5 h)(ok:RO (val h.kept))(P:∀t,t<h.n->Kh h D (X t)){t:Nat}(f:t<h.n){p:a7}(W:l7 p (.int (t:Int))=sd (fz h.w (X t)))(m V E e:Option PV):
  ∃L Y c,nI (cS (f5 h) p (zH X t) (gh h X t) (jV h X t) (gx h X t) m (sd (.int (t:Int))) V E e)=U (.next (cS (f5 h) p (zH X (t+1)) (gh h X (t+1)) (jV h X (t+1)) (gx h X (t+1)) m (sd (.int (t:Int))) L Y c)):=by
 have:=H.n4;have Q:=P t f;obtain⟨⟨G,I⟩,z,F⟩:=SR H f;obtain⟨S,O,B⟩:=Xh (h.hr t);have q:Sz D cB ((ae (h.hr t))*(X t).b):=by have:=(aq (D:=1) (n:=ae (h.hr t)) b6 (Q0 c6 a6)).mul Q.b;rw[U2]at this;exact eY this a6
 have v:Sz D cB (((0-Y5 (h.hr t):Int))*(X t).g):=by have:=(aq (D:=1) (n:=0-Y5 (h.hr t)) b6 b6).mul Q.g;rw[U2]at this;exact eY this a6
 have u:∀i,i<=h.n->Sz D (cB*i) (jV h X i):=λi r=>cI i λk hk=>by
  obtain⟨⟨G,I⟩,z,F⟩:=SR H (show k<h.n by exact i0 c6 c6);have K:=P k (i0 c6 c6);have a:=(aq (D:=1) (n:=ae (h.hr k)) b6 (Q0 c6 a6)).mul K.b;have o:=(aq (D:=1) (n:=0-Y5 (h.hr k)) b6 b6).mul K.g;rw[U2]at a o;exact eY (a.add o) a6
 have C:Sz D (cB*(1+t)) (gx h X t):=by
  have:=(mz (eY (aq (n:=h.start) (by have:=H.st;lia) (by have:=H.st;lia)) a6)).add (cI t λi r=>(P i (lI c6 c6)).lv);rw[<-bj]at this;exact this
 have M:gh h X (t+1)=gh h X t-d5 (X t).wk h.w:=by
  show d5 (jP h) h.w-(d5 (λi=>d5 (X i).wk h.w) t+d5 (X t).wk h.w)=_;delta gh;grind
 obtain⟨c,T⟩:=Qi hD H.w2 (λj hj=>Q.wk j hj) (Ku H P (eS f)) (f5 h) p (zH X (t+1)) (jV h X (t+1)) (gx h X (t+1)) m (sd (.int t)) (sd (fz h.w (X t))) (sd (zD (h.hr t))) e;refine⟨sd (fz h.w (X t)),sd (zD (h.hr t)),c,?_⟩;rw[M,<-T];have R:RO (ae (h.hr t)):=ja hD (mz (eY (aq b6 (Q0 c6 a6)) a6)) a6;have Z:RO ((0-Y5 (h.hr t):Int)):=ja hD (mz (eY (aq b6 b6) a6)) a6;have s:∀{x:Rat},Sz D (2 ^ 39) x->RO x:=λl=>ja hD (mz (eY l a6)) a6;have a:∀{x:Rat},Sz D cB x->RO x:=λl=>ja hD (mz l) a6;refine g0 (j7 W rfl) ?_;refine g0 (j7 (pv:=.dat (zD (h.hr t))) ?_ rfl) ?_;show(((l7 (.tuple (h.hs.map n6)) (.int t)).bind λx=>U [x.d]).bind mj)=_;rw[(HJ h f)];exact S;refine g0 (j7 (w4 rfl rfl (mI (ja hD (cI t λi r=>(P i (lI c6 c6)).la) b6) (a Q.la))) rfl) ?_
 refine g0
  (j7 (w4 rfl (w4 (x:=.dat (qd (ae (h.hr t)))) (ow (y:=.dat (.int 1)) (A6 (x:=.dat (zD (h.hr t))) (y:=.dat (.int 0)) rfl rfl |>.trans O) rfl) rfl (tE R (s Q.b))) (mI (ja hD (u t aL) b6) (a q))) rfl) ?_
 refine g0
  (j7 (pv:=.dat (qd (jV h X (t+1)))) ?_ rfl) ?_
 . have N:jV h X (t+1)=jV h X t+(ae (h.hr t))*(X t).b+((0-Y5 (h.hr t):Int))*(X t).g:=by
     show jV h X t+((ae (h.hr t))*(X t).b+((0-Y5 (h.hr t):Int))*(X t).g)=_;grind
   rw[N];refine w4 rfl (w4 (x:=.dat (qd ((0-Y5 (h.hr t):Int)))) (ow (x:=.dat (.int (0-Y5 (h.hr t)))) (y:=.dat (.int 1)) (A6 (x:=.dat (.int 0)) rfl ((A6 (x:=.dat (zD (h.hr t))) (y:=.dat (.int 2)) rfl rfl).trans B)) rfl) rfl (tE Z (s Q.g))) (mI (ja hD (by have:=(u t aL).add (mz q);rw[<-bj]at this;exact this) b6) (a v))
 refine g0
  (j7 (pv:=.dat (qd (gx h X (t+1)))) ?_ rfl) ?_
 . have A:gx h X (t+1)=gx h X t+(val h.kept*(X t).fi + - (X t).ta):=by
     show h.start+(d5 (λi=>val h.kept*(X i).fi-(X i).ta) t+(val h.kept*(X t).fi-(X t).ta))=_;delta gx;grind
   rw[A];refine w4 rfl (w4 (x:=.dat (qd (val h.kept*(X t).fi))) (w4 rfl rfl ?_) (UT (X t).ta) (mI Q.kf Q.ta.neg)) (mI (ja hD C b6) ?_);show P5 [fr h.kept,qd (X t).fi]=_;rw[(JM H.k)];exact tE ok Q.fi;rw[<-OE];exact a Q.lv
 rfl
end
section
variable{h:i4}{D:Int}{X:Nat->Dy}
theorem TH(hD:EJ D)(H:v5 h)(ok:RO (val h.kept))(P:∀t,t<h.n->Kh h D (X t)):
  mY [f5 h,.tuple (rl h.n λt=>fz h.w (X t))]=sd (.tuple [qd (zH X h.n),qd (gh h X h.n),qd (jV h X h.n+((0-h.rest:Int):Rat)*gx h X h.n)]) /\
   RO (zH X h.n)/\RO (gh h X h.n)/\RO (jV h X h.n+((0-h.rest:Int):Rat)*gx h X h.n):=by
 have:=H.n4;have:=H.w2;have:=H.re;have M:∀j,j<h.w->Sz D cB (jP h j):=λj l=>eY (aq (by have:=H.wk j l;lia) (by have:=H.wk j l;simp only[*];done)) a6;generalize K:sh (rl h.n λt=>fz h.w (X t))=p
 have v:∀t,t<h.n->l7 p (.int t)=sd (fz h.w (X t)):=λt r=>by
  rw[<-K,og,B9 (λt=>fz h.w (X t)) r];rfl
 have T:gx h X 0=h.start:=by show(h.start:Rat)+0=_;grind
 obtain⟨m,S,a,E⟩:=bJ (gt:=A1 6) (G:=nJ)
  (λj e=>∃a,e=cS (f5 h) p 0 (d5 (jP h) j) 0 h.start a J J J J) ⟨J,rfl⟩ (by
   rintro j d e u ⟨a,rfl⟩;have l:j<h.w:=by
    have:=(List.getElem?_eq_some_iff.mp u).1
    rwa [o9]at this
   have V:d=K5 (h.wk j):=by rw[C5,Uq l]at u;exact(L1 u).symm
   subst V;exact⟨_,_,rfl,.inl (j7 (w4 (y:=.dat (qd (jP h j))) rfl rfl (mI (ja hD (cI j λi q=>M i (lI c6 c6)) b6) (ja hD (mz (M j l)) a6))) rfl),sd (K5 (h.wk j)),rfl⟩)
 rw[o9]at E;obtain⟨W,h2,A,s,o,f,c,R⟩:=iw (gt:=A1 7) (ds:=cS (f5 h) p 0 (d5 (jP h) h.w) 0 h.start a J J J J)
  (λt e=>∃a s o f c,e=cS (f5 h) p (zH X t) (gh h X t) (jV h X t) (gx h X t) a s o f c) ⟨a,J,J,J,J,by
   rw[T,show gh h X 0=d5 (jP h) h.w by show d5 (jP h) h.w-0=_;grind]
   rfl⟩ (by rintro t e r ⟨a,s,o,f,c,rfl⟩;obtain⟨z8,z9,z10,B⟩:=NJ hD H ok P r (v t r) a o f c;exact⟨_,_,rfl,.inl (by rw[N7];exact B),_,_,_,_,_,rfl⟩)
 have N:Sz D (cB*(1+h.n)) (gx h X h.n):=by
  have:=(mz (eY (aq (n:=h.start) (by have:=H.st;lia) (by have:=H.st;lia)) a6)).add (cI h.n λi q=>(P i q).lv);rw[<-bj]at this;exact this
 have C:Sz D (2 ^ 20*(cB*(1+h.n))) (((0-h.rest:Int))*gx h X h.n):=by have:=(aq (D:=1) (n:=0-h.rest) b6 b6).mul N;rw[U2]at this;exact this
 have F:=cI h.n λk z=>by obtain⟨⟨a0,a1⟩,c0,c1⟩:=SR H z;have I:=(aq (D:=1) (n:=ae (h.hr k)) b6 (Q0 c6 a6)).mul (P k z).b;have L:=(aq (D:=1) (n:=0-Y5 (h.hr k)) b6 b6).mul (P k z).g;rw[U2]at I L;exact eY (I.add L) a6
 have Y:RO ((0-h.rest:Int)):=ja hD (mz (eY (aq b6 b6) a6)) a6;have Z:((1+h.n):Int)<=5:=by lia
 have O:(2 ^ 20*(cB*(1+h.n)))<=2 ^ 90:=Q0 (cF (cF Z a6) a6) a6;have Q:(cB*h.n)<=2 ^ 90:=Q0 (cF (show(h.n:Int)<=5 by lia) a6) a6;refine⟨?_,ja hD (cI h.n λi q=>(P i q).la) (i0 c6 a6),ja hD (Ku H P o6) a6,(F.add C).ok hD (Q0 (Int.add_le_add Q O) a6)⟩;refine T9 rfl ?_;refine g0 rfl ?_;refine g0 rfl ?_;refine g0 rfl ?_;refine g0 rfl ?_;refine g0 (ds1:=cS (f5 h) p 0 (d5 (jP h) h.w) 0 h.start a J J J J) (by rw[<-E];exact S) ?_;refine g0 (ds1:=cS (f5 h) p (zH X h.n) (gh h X h.n) (jV h X h.n) (gx h X h.n) A s o f c) ?_ ?_
 . delta A8;rw[show t2 E2 (a8 (b4 u9 (a8 (b7 1) d6)) d6) (cS (f5 h) p 0 (d5 (jP h) h.w) 0 h.start a J J J J)=U (U8 0 h.n)from by
    show(((u9 [p]).bind λx=>U [x.d]).bind E2)=_;rw[<-K,Cc,u6];show E2 [.int h.n]=_
    rw[O3 b6,fj],g8,h2,R]
 refine cL ?_;delta f9 N1;rw[oD rfl rfl (w4 (x:=.dat (qd (jV h X h.n))) rfl (w4 (x:=.dat (qd ((0-h.rest:Int)))) (y:=.dat (qd (gx h X h.n))) rfl rfl (tE Y (ja hD N b6))) (mI (ja hD F (i0 c6 a6)) (C.ok hD (Q0 (cF (cF (show((1+h.n):Int)<=5 by omega) a6) a6) a6))))];rfl
end
structure fX(h:i4)(P:Pl):Prop where
 lk:∀t,t<h.hs.length->0<=P.lk t/\P.lk t<=((h.hs.getD t r9).need:Rat)
 sp:∀t,t<h.hs.length->0<=P.sp t
 bo:∀t a b c d,t<h.hs.length->(h.hs.getD t r9).line=U (a,b,c,d)->(0<=P.bo t/\P.bo t<=(b:Rat))/\0<=P.gv t/\P.gv t<=(d:Rat)
 nl:∀t,(h.hs.getD t r9).line=J->P.bo t=0/\P.gv t=0
 fl:∀t,t<h.hs.length->0<=P.fl t/\P.fl t<=(h.fill:Rat)
 tk:∀t,t<h.hs.length->0<=P.tk t/\P.tk t<=(h.take:Rat)
 lv:∀t,t<h.hs.length->0<=P.lv t/\P.lv t<=(h.size:Rat)
 un:∀j,j<h.ws.length->0<=P.un j/\P.un j<=((h.ws.getD j H0).J9:Rat)
 wk:∀j i,j<h.ws.length->i<cv h j->0<=P.wk (M5 h j+i) j/\P.wk (M5 h j+i) j<=((h.ws.getD j H0).most:Rat)
 r1:∀s,s<h.hs.length->P.lk s+P.bo s+val h.left*P.tk s-P.sp s-P.gv s-P.fl s-mq h P s=((h.hs.getD s r9).need:Rat)-((h.hs.getD s r9).aK:Rat)
 r2:∀s,s<h.hs.length->P.lv s=(h.start:Rat)+d5 (λt=>val h.kept*P.fl t-P.tk t) (s+1)
 r3:∀j,j<h.ws.length->P.un j+d5 (λi=>P.wk (M5 h j+i) j) (cv h j)=((h.ws.getD j H0).J9:Rat)
section
variable{h:i4}{Y:List Key->Rat}{P:Pl}
def YB(Y:List Key->Rat)(x:Ch):Prop:=0<=Y x.k/\∀q,x.t=U q->Y x.k<=val q
theorem dX{k:List Key}{c:Tr}{v:Int}{ns:List (Nat×Q2)}{y:Rat}(e:Y k=y):YB Y ⟨k,c,U (v,1),ns⟩↔0<=y/\y<=(v:Rat):=by rw[<-e,<-aM v];exact⟨λa=>⟨a.1,a.2 _ rfl⟩,λa=>⟨a.1,λq z=>by cases z;exact a.2⟩⟩
theorem a1U(A:Ag h Y P)(F:fX h P):∀x∈f6 h,YB Y x:=by
 intro x e;rcases List.mem_append.mp e with e|e
 . obtain⟨t,g,e⟩:=mem_flatMap.mp e;have g:=mem_range.mp g;rcases List.mem_append.mp e with e|e
   . rcases List.mem_append.mp e with e|e
     . simp only[Q1,dM,bc]at e;rcases e with rfl|rfl
       exact(dX (A.lk t)).mpr (F.lk t g);exact⟨by show 0<=Y (k2 "spilt" t);rw[A.sp];exact F.sp t g,λq z=>by exact nE z⟩
     . unfold aX at e;cases hl:(h.hr t).line with
       |none=>rw[hl]at e;cases e
       |some l =>
        obtain⟨a,b,c,d⟩:=l;rw[hl]at e;obtain⟨n,o⟩:=A.bo t (by rw[hl];simp)
        have f:=F.bo t a b c d g hl;simp only[Q1,dM,bc]at e;rcases e with rfl|rfl
        exact(dX n).mpr f.1;exact(dX o).mpr f.2
   . unfold ah at e;simp only[Q1,dM,bc]at e;rcases e with rfl|rfl|rfl
     exact(dX (A.fl t)).mpr (F.fl t g);exact(dX (A.tk t)).mpr (F.tk t g);exact(dX (A.lv t)).mpr (F.lv t g)
 . obtain⟨j,k,e⟩:=mem_flatMap.mp e;have k:=mem_range.mp k;rcases List.mem_cons.mp e with rfl|e
   exact(dX (A.un j)).mpr (F.un j k);obtain⟨i,m,rfl⟩:=mem_map.mp e;exact(dX (A.wk _ j)).mpr (F.wk j i k (mem_range.mp m))
theorem Ht(x:Hr):val (iJ x)=gq x*((x.need:Rat)-(x.aK:Rat)):=by
 delta iJ gq;rw[aM];by_cases c:x.aK<=x.need;rw[b0 j1,b3 c,Rat.intCast_sub];grind;rw[b3 b6,b0 c,DK,Rat.intCast_sub];grind
theorem a1s(x:Hr):gq x*gq x=1:=by delta gq;split<;>grind
theorem a1T(A:Ag h Y P)(H:v5 h)(F:fX h P){p:Nat}(c:p<hM h):ls (fy Y p) (f6 h)=val ((B1 h).getD p q0):=by
 rcases yq c with a|⟨s,a,rfl⟩|⟨j,b,rfl⟩
 rw[YM A H.s a,F.r1 p a,UJ a,Ht];rw[YL A H.s a,F.r2 s a,UI a,aM];grind;rw[YK A H.s b,F.r3 j b,UH b,aM]
theorem a0F(A:Ag h Y P)(H:v5 h)(B:∀x∈f6 h,YB Y x)(R:∀p,p<hM h->ls (fy Y p) (f6 h)=val ((B1 h).getD p q0)):fX h P:=by
 have f:∀{t:Nat},t<h.n->∀{x:Ch},x∈R1 h t->YB Y x:=λe x m=>B x (L3 _ (mem_flatMap.mpr ⟨_,mem_range.mpr e,m⟩))
 refine⟨λt e=>(dX (A.lk t)).mp (f e (L3 _ (L3 _ m8))),λt e=>?_,λt a b c d e o=>?_,A.nl,λt e=>(dX (A.fl t)).mp (f e (A3 _ m8)),
  λt e=>(dX (A.tk t)).mp (f e (A3 _ (m5 _ m8))),λt e=>(dX (A.lv t)).mp (f e (A3 _ (m5 _ (m5 _ m8)))),
  λj g=>(dX (A.un j)).mp (B _ (A3 _ (mem_flatMap.mpr ⟨j,mem_range.mpr g,m8⟩))),λj i g q=>(dX (A.wk _ j)).mp (B _ (A3 _ (mem_flatMap.mpr ⟨j,mem_range.mpr g,m5 _ (mem_map.mpr ⟨i,mem_range.mpr q,rfl⟩)⟩))),λs k=>?_,λs k=>?_,λj g=>?_⟩
 rw[<-A.sp];exact(f e (L3 _ (L3 _ (m5 _ m8)))).1;obtain⟨r,u⟩:=A.bo t (by rw[o];simp);have l:∀x∈aX t (h.hr t),YB Y x:=λx m=>f e (L3 _ (A3 _ m));unfold aX at l;rw[o]at l;exact⟨(dX r).mp (l _ m8),(dX u).mp (l _ (m5 _ m8))⟩;have:=R s b6;rw[YM A H.s k,UJ k,Ht]at this;have:=a1s (h.hr s);grind;have:=R (h.n+s) b6;rw[YL A H.s k,UI k,aM]at this;grind;have:=R (2*h.n+j) j1;rw[YK A H.s g,UH g,aM]at this;exact this
end
section
variable{P:Pl}
noncomputable def kU(Y:List Key->Rat):Pl:=⟨λt=>Y (k2 "lacked" t),λt=>Y (k2 "spilt" t),λt=>Y (k2 "bought" t),λt=>Y (k2 "given" t),λt=>Y (k2 "filled" t),λt=>Y (k2 "taken" t),λt=>Y (k2 "level" t),λj=>Y (k2 "undone" j),λt j=>Y (mr t j)⟩
section
variable{h:i4}{T:Sx.Tb}
theorem Hs{t:Nat}(c:(h.hr t).line=J){s:Str}(hs:s = "bought"\/s = "given"):k2 s t∉X1 h:=λf=>by
 obtain⟨x,a,e⟩:=mem_map.mp f;rcases List.mem_append.mp a with a|a
 . obtain⟨d,_,a⟩:=mem_flatMap.mp a;obtain⟨g,_,b⟩:=oo h d a;have:=(jf (e.symm.trans b)).2;subst this;unfold R1 bT aX ah at a;rw[c]at a;simp only[W0,Z8,Q1,dM,bc]at a;rcases hs with rfl|rfl<;>rcases a with rfl|rfl|rfl|rfl|rfl<;>exact absurd (jf e).1 i6
 . obtain⟨j,_,a⟩:=mem_flatMap.mp a;rcases qT h j a with b|⟨i,b⟩<;>rw[b]at e
   . rcases hs with rfl|rfl<;>exact absurd (jf e).1 i6
   have:=m2 gQ e;simp[k2]at this
theorem Xa{t j:Nat}(c:¬(M5 h j<=t/\t<M5 h j+cv h j)):mr t j∉X1 h:=λl=>by
 obtain⟨x,a,e⟩:=mem_map.mp l;rcases List.mem_append.mp a with a|a
 obtain⟨f,_,a⟩:=mem_flatMap.mp a;obtain⟨m,_,k⟩:=oo h f a;rw[k]at e;have:=m2 gQ e;simp[k2,mr]at this
 . obtain⟨b,_,a⟩:=mem_flatMap.mp a;rcases List.mem_cons.mp a with rfl|a
   have:=m2 gQ e;simp[Z4,k2,mr]at this
   . obtain⟨i,d,rfl⟩:=mem_map.mp a;simp only[qS,mr,Ob]at e;have g:b=j:=by lia
     subst g;exact c ⟨by show M5 h b<=t;have:=e.1;lia,by have:=e.1;have:=(mem_range.mp d);lia⟩
theorem Vi:Ag h (yK h T) (kU (yK h T)):=⟨λ_=>rfl,λ_=>rfl,λ_ _=>⟨rfl,rfl⟩,λt a=>⟨vy (Hs a (.inl rfl)),vy (Hs a (.inr rfl))⟩,λ_=>rfl,λ_=>rfl,λ_=>rfl,λ_=>rfl,λ_ _=>rfl⟩
theorem BW(f:Ch->Rat):d5 (λj=>f (au h j)) (f6 h).length=ls f (f6 h):=by rw[Mx f _ _ o6,DZ]
theorem a0E(H:v5 h)(K:Sx.Ok (f7 h).pb T):fX h (kU (yK h T)):=by
 refine a0F Vi H (λx a=>XT H K a) λp b=>?_;have:=SK (gz H) K b;rw[<-BW];refine(j4 _ λj c=>?_).trans this;show val (cM (au h j).ns q0 p)*yK h T (au h j).k=_;rw[Up c];rfl
noncomputable def Pl.at(P:Pl):List Key->Rat
 | [.inr s,.inl t]=>if s = "lacked" then P.lk t.toNat else if s = "spilt" then P.sp t.toNat else if s = "bought" then P.bo t.toNat else if s = "given" then P.gv t.toNat else if s = "filled" then P.fl t.toNat else if s = "taken" then P.tk t.toNat else if s = "level" then P.lv t.toNat else P.un t.toNat
 | [.inr _,.inl t,.inl j]=>P.wk t.toNat j.toNat
 |_=>0
theorem JZ(F:fX h P):Ag h P.at P:=by
 have e:∀s t,P.at (k2 s t)=if s = "lacked" then P.lk t else if s = "spilt" then P.sp t else if s = "bought" then P.bo t else if s = "given" then P.gv t else if s = "filled" then P.fl t else if s = "taken" then P.tk t else if s = "level" then P.lv t else P.un t:=λs t=>rfl;have n:∀{a b:Str},decide (a=b)=U'->¬a=b:=λh=>of_decide_eq_false h
 refine⟨λt=>?_,λt=>?_,λt _=>⟨?_,?_⟩,F.nl,λt=>?_,λt=>?_,λt=>?_,λt=>?_,λt j=>rfl⟩<;>rw[e]
 simp;rw[b0 (n i6),b3 rfl];rw[b0 (n i6),b0 (n i6),b3 rfl];rw[b0 (n i6),b0 (n i6),b0 (n i6),b3 rfl];rw[b0 (n i6),b0 (n i6),b0 (n i6),b0 (n i6),b3 rfl];rw[b0 (n i6),b0 (n i6),b0 (n i6),b0 (n i6),b0 (n i6),b3 rfl];rw[b0 (n i6),b0 (n i6),b0 (n i6),b0 (n i6),b0 (n i6),b0 (n i6),b3 rfl];rw[b0 (n i6),b0 (n i6),b0 (n i6),b0 (n i6),b0 (n i6),b0 (n i6),b0 (n i6)]
theorem CM(H:v5 h){y:Nat->Rat}{Y:List Key->Rat}(A:Ag h Y P)(e:∀j,j<(f6 h).length->y j=Y (au h j).k){i:Nat}(a:i<3):d5 (λj=>val (H9 ((f7 h).cost j) i)*y j) (f7 h).n=cV h P i:=by rw[<-TJ A H.n1 a,<-BW];exact j4 _ λj b=>by rw[e j b];rfl
theorem least(H:v5 h)(K:Sx.Ok (f7 h).pb T)(ne:∀j,j<(f7 h).n->¬Sx.G0 (f7 h).pb T j)(F:fX h P):
  NN (cV h P 0-cV h (kU (yK h T)) 0) (cV h P 1-cV h (kU (yK h T)) 1) (cV h P 2-cV h (kU (yK h T)) 2):=by
 have B:=a1U (JZ F) F;refine JX (gz H) K ne (λj a=>(B _ (dD a)).1) (λj q a hq=>(B _ (dD a)).2 q hq) (λp c=>?_) (Δ:=λi=>if i<3 then cV h P i-cV h (kU (yK h T)) i else d5 (λj=>val (H9 ((f7 h).cost j) i)*P.at (au h j).k) (f7 h).n-d5 (λj=>val (H9 ((f7 h).cost j) i)*val (O4 (f7 h) T j)) (f7 h).n) λi=>?_;have:=a1T (JZ F) H F c;rw[<-BW]at this;exact this;by_cases b:i<3;rw[b3 b,CM H (JZ F) (λ_ _=>rfl) b,CM H Vi (λj a=>(Up a).symm) b];rw[b0 b]
end
end
section
variable{h:i4}{T:Sx.Tb}
theorem a1p{q:Q2}{m:Nat}{D M:Int}(hq:k8 m q)(hd:q.2∣D)(a:0<=val q)(c:val q<=(M:Rat)):Sz D M (val q):=by
 refine⟨?_⟩;rw[<-jd hq.pos hq.low];refine⟨hq.pos,hq.low,hd,?_⟩;have:=(BS hq.pos).mpr a;have b:=qV (p:=(M,1)) i9 hq.pos;rw[aM,U4 (Rat.not_lt.mpr c)]at b;have:=of_decide_eq_false b;lia
abbrev dY(h:i4)(T:Sx.Tb):Int:=h.kept.2*(T.size*(f7 h).un)*h.kept.1
theorem Qa(H:v5 h)(K:Sx.Ok (f7 h).pb T){k:List Key}(g:∀t,k≠k2 "spilt" t):Sz (T.size*(f7 h).un) 1000000 (yK h T k):=by
 by_cases c:k∈X1 h
 . obtain⟨x,d,rfl⟩:=mem_map.mp c;have C:=qk H x d;obtain⟨a,b⟩:=wX d;have B:=XT H K d;cases ht:x.t with
   |none=>obtain⟨_,t,e⟩:=C.fr ht;exact absurd e (g t)
   |some q =>
    obtain⟨j,m,l⟩:=C.tp q ht;have f:=B.2 q ht;have i:val q<=1000000:=by obtain⟨u,v⟩:=q;subst j;rw[aM];exact Rat.intCast_le_intCast.mpr l
    rw[Ik d]at B f ⊢;have:=Mv H K a;exact a1p this.1 this.2 B.1 (Rat.le_trans f i)
 rw[vy c];exact Sz.zero a6
theorem Ve(H:v5 h)(K:Sx.Ok (f7 h).pb T):EJ (dY h T):=by obtain⟨a,c⟩:=rL H;have O:=gz H;have:=dJ a O.un.2.1;refine⟨A5 (A5 H.k.pos (A5 K.u7.pos O.un.1)) H.k0.1,?_⟩;exact(((H.k.bb.mul ((yO H K).1.mul (n:=8) (qm (b:=225) ⟨by decide⟩ (by have:=O.un.1;lia) (Q0 c6 c6)))).mul H.k.bt)).mono a6
theorem kv(H:v5 h):0<val h.kept/\Sz h.kept.2 1 (val h.kept)/\Sz h.kept.1 15 (val h.kept)⁻¹:=by
 have a:=H.k.pos;have e:val h.kept=h.kept.1/h.kept.2:=rfl;have b:0<val h.kept:=by rw[e,Dk];exact Z2 (J1 H.k0.1) (Rat.inv_pos.mpr (J1 a))
 have q:=jd H.k.pos H.k.low;refine⟨b,⟨?_⟩,⟨?_⟩⟩;rw[<-q];exact⟨a,H.k.low,ju _,by have:=H.k0;omega⟩;rw[Cj b,<-q];exact⟨H.k0.1,by show m3 h.kept.2 h.kept.1=1;rw[xn];exact H.k.low,ju _,by show h.kept.2.natAbs<=15*h.kept.1;have:=H.k.bb.lt;have:=H.k0;lia⟩
theorem NH(H:v5 h)(K:Sx.Ok (f7 h).pb T)(t:Nat):Ke h (yK h T) t/\Kh h (dY h T) (S9 h (yK h T) t):=by
 obtain⟨n,o,g⟩:=kv H;have hD:=Ve H K;have ne:∀{s:Str},s ≠ "spilt"->∀t',k2 s t≠k2 "spilt" t':=λq t' e=>q (jf e).1;have p:T.size*(f7 h).un∣dY h T:=⟨h.kept.2*h.kept.1,by show h.kept.2*(T.size*(f7 h).un)*h.kept.1=_;rw[x9 h.kept.2,F0]⟩;have d:h.kept.2*(T.size*(f7 h).un)∣dY h T:=⟨h.kept.1,rfl⟩;have big:∀{k:List Key},(∀t,k≠k2 "spilt" t)->∀{M:Int},1000000<=M->Sz (dY h T) M (yK h T k):=λc _ hM=>(Qa H K c).mono p hM;have ok:∀{k:List Key},(∀t,k≠k2 "spilt" t)->RO (yK h T k):=λc=>(big c (oI _)).ok hD a6
 have l:∀t',k2 "filled" t≠k2 "spilt" t':=ne i6;have m:∀t',k2 "taken" t≠k2 "spilt" t':=ne i6;have i:Sz (h.kept.2*(T.size*(f7 h).un)) 1000000 (val h.kept*yK h T (k2 "filled" t)):=by have:=o.mul (Qa H K l);exact this
 have f:=i.sub ((Qa H K m).mono ⟨h.kept.2,by rw[x9]⟩ (oI _));have b:=(f.mono d (oI _)).ok hD a6;refine⟨⟨ok l,ok m,(i.mono d (oI _)).ok hD a6,b⟩,big (ne i6) a6,big (ne i6) a6,?_,?_,?_,?_,big (ne i6) a6,λj _=>big (λt' e=>by have:=m2 gQ e;simp[k2,mr]at this) a6⟩;show RO (ud _ _ _);delta ud;split;exact nV;exact(f.mul g).ok hD a6;show RO (val h.kept*ud _ _ _);delta ud;split;rw[Rat.mul_zero];exact nV;rw[show val h.kept*((val h.kept*yK h T (k2 "filled" t)-yK h T (k2 "taken" t))*(val h.kept)⁻¹)=val h.kept*yK h T (k2 "filled" t)-yK h T (k2 "taken" t) by grind];exact b;show RO (zx _ _ _);delta zx;split;rw[show 0-(val h.kept*yK h T (k2 "filled" t)-yK h T (k2 "taken" t)) = - (val h.kept*yK h T (k2 "filled" t)-yK h T (k2 "taken" t)) by grind];exact b.neg;exact nV;show Sz _ _ (val h.kept*ud _ _ _-zx _ _ _);rw[(GX (yK h T (k2 "filled" t)) (yK h T (k2 "taken" t)) n)];exact f.mono d a6
theorem pL(f:Nat->Rat)(a:Nat):∀m,d5 f (a+m)=d5 f a+d5 (λi=>f (a+i)) m
 | 0=>by show d5 f a=d5 f a+0;grind
 |m+1=>by
  show d5 f (a+m)+f (a+m)=_+(_+f (a+m));rw[pL f a m];grind
theorem Qx{g:Nat->Rat}{a n N:Nat}(h:a+n<=N):d5 (λt=>if a<=t/\t<a+n then g t else 0) N=d5 (λi=>g (a+i)) n:=by
 rw[show N=a+(n+(N-a-n)) by omega,pL,pL,M7 λi b=>b0 b6,j4 n λi b=>b3 (show a<=a+i/\a+i<a+n by simp[*]),M7 λi b=>b0 j1];grind
structure pA(h:i4)(c:Nat->Rat):Prop where
 ex:∃P,fX h P/\∀i,i<3->cV h P i=c i
 le:∀P,fX h P->NN (cV h P 0-c 0) (cV h P 1-c 1) (cV h P 2-c 2)
theorem kl(H:v5 h):∃c:Nat->Rat,F1 [f5 h]=sd (.tuple [qd (c 0),qd (c 1),qd (c 2)])/\pA h c/\∀i,i<3->RO (c i):=by
 obtain⟨T,d,K,ne,e⟩:=XF H;obtain⟨l,p,_⟩:=kv H;have ok:RO (val h.kept):=by have:EJ h.kept.2:=⟨H.k.pos,H.k.bb.mono a6⟩;exact p.ok this a6
 have F:=a0E H K;obtain⟨q,u,s,v⟩:=TH (Ve H K) H ok λt _=>(NH H K t).2
 have:=H.n1;have b:∀i,i<3->cV h (kU (yK h T)) i=(λi=>if i=0 then zH (S9 h (yK h T)) h.n else if i=1 then gh h (S9 h (yK h T)) h.n else jV h (S9 h (yK h T)) h.n+((0-h.rest:Int))*gx h (S9 h (yK h T)) h.n) i:=λi r=>by
  rcases(by lia:i=0\/i=1\/i=2)with rfl|rfl|rfl
  rfl
  . show d5 (kU (yK h T)).un h.w=gh h (S9 h (yK h T)) h.n;delta gh;rw[qX (λi j=>(S9 h (yK h T) i).wk j) h.n h.w |>.symm,<-ia];refine j4 _ λj m=>?_
    have:=F.r3 j m;have:=H.f j m;have:d5 (λt=>(S9 h (yK h T) t).wk j) h.n=d5 (λi=>(kU (yK h T)).wk (M5 h j+i) j) (cv h j):=by
     have a:=Qx (g:=λt=>yK h T (mr t j)) (n:=cv h j) (N:=h.n) (by
      show(h.wk j).first.toNat+((h.wk j).last+1-(h.wk j).first).toNat<=_
      lia)
     refine Eq.trans (j4 _ λt _=>?_) a;show yK h T (mr t j)=_;by_cases c:M5 h j<=t/\t<M5 h j+cv h j;rw[b3 c];rw[b0 c,vy (Xa c)]
    delta jP;grind
  . show d5 (λt=>(ae (h.hr t))*yK h T (k2 "bought" t)-(Y5 (h.hr t))*yK h T (k2 "given" t)) h.n-h.rest*(kU (yK h T)).lv (h.n-1)=jV h (S9 h (yK h T)) h.n+((0-h.rest:Int))*gx h (S9 h (yK h T)) h.n
    have:jV h (S9 h (yK h T)) h.n=d5 (λt=>(ae (h.hr t))*yK h T (k2 "bought" t)-(Y5 (h.hr t))*yK h T (k2 "given" t)) h.n:=j4 _ λt _=>by
     show(ae (h.hr t))*yK h T (k2 "bought" t)+((0-Y5 (h.hr t):Int))*yK h T (k2 "given" t)=_;grind
    have:gx h (S9 h (yK h T)) h.n=(kU (yK h T)).lv (h.n-1):=by
     rw[F.r2 (h.n-1) b6,show h.n-1+1=h.n by simp[*]];exact m2 (λz=>(h.start:Rat)+z) (j4 _ λt _=>GX (yK h T (k2 "filled" t)) (yK h T (k2 "taken" t)) l)
    grind
 refine⟨_,?_,⟨⟨_,F,b⟩,λP o=>?_⟩,?_⟩;refine T9 rfl (cL (w4 rfl (A6 (x:=.dat (.tuple [.tuple (rl h.n λt=>fz h.w (S9 h (yK h T) t)),d])) (y:=.dat (.int 0)) (e (λt _=>(NH H K t).1) ok l) rfl) q));have:=least H K ne o;rw[b 0 a6,b 1 a6,b 2 a6]at this;exact this
 . intro i r;rcases(by lia:i=0\/i=1\/i=2)with rfl|rfl|rfl<;>assumption
end
section
variable{y z k:Rat}{c':Nat->Rat}{P:Pl}
theorem NN.a3g{x:Rat}(h:NN x y z)(k:NN (-x) (-y) (-z)):x=0/\y=0/\z=0:=by unfold NN at *;grind
theorem NN.UK{x:Rat}(a:x=0)(b:y=0)(c:0<=z):NN x y z:=.inr ⟨a,.inr ⟨b,c⟩⟩
theorem pA.eq{h h':i4}{c:Nat->Rat}(p:0<k)(B:pA h c)(j:pA h' c')(f:∀P,fX h P->∃d,fX h' d/\NN (cV h P 0*k-cV h' d 0) (cV h P 1*k-cV h' d 1) (cV h P 2*k-cV h' d 2))(g:∀d,fX h' d->∃P,fX h P/\NN (cV h' d 0-cV h P 0*k) (cV h' d 1-cV h P 1*k) (cV h' d 2-cV h P 2*k)):c' 0=c 0*k/\c' 1=c 1*k/\c' 2=c 2*k:=by
 obtain⟨P,F,e⟩:=B.ex;obtain⟨d,q,n⟩:=f P F;obtain⟨l,o,i⟩:=j.ex;obtain⟨R,G,m⟩:=g l o;rw[e 0 a6,e 1 a6,e 2 a6]at n;rw[i 0 a6,i 1 a6,i 2 a6]at m;have a:=n.add (j.le d q);have b:=m.add ((B.le R G).mul (oJ p));have r:NN (c 0*k-c' 0) (c 1*k-c' 1) (c 2*k-c' 2):=by
  have s:∀x y z:Rat,(x-y)+(y-z)=x-z:=λx y z=>by grind
  rw[s,s,s]at a;exact a
 have t:NN (-(c 0*k-c' 0)) (-(c 1*k-c' 1)) (-(c 2*k-c' 2)):=by
  have s:∀x y z:Rat,(x-y*k)+(y-z)*k = -(z*k-x):=λx y z=>by grind
  rw[s,s,s]at b;exact b
 obtain⟨x,y,z⟩:=r.a3g t;exact⟨by grind,by grind,by grind⟩
structure qH(r:Rat)(h h':i4):Prop where
 n:h'.hs.length=h.hs.length
 w:h'.ws.length=h.ws.length
 aK:∀t,((h'.hs.getD t r9).aK:Rat)=((h.hs.getD t r9).aK:Rat)*r
 need:∀t,((h'.hs.getD t r9).need:Rat)=((h.hs.getD t r9).need:Rat)*r
 ln:∀t,((h.hs.getD t r9).line=J/\(h'.hs.getD t r9).line=J)\/∃a b c d b' d',(h.hs.getD t r9).line=U (a,b,c,d)/\(h'.hs.getD t r9).line=U (a,b',c,d')/\(b':Rat)=(b:Rat)*r/\(d':Rat)=(d:Rat)*r
 st:(h'.start:Rat)=(h.start:Rat)*r
 sz:(h'.size:Rat)=(h.size:Rat)*r
 fl:(h'.fill:Rat)=(h.fill:Rat)*r
 tk:(h'.take:Rat)=(h.take:Rat)*r
 k:h'.kept=h.kept
 l:h'.left=h.left
 re:h'.rest=h.rest
 am:∀j,((h'.ws.getD j H0).J9:Rat)=((h.ws.getD j H0).J9:Rat)*r
 mo:∀j,((h'.ws.getD j H0).most:Rat)=((h.ws.getD j H0).most:Rat)*r
 ff:∀j,(h'.ws.getD j H0).first=(h.ws.getD j H0).first/\(h'.ws.getD j H0).last=(h.ws.getD j H0).last
section
variable{r:Rat}{h h':i4}
theorem qH.symm(s:0<r)(S:qH r h h'):qH r⁻¹ h' h:=by
 have i:∀{x y:Rat},x=y*r->y=x*r⁻¹:=λ{x y} e=>by rw[e];grind
 refine⟨S.n.symm,S.w.symm,λt=>i (S.aK t),λt=>i (S.need t),λt=>?_,i S.st,i S.sz,i S.fl,i S.tk,S.k.symm,S.l.symm,S.re.symm,λj=>i (S.am j),λj=>i (S.mo j),λj=>⟨(S.ff j).1.symm,(S.ff j).2.symm⟩⟩
 rcases S.ln t with ⟨a,b⟩|⟨a,b,c,d,f,o,g,m,q,p⟩
 exact .inl ⟨b,a⟩;exact .inr ⟨a,f,c,o,b,d,m,g,i q,i p⟩
noncomputable def Pl.mul(P:Pl)(r:Rat):Pl:=⟨λt=>P.lk t*r,λt=>P.sp t*r,λt=>P.bo t*r,λt=>P.gv t*r,λt=>P.fl t*r,λt=>P.tk t*r,λt=>P.lv t*r,λj=>P.un j*r,λt j=>P.wk t j*r⟩
theorem qH.Gq(S:qH r h h')(j:Nat):M5 h' j=M5 h j/\cv h' j=cv h j:=by delta M5 cv AW;rw[(S.ff j).1,(S.ff j).2];exact⟨rfl,rfl⟩
theorem qH.fea(C:0<r)(S:qH r h h')(F:fX h P):fX h' (P.mul r):=by
 have v:∀{x:Rat},0<=x->0<=x*r:=λp=>DH p (oJ C);have le:∀{x y:Rat},0<=x/\x<=y->∀{z:Rat},z=y*r->0<=x*r/\x*r<=z:=λp z e=>⟨v p.1,by rw[e];exact EH p.2 (oJ C)⟩;refine⟨λt g=>le (F.lk t (S.n▸g)) (S.need t),λt g=>v (F.sp t (S.n▸g)),λt a b c d g m=>?_,λt m=>?_,λt g=>le (F.fl t (S.n▸g)) S.fl,λt g=>le (F.tk t (S.n▸g)) S.tk,λt g=>le (F.lv t (S.n▸g)) S.sz,λj o=>le (F.un j (S.w▸o)) (S.am j),λj i o B=>?_,λs q=>?_,λs q=>?_,λj o=>?_⟩
 . rcases S.ln t with ⟨_,z⟩|⟨E,H,G,K,D,I,A,u,M,L⟩
   rw[z]at m;exact nE m;rw[u]at m;cases m;have f:=F.bo t _ _ _ _ (S.n▸g) A;exact⟨le f.1 M,le f.2 L⟩
 . rcases S.ln t with ⟨z,_⟩|⟨E,H,G,K,D,I,A,u,_⟩
   obtain⟨a,b⟩:=F.nl t z;exact⟨by show P.bo t*r=0;rw[a];grind,by show P.gv t*r=0;rw[b];grind⟩;rw[u]at m;exact nS m
 rw[(S.Gq j).2]at B;rw[(S.Gq j).1];exact le (F.wk j i (S.w▸o) B) (S.mo j)
 . have e:mq h' (P.mul r) s=mq h P s*r:=by
     delta mq;rw[S.w,K0];refine j4 _ λj _=>?_;rw[(S.Gq j).1,(S.Gq j).2];show(if _ then P.wk s j*r else 0)=_
     split<;>grind
   rw[e,S.need,S.aK,S.l];have:=F.r1 s (S.n▸q);show P.lk s*r+P.bo s*r+val h.left*(P.tk s*r)-P.sp s*r-P.gv s*r-P.fl s*r-mq h P s*r=_;grind
 show P.lv s*r=_;rw[F.r2 s (S.n▸q),S.st,S.k,Rat.add_mul,K0];exact m2 _ (j4 _ λt _=>by show _=val h.kept*(P.fl t*r)-P.tk t*r;grind);rw[(S.Gq j).1,(S.Gq j).2,S.am,<-F.r3 j (S.w▸o),Rat.add_mul,K0];rfl
theorem qH.cost(S:qH r h h')(P:Pl):cV h' (P.mul r) 0=cV h P 0*r/\cV h' (P.mul r) 1=cV h P 1*r/\cV h' (P.mul r) 2=cV h P 2*r:=by
 refine⟨?_,?_,?_⟩;show d5 (λt=>P.lk t*r) h'.hs.length=d5 P.lk h.hs.length*r;rw[S.n,K0];show d5 (λt=>P.un t*r) h'.ws.length=d5 P.un h.ws.length*r;rw[S.w,K0]
 . show d5 (λt=>(ae (h'.hs.getD t r9))*(P.bo t*r)-(Y5 (h'.hs.getD t r9))*(P.gv t*r)) h'.hs.length-h'.rest*(P.lv (h'.hs.length-1)*r)=(d5 (λt=>(ae (h.hs.getD t r9))*P.bo t-(Y5 (h.hs.getD t r9))*P.gv t) h.hs.length-h.rest*P.lv (h.hs.length-1))*r
   have:∀t,ae (h'.hs.getD t r9)=ae (h.hs.getD t r9)/\Y5 (h'.hs.getD t r9)=Y5 (h.hs.getD t r9):=λt=>by
    delta ae Y5;rcases S.ln t with ⟨a,b⟩|⟨a,b,c,d,g,i,e,f,_⟩
    rw[a,b];exact⟨rfl,rfl⟩;rw[e,f];exact⟨rfl,rfl⟩
   rw[S.n,S.re,show ∀x y:Rat,(x-y)*r=x*r-y*r from λx y=>by grind,K0];grind
theorem qH.best(e:0<r)(S:qH r h h'){c c':Nat->Rat}(B:pA h c)(g:pA h' c'):c' 0=c 0*r/\c' 1=c 1*r/\c' 2=c 2*r:=by
 have z:∀x:Rat,x-x=0:=λx=>by grind
 refine pA.eq e B g (λP F=>⟨_,S.fea e F,?_⟩) λi f=>⟨_,(S.symm e).fea (Rat.inv_pos.mpr e) f,?_⟩;obtain⟨a,b,d⟩:=S.cost P;rw[a,b,d,z,z,z];exact NN.zero
 . obtain⟨a,b,d⟩:=(S.symm e).cost i;have q:∀x:Rat,x-x*r⁻¹*r=0:=λx=>by grind
   rw[a,b,d,q,q,q];exact NN.zero
end
noncomputable def U9(h:i4):i4:={h with ws:=h.ws.reverse}
noncomputable def Pl.rev(P:Pl)(w:Nat):Pl:={P with un:=λj=>P.un (w-1-j),wk:=λt j=>P.wk t (w-1-j)}
theorem Bi{f:Nat->Rat}{n:Nat}(h:n<=2):d5 (λj=>f (n-1-j)) n=d5 f n:=by
 rcases(by lia:n=0\/n=1\/n=2)with rfl|rfl|rfl
 rfl;rfl;show 0+f 1+f 0=0+f 0+f 1;grind
section
variable{h:i4}
theorem nR{j:Nat}(a:j<h.ws.length):(U9 h).ws.getD j H0=h.ws.getD (h.ws.length-1-j) H0:=by
 show h.ws.reverse.getD j H0=_;rw[cE,cE,Es a]
theorem GR(g:h.ws.length<=2)(F:fX h P):fX (U9 h) (P.rev h.ws.length):=by
 have b:(U9 h).ws.length=h.ws.length:=kq;have A:∀{j},j<h.ws.length->M5 (U9 h) j=M5 h (h.ws.length-1-j)/\cv (U9 h) j=cv h (h.ws.length-1-j):=λa=>by delta M5 cv;rw[nR a];exact⟨rfl,rfl⟩
 refine⟨F.lk,F.sp,F.bo,F.nl,F.fl,F.tk,F.lv,λj a=>?_,λj i a c=>?_,λs d=>?_,F.r2,λj a=>?_⟩;rw[b]at a;rw[nR a];exact F.un _ ag;rw[b]at a;rw[(A a).2]at c;rw[nR a,(A a).1];exact F.wk _ i ag c
 . have e:mq (U9 h) (P.rev h.ws.length) s=mq h P s:=by
     delta mq;rw[b,<-Bi (f:=λj=>if M5 h j<=s/\s<M5 h j+cv h j then P.wk s j else 0) g];refine j4 _ λj a=>?_;rw[(A a).1,(A a).2];rfl
   rw[e];exact F.r1 s d
 rw[b]at a;rw[nR a,(A a).1,(A a).2];exact F.r3 _ ag
theorem QS(b:h.ws.length<=2){c:Nat->Rat}(B:pA h c)(m:pA (U9 h) c'):c' 0=c 0*1/\c' 1=c 1*1/\c' 2=c 2*1:=by
 have e:(U9 h).ws.length=h.ws.length:=kq;have n:U9 (U9 h)=h:=by delta U9;simp
 have z:∀x:Rat,x*1-x=0:=λx=>by grind
 have d:∀x:Rat,x-x*1=0:=λx=>by grind
 have i:∀g:i4,g.ws.length<=2->∀P:Pl,cV (U9 g) (P.rev g.ws.length) 1=cV g P 1:=λg o P=>by
  show d5 (λj=>P.un (g.ws.length-1-j)) (U9 g).ws.length=_;rw[show(U9 g).ws.length=g.ws.length from kq];exact Bi o
 refine pA.eq a6 B m (λP F=>⟨_,GR b F,?_⟩) λa l=>?_;rw[i h b P,show cV (U9 h) (P.rev h.ws.length) 0=cV h P 0 from rfl,show cV (U9 h) (P.rev h.ws.length) 2=cV h P 2 from rfl,z,z,z];exact NN.zero;have f:=GR (by rw[e];exact b) l;have k:=i (U9 h) (by rw[e];exact b) a;rw[n]at f k;refine⟨_,f,?_⟩;rw[k,show cV h (a.rev (U9 h).ws.length) 0=cV (U9 h) a 0 from rfl,show cV h (a.rev (U9 h).ws.length) 2=cV (U9 h) a 2 from rfl,d,d,d];exact NN.zero
end
end
section
variable{P:Pl}
noncomputable def F5(h:i4):i4:={h with hs:=h.hs++[r9]}
section
variable{h:i4}
theorem ai(t:Nat):(F5 h).hs.getD t r9=h.hs.getD t r9:=by
 show(h.hs++[r9]).getD t r9=_
 rw[cE,cE];rcases Ox t h.hs.length with c|c|c
 rw[fm c];rw[kx j1,c,Nat.sub_self,ku o6];rfl;rw[ku (by simp;exact c6),ku aL]
theorem O5:(F5 h).hs.length=h.n+1:=by simp[F5]
theorem lx:h.hs.getD h.n r9=r9:=by simp
theorem Gp(H:v5 h)(P:Pl):mq h P h.n=0:=M7 λj a=>b0 (Il H.s a o6)
def A9(n:Nat)(f:Nat->Rat)(t:Nat):Rat:=if t<n then f t else 0
noncomputable def Pl.idle(P:Pl)(n:Nat):Pl:=⟨A9 n P.lk,A9 n P.sp,A9 n P.bo,A9 n P.gv,A9 n P.fl,A9 n P.tk,λt=>if t<n then P.lv t else P.lv (n-1),P.un,P.wk⟩
theorem Te(H:v5 h)(F:fX h P):fX (F5 h) (P.idle h.hs.length):=by
 have:=H.n1;have pos:∀{v:Int},0<=v->(0:Rat)<=0/\(0:Rat)<=v:=λj=>⟨Rat.le_refl,Rat.intCast_nonneg.mpr j⟩
 have k:∀{f:Nat->Rat} {v:Int} {t:Nat},t<h.hs.length+1->0<=v->(t<h.hs.length->0<=f t/\f t<=v)->0<=A9 h.hs.length f t/\A9 h.hs.length f t<=v:=λ{f v t} e j l=>by
  delta A9;by_cases c:t<h.hs.length;rw[b3 c];exact l c;rw[b0 c];exact pos j
 have sm:∀s,s<=h.hs.length->d5 (λt=>val h.kept*A9 h.hs.length P.fl t-A9 h.hs.length P.tk t) s=d5 (λt=>val h.kept*P.fl t-P.tk t) s:=λs i=>j4 _ λt e=>by delta A9;rw[b3 b6,b3 b6]
 have m:∀t,t<h.hs.length+1->0<=(h.hs.getD t r9).need:=λt e=>by
  by_cases c:t<h.hs.length;exact(H.hr t c).2.2.1;rw[show t=h.hs.length by lia,lx];decide
 refine⟨λt e=>?_,λt e=>?_,λt a b c d e g=>?_,λt g=>?_,λt e=>k (O5▸e) H.fl.1 (F.fl t),λt e=>k (O5▸e) H.tk.1 (F.tk t),λt e=>?_,F.un,F.wk,λs i=>?_,λs i=>?_,F.r3⟩;rw[O5]at e;rw[ai];exact k e (m t e) (F.lk t);rw[O5]at e;show 0<=A9 _ _ _;delta A9;by_cases c:t<h.hs.length;rw[b3 c];exact F.sp t c;rw[b0 c];rfl
 . rw[O5]at e;rw[ai]at g;have lt:t<h.hs.length:=by
    by_cases z:t<h.hs.length;exact z;rw[show t=h.hs.length by lia,lx]at g;exact nE g
   show(0<=A9 _ _ _/\A9 _ _ _<=_)/\0<=A9 _ _ _/\A9 _ _ _<=_;delta A9;rw[b3 lt,b3 lt];exact F.bo t a b c d lt g
 rw[ai]at g;obtain⟨a,b⟩:=F.nl t g;show A9 _ _ _=0/\A9 _ _ _=0;delta A9;rw[a,b];simp;show 0<=(if t<h.hs.length then P.lv t else P.lv (h.hs.length-1))/\(if t<h.hs.length then P.lv t else P.lv (h.hs.length-1))<=_;split;exact F.lv t ‹_›;exact F.lv _ ag;rw[O5]at i;rw[ai];show A9 _ P.lk s+A9 _ P.bo s+val h.left*A9 _ P.tk s-A9 _ P.sp s-A9 _ P.gv s-A9 _ P.fl s-mq h P s=_;delta A9;by_cases c:s<h.hs.length;simp only[b3 c];exact F.r1 s c;simp only[b0 c];rw[show s=h.hs.length by lia,Gp H,lx];show 0+0+val h.left*0-0-0-0-0=0-0;grind;rw[O5]at i;show(if s<h.hs.length then P.lv s else P.lv (h.hs.length-1))=h.start+d5 (λt=>val h.kept*A9 h.hs.length P.fl t-A9 h.hs.length P.tk t) (s+1);by_cases c:s<h.hs.length;rw[b3 c,sm _ c6];exact F.r2 s c;rw[b0 c,show s=h.hs.length by lia,F.r2 (h.hs.length-1) ag,show h.hs.length-1+1=h.hs.length by simp[*]];show _=h.start+(d5 _ h.hs.length+(val h.kept*A9 _ _ _-A9 _ _ _));rw[sm _ o6];delta A9;grind
theorem Nq(H:v5 h)(F:fX (F5 h) P):fX h P/\NN (cV (F5 h) P 0-cV h P 0*1) (cV (F5 h) P 1-cV h P 1*1) (cV (F5 h) P 2-cV h P 2*1):=by
 have:=H.n1;have g:∀{t},t<h.hs.length->t<(F5 h).hs.length:=λf=>by rw[O5];exact aW
 have e:h.hs.length<(F5 h).hs.length:=by rw[O5];simp[*]
 have i:=λt=>ai (h:=h) t;refine⟨⟨λt f=>i t▸F.lk t (g f),λt f=>F.sp t (g f),λt a b c d f m=>F.bo t a b c d (g f) (by rw[ai];exact m),λt m=>F.nl t (by rw[ai];exact m),λt f=>F.fl t (g f),λt f=>F.tk t (g f),λt f=>F.lv t (g f),F.un,F.wk,λs o=>i s▸F.r1 s (g o),λs o=>F.r2 s (g o),F.r3⟩,?_⟩;have r:=F.lk h.hs.length e;have j:=F.nl h.hs.length (by rw[ai,lx];rfl)
 have:=F.sp h.hs.length e;have n:=F.r1 h.hs.length e;rw[ai,lx]at r n;have x:mq (F5 h) P h.hs.length=0:=Gp H P;have v:P.lk h.hs.length=0:=by have:P.lk h.hs.length<=0:=r.2;grind
 rw[x,v,j.1,j.2]at n;have:P.fl h.hs.length=val h.left*P.tk h.hs.length-P.sp h.hs.length:=by have:0+0+val h.left*P.tk h.hs.length-P.sp h.hs.length-0-P.fl h.hs.length-0=0-0:=n;grind
 have u:∀{q:Q2},k8 4 q->q.1<=q.2->val q<=1:=λ{q} hq m=>by
  have b:=qV (p:=(1,1)) a6 hq.pos;rw[show val (1,1)=1 from aM 1]at b;refine Rat.not_lt.mp λz=>?_;rw[dg z]at b;have:=lR b;lia
 have:=EH (u H.l H.l0.2) ((F.tk h.hs.length e).1);have:=EH (u H.k H.k0.2) ((F.fl h.hs.length e).1);have w:P.lv h.hs.length<=P.lv (h.hs.length-1):=by
  rw[(F.r2 h.hs.length e),(F.r2 (h.hs.length-1) (g ag))];show h.start+(d5 _ h.hs.length+(val h.kept*P.fl h.hs.length-P.tk h.hs.length))<=h.start+_;grind
 refine NN.UK ?_ ?_ ?_;show d5 P.lk (F5 h).hs.length-d5 P.lk h.hs.length*1=0;rw[O5];show d5 P.lk h.hs.length+P.lk h.hs.length-_=0;grind;show d5 P.un h.ws.length-d5 P.un h.ws.length*1=0;grind;show 0<=d5 (λt=>(ae ((F5 h).hs.getD t r9))*P.bo t-(Y5 ((F5 h).hs.getD t r9))*P.gv t) (F5 h).hs.length-h.rest*P.lv ((F5 h).hs.length-1)-(d5 (λt=>(ae (h.hs.getD t r9))*P.bo t-(Y5 (h.hs.getD t r9))*P.gv t) h.hs.length-h.rest*P.lv (h.hs.length-1))*1;rw[O5,OC,j4 _ λt _=>by rfl];show 0<=d5 _ h.hs.length+(_*P.bo h.hs.length-_*P.gv h.hs.length)-_-_;rw[j.1,j.2];have:=PL w (Rat.intCast_nonneg.mpr H.re.1);grind
theorem Np(H:v5 h){c c':Nat->Rat}(B:pA h c)(d:pA (F5 h) c'):c' 0=c 0*1/\c' 1=c 1*1/\c' 2=c 2*1:=by
 have a:∀f:Nat->Rat,d5 (A9 h.n f) (h.n+1)=d5 f h.n:=λf=>by
  show d5 (A9 h.n f) h.n+A9 h.n f h.n=_;rw[show A9 h.n f h.n=0 from b0 (S5 _),j4 (f:=A9 h.n f) _ λt g=>b3 g];grind
 refine pA.eq a6 B d (λP F=>⟨_,Te H F,NN.UK ?_ ?_ ?_⟩) λe b=>⟨e,Nq H b⟩;show d5 P.lk h.n*1-d5 (A9 h.n P.lk) (F5 h).hs.length=0;rw[O5,a];grind;show d5 P.un h.w*1-d5 P.un h.w=0;grind
 . show 0<=(d5 (λt=>(ae (h.hr t))*P.bo t-(Y5 (h.hr t))*P.gv t) h.n-h.rest*P.lv (h.n-1))*1-(d5 (λt=>(ae ((F5 h).hs.getD t r9))*A9 h.n P.bo t-(Y5 ((F5 h).hs.getD t r9))*A9 h.n P.gv t) (F5 h).hs.length-h.rest*if (F5 h).hs.length-1<h.n then P.lv ((F5 h).hs.length-1)else P.lv (h.n-1))
   rw[O5,OC,b0 (S5 _)];have:d5 (λt=>(ae ((F5 h).hs.getD t r9))*A9 h.n P.bo t-(Y5 ((F5 h).hs.getD t r9))*A9 h.n P.gv t) (h.n+1)=d5 (λt=>(ae (h.hr t))*P.bo t-(Y5 (h.hr t))*P.gv t) h.n:=by
    rw[<-a];refine j4 _ λt _=>?_
    rw[ai];delta A9;split<;>grind
   grind
theorem Xr(H:v5 h)(m:h.hs.length<=3):v5 (F5 h):=by
 have n:(F5 h).hs.length=h.hs.length+1:=O5;refine⟨by simp[*],by simp[*],H.w2,H.k,H.k0,H.l,H.l0,H.st,H.fl,H.tk,H.re,λt i=>?_,λt a b c d i e=>?_,H.wk,λj g=>?_⟩;rw[ai];by_cases c:t<h.hs.length;exact H.hr t c;rw[show t=h.hs.length by lia,lx];decide;rw[ai]at e;by_cases z:t<h.hs.length;exact H.ln t a b c d z e;rw[show t=h.hs.length by lia,lx]at e;exact nE e;obtain⟨a,b,c⟩:=H.f j g;exact⟨a,b,by rw[n];have:=c;show(h.ws.getD j H0).last<_;lia⟩
theorem YQ(H:v5 h):v5 (U9 h):=by
 have b:(U9 h).ws.length=h.w:=kq;refine⟨H.n1,H.n4,by rw[b];exact H.w2,H.k,H.k0,H.l,H.l0,H.st,H.fl,H.tk,H.re,H.hr,H.ln,λj a=>?_,λj a=>?_⟩;rw[b]at a;rw[nR a];exact H.wk _ b6;rw[b]at a;rw[nR a];exact H.f _ b6
end
end
section
variable{ns:List Int}{k most:Int}
abbrev qJ(i:Int):Prop:=0<=i/\i<=12000
abbrev PrB(i:Int):Prop:=-100<=i/\i<=100
structure Kf(h:Hr):Prop where
 aK:qJ h.aK
 need:qJ h.need
 line:∀a b c d,h.line=U (a,b,c,d)->PrB a/\qJ b/\PrB c/\qJ d
structure Kb(n:Int)(w:Wk):Prop where
 J9:qJ w.J9
 first:0<=w.first
 fl:w.first<=w.last
 last:w.last<n
 most:qJ w.most
structure zh(h:i4):Prop where
 hs:∀x∈h.hs,Kf x
 h1:1<=h.hs.length
 hl:h.hs.length<=3
 size:qJ h.size
 start:qJ h.start
 full:h.start<=h.size
 fill:qJ h.fill
 take:qJ h.take
 kept:k8 4 h.kept
 left:k8 4 h.left
 kp:0<h.kept.1/\h.kept.1<=h.kept.2
 lf:0<h.left.1/\h.left.1<=h.left.2
 rest:0<=h.rest/\h.rest<=1000
 ws:∀w∈h.ws,Kb h.hs.length w
 wl:h.ws.length<=2
theorem fO(f:ns.length<=63)(o:0<=k)(n:k<=100000)(m0:0<=most)(m1:most<=12):∃r:Int,J5 [ez ns,.int k,.int most]=sd (.int r)/\qJ r:=by
 obtain⟨a,g,q,h⟩:=R4 (k:=1) (m:=6) f a6 a6 a6;obtain⟨b,p,j,i⟩:∃b:Int,R7 [P0 1,.int 1,.int 1,.int 1,.int 1,.int 1000] a=U (.int b)/\0<=b/\b<=1000:=by
  have:a=0\/a=1\/a=2\/a=3\/a=4\/a=5:=by lia
  rcases this with rfl|rfl|rfl|rfl|rfl|rfl<;>exact⟨_,rfl,by decide,by decide⟩
 obtain⟨d,l,e,s⟩:=R4 (k:=k) (m:=most+1) f ag (Q0 c6 a6) (Int.add_le_add_right c6 _);have c:C8 (.int b) (.int d)=sd (.int (b*d))/\qJ (b*d):=by refine⟨l9 (Bt.mC b6 (xO c6 a6)) (Bt.mC b6 b6),de j e,?_⟩;exact xv i (show d<=12 by lia) e a6
 delta J5;walk_at "r";rw[g];walk_at "r";rw[p];walk_at "r";rw[l];walk_at "r";rw[c.1];exact⟨_,rfl,c.2⟩
theorem Mz{t b:Int}(d:1<=t)(c:t<=b):0<(o5 t b).1/\(o5 t b).1<=(o5 t b).2:=by
 have:0<m3 t b:=qq t b6;have a:0<gc t b:=by lia
 have e:o5 t b=(t/gc t b,b/gc t b):=by delta o5;rw[b0 b6,W3 _ j1,W3 _ j1]
 rw[e];exact⟨EG c6 j1 (gW ..),Int.ediv_le_ediv a c⟩
theorem Bm(a:ns.length<=63)(i:0<=k)(h:k<=10000):∃q:Q2,gd [ez ns,.int k]=sd (fr q)/\k8 4 q/\0<q.1/\q.1<=q.2:=by
 obtain⟨b,e,r,j⟩:=R4 (k:=k+1) (m:=12) a b6 (xO c6 a6) a6;obtain⟨t,d,p,l⟩:=R4 (k:=k+2) (m:=1+b) a b6 b6 (yc c6);obtain⟨v,g,o,n⟩:=R4 (k:=k) (m:=5) a ag (Q0 c6 a6) a6;have L:k8 4 (o5 (1+t) (1+b)):=cO (yc c6) ⟨by omega⟩ ⟨by omega⟩
 obtain⟨q,hq,c,f⟩:∃q:Q2,R7 [.tuple [.int 1,.int 1],.tuple [.int 1,.int 2],.tuple [.int 9,.int 10],.tuple [.int 2,.int 3],fr (o5 (1+t) (1+b))] v=U (fr q)/\k8 4 q/\0<q.1/\q.1<=q.2:=by
  have:v=0\/v=1\/v=2\/v=3\/v=4:=by lia
  rcases this with rfl|rfl|rfl|rfl|rfl
  exact⟨(1,1),rfl,⟨by decide,by decide,⟨by decide⟩,⟨by decide⟩⟩,by decide⟩;exact⟨(1,2),rfl,⟨by decide,by decide,⟨by decide⟩,⟨by decide⟩⟩,by decide⟩;exact⟨(9,10),rfl,⟨by decide,by decide,⟨by decide⟩,⟨by decide⟩⟩,by decide⟩;exact⟨(2,3),rfl,⟨by decide,by decide,⟨by decide⟩,⟨by decide⟩⟩,by decide⟩;exact⟨_,rfl,L,(Mz (t:=1+t) (b:=1+b) (yc c6) b6)⟩
 delta gd;walk_at "r";rw[e];walk_at "r";rw[d];walk_at "r";rw[norm_eq b6 (Bt.mC b6 b6)];rw[fW _ rfl i9];walk_at "r";rw[g];walk_at "r";rw[hq];exact⟨q,rfl,c,f⟩
theorem JG{t:Int}(b:ns.length<=63)(T:0<=t)(X:t<4)(n:Option PV)(L:List a7)(W:L.length<1000)(A H I x7:Option PV)(r:Ds):
  ∃h:Hr,Kf h/\∃B q P z,iV (sd (ez ns)::n::U (.own L)::iD t::A::H::I::x7::r)=U (.next (sd (ez ns)::n::U (.own (L++[n6 h]))::iD t::B::q::P::z::r)):=by
 have D:=λ(j m) (w:0<=j) (C:j<100) (u:0<m)=>R4 (k:=100+20*t+j) b b6 b6 u;have N:=λj (w:0<=j) (C:j<100)=>fO (k:=100+20*t+j) (most:=12) b b6 b6 a6 a6;obtain⟨K,F,Z,q0⟩:=R4 (k:=100+20*t) (m:=4) b b6 b6 a6;obtain⟨x,O,Y,q1⟩:=D 1 27 a6 a6 a6;obtain⟨G,E,V,S⟩:=D 3 27 a6 a6 a6;obtain⟨y,R,v⟩:=N 2 a6 a6;obtain⟨s,Q,M⟩:=N 4 a6 a6;obtain⟨p,i,e⟩:=N 5 a6 a6;obtain⟨l,o,f⟩:=N 6 a6 a6;have g:∀pv a,a[2]? = U (U (.own L))->zf (U pv) 2 a=U (.next (a.set 2 (U (.own (L++[pv.d]))))):=λpv a h=>fW pv h dS;delta iV;walk_at "r";rw[l9 Bt.lit (Bt.mC b6 (Q0 c6 a6))];walk_at "r";rw[F];walk_at "r";by_cases c:0<K;rw[b3 c,O];walk_at "r";rw[E];walk_at "r";rw[R,Q];walk_at "r";rw[i,o];walk_at "r";rw[g _ _ rfl];exact⟨⟨p,l,U (x-6,y,G-6,s)⟩,⟨e,f,λ_ _ _ _ h=>by cases h;exact⟨by lia,v,by lia,M⟩⟩,_,_,_,_,rfl⟩;rw[b0 c];walk_at "r";rw[i,o];walk_at "r";rw[g _ _ rfl];exact⟨⟨p,l,J⟩,⟨e,f,λ_ _ _ _ h=>by cases h⟩,_,_,_,_,rfl⟩
theorem JF{t n:Int}(b:ns.length<=63)(G:1<=n)(H:n<=4)(F:0<=t)(K:t<2)(j x3 v h i x7 x8 l e c:Option PV)(L:List a7)(I:L.length<1000):
  ∃w:Wk,Kb n w/\∃x g d,iU [sd (ez ns),iD n,j,x3,v,h,i,x7,x8,l,U (.own L),iD t,e,c]=U (.next [sd (ez ns),iD n,j,x3,x,h,i,x7,x8,l,U (.own (L++[K5 w])),iD t,g,d]):=by
 obtain⟨a,y,E,q0⟩:=R4 (k:=200+10*t) (m:=n) b b6 b6 c6;obtain⟨f,C,M,N⟩:=R4 (k:=200+10*t+1) (m:=n-a) b b6 b6 j1;obtain⟨r,D,p⟩:=fO (k:=200+10*t+2) (most:=12) b b6 b6 a6 a6;obtain⟨q,B,A⟩:=fO (k:=200+10*t+3) (most:=8) b b6 b6 a6 a6;have u:∃z,l7 (.str "ab") (.int t)=sd (.str ⟨.mk [z]⟩):=by
  have:t=0\/t=1:=by lia
  rcases this with rfl|rfl<;>exact⟨_,rfl⟩
 obtain⟨z,s⟩:=u;have o:n8 (.str "work") (.str ⟨.mk [z]⟩)=sd (.str ("work"++⟨.mk [z]⟩)):=TZ (by show 4+1<=1000000;decide);delta iU;walk_at "r";rw[l9 Bt.lit (Bt.mC b6 (Q0 c6 a6))];walk_at "r";rw[y];walk_at "r";rw[C];walk_at "r";rw[s];walk_at "r";rw[o];walk_at "r";rw[D,B];walk_at "r";rw[fW _ rfl dS];exact⟨⟨_,r,a,a+f,q⟩,⟨p,E,by show a<=a+f;exact yc c6,by show a+f<n;lia,A⟩,_,_,_,rfl⟩
theorem Tf(d:ns.length<=63):∃h:i4,jI [ez ns]=sd (f5 h)/\zh h:=by
 obtain⟨l,en,n0',n1'⟩:=R4 (k:=10) (m:=8) d a6 a6 a6;obtain⟨n,hn,n0,n1⟩:∃b:Int,R7 [P0 1,.int 2,.int 2,.int 3,.int 3,.int 2,.int 3,.int 1] l=U (.int b)/\1<=b/\b<=3:=by
  have:l=0\/l=1\/l=2\/l=3\/l=4\/l=5\/l=6\/l=7:=by lia
  rcases this with rfl|rfl|rfl|rfl|rfl|rfl|rfl|rfl<;>exact⟨_,rfl,by decide,by decide⟩
 obtain⟨sz,es,bs⟩:=fO (k:=20) (most:=12) d a6 a6 a6 a6;obtain⟨G,et,t0,t1⟩:=R4 (k:=21) (m:=sz+1) d a6 a6 b6;obtain⟨f,ef,Z⟩:=fO (k:=22) (most:=8) d a6 a6 a6 a6;obtain⟨g,eg,bg⟩:=fO (k:=23) (most:=8) d a6 a6 a6 a6;obtain⟨N,O,S,V⟩:=Bm (k:=30) d a6 a6;obtain⟨lf,W,T,Q⟩:=Bm (k:=40) d a6 a6;obtain⟨r,er,X,r1⟩:=R4 (k:=24) (m:=13) d a6 a6 a6;obtain⟨s,ew,w0',w1'⟩:=R4 (k:=11) (m:=6) d a6 a6 a6;obtain⟨w,R,w0,w1⟩:∃b:Int,R7 [P0 0,.int 0,.int 1,.int 1,.int 2,.int 2] s=U (.int b)/\0<=b/\b<=2:=by
  have:s=0\/s=1\/s=2\/s=3\/s=4\/s=5:=by lia
  rcases this with rfl|rfl|rfl|rfl|rfl|rfl<;>exact⟨_,rfl,by decide,by decide⟩
 delta jI;walk_at "r";rw[en];walk_at "r";rw[hn];walk_at "r";rw[O3 b6];walk_at "r";obtain⟨P,h1,⟨c,p,q,F,j,u,A,y,rfl⟩⟩:=iw (gt:=A1 3) (lo:=0) (n:=n.toNat) (ds:=[sd (ez ns),iD n,U (.own []),J,J,J,J,J,J,J,J,J,J,J])
  (λi B=>∃E:List Hr,E.length=i/\(∀x∈E,Kf x)/\∃F j u A y,B=[sd (ez ns),iD n,U (.own (E.map n6)),F,j,u,A,y,J,J,J,J,J,J])
  ⟨[],rfl,by simp,J,J,J,J,J,rfl⟩ (by
   rintro i B hi ⟨E,p,q,F,j,u,A,y,rfl⟩;obtain⟨h,hh,M,z5,z6,Y,e⟩:=JG (t:=0+i) d (by simp) b6 (iD n) (E.map n6) (by simp;lia) j u A y [J,J,J,J,J,J];refine⟨_,_,rfl,.inl e,E++[h],by simp[p],?_,iD (0+i),M,z5,z6,Y,by rw[V9];rfl⟩
   intro x a;rcases List.mem_append.mp a with a|a
   exact q x a
   . simp at a;subst a;exact hh)
 rw[h1];walk_at "r";rw[es];walk_at "r";rw[et,ef,eg];walk_at "r";rw[O,W,er];walk_at "r";rw[TY i9];walk_at "r";rw[ew];walk_at "r";rw[R];walk_at "r";rw[O3 b6];walk_at "r";obtain⟨P,h2,⟨H,o,C,M,z11,I,K,rfl⟩⟩:=iw (gt:=A1 11) (n:=w.toNat) (ds:=[sd (ez ns),iD n,U (.own (c.map n6)),F,j,u,A,y,iD sz,sd (.tuple [.int sz,.int G,.int f,.int g,fr N,fr lf,.int r]),U (.own []),J,J,J])
  (λi B=>∃D:List Wk,D.length=i/\(∀x∈D,Kb n x)/\∃j L z v,B=[sd (ez ns),iD n,U (.own (c.map n6)),F,j,u,A,y,iD sz,sd (.tuple [.int sz,.int G,.int f,.int g,fr N,fr lf,.int r]),U (.own (D.map K5)),L,z,v])
  ⟨[],rfl,by simp,j,J,J,J,rfl⟩ (by
   rintro i B hi ⟨D,o,C,j,L,z,v,rfl⟩;obtain⟨w,R,M,I,K,e⟩:=JF (n:=n) (t:=0+i) d (by simp_all) b6 (by simp) b6 (U (.own (c.map n6))) F j u A y (iD sz) (sd (.tuple [.int sz,.int G,.int f,.int g,fr N,fr lf,.int r])) z v (D.map K5) (by simp;lia);refine⟨_,_,rfl,.inl e,D++[w],by simp[o],?_,M,iD (0+i),I,K,by rw[V9];rfl⟩
   intro x a;rcases List.mem_append.mp a with a|a
   exact C x a
   . simp at a;subst a;exact R)
 rw[h2];walk_at "r";refine⟨⟨c,sz,G,f,g,N,lf,r,H⟩,rfl,⟨q,by show 1<=c.length;lia,by show c.length<=3;simp_all,bs,⟨t0,by show G<=12000;lia⟩,by show G<=sz;lia,Z,bg,S,T,V,Q,⟨X,by show r<=1000;lia⟩,?_,by show H.length<=2;lia⟩⟩
 intro x a;have e:n=c.length:=by lia
 rw[<-e];exact C x a
end
section
variable{ds:Ds}
noncomputable def cK(k:Int)(x:Hr):Hr:=⟨k*x.aK,k*x.need,x.line.map λl=>(l.1,k*l.2.1,l.2.2.1,k*l.2.2.2)⟩
noncomputable def pP(k:Int)(w:Wk):Wk:=⟨w.name,k*w.J9,w.first,w.last,k*w.most⟩
noncomputable def qB(k:Int)(h:i4):i4:=⟨h.hs.map (cK k),k*h.size,k*h.start,k*h.fill,k*h.take,h.kept,h.left,h.rest,h.ws.map (pP k)⟩
theorem a0T{Fa Fb Fc a:DV}{x y z w:PV}(c:Fa ds=U x)(b:Fb ds=U y)(e:Fc ds=U z)(hd:a ds=U w):a8 Fa (a8 Fb (a8 Fc (a8 a d6))) ds=U [x.d,y.d,z.d,w.d]:=by delta a8;rw[c,g8,b,g8,e,g8,hd,g8];rfl
theorem a0S{Fa Fb Fc f Fe:DV}{a b c d e:PV}(i:Fa ds=U a)(g:Fb ds=U b)(j:Fc ds=U c)(hd:f ds=U d)(h:Fe ds=U e):a8 Fa (a8 Fb (a8 Fc (a8 f (a8 Fe d6)))) ds=U [a.d,b.d,c.d,d.d,e.d]:=by delta a8;rw[i,g8,g,g8,j,g8,hd,g8,h,g8];rfl
theorem JL{T:DB}{A B:DO}{b:Bool}{r:Option Out}(h:T ds=U b)(a:(if b=Uf then A ds else B ds)=r):G3 T A B ds=r:=by delta G3;rw[h];exact a
theorem getD_map{b:Type}{f:b->b}{d:b}(l:List b)(hd:f d=d)(t:Nat):(l.map f).getD t d=f (l.getD t d):=by
 rw[cE,cE,C5];cases l[t]? with
 |none=>exact hd.symm
 |some a=>rfl
section
variable{k:Int}{h:i4}
theorem vL(t:Nat):(qB k h).hs.getD t r9=cK k (h.hr t):=getD_map _ (by show cK k ⟨0,0,J⟩=⟨0,0,J⟩;delta cK;rw[J3];rfl) t
theorem vK(t:Nat):(qB k h).ws.getD t H0=pP k (h.wk t):=getD_map _ (by show pP k ⟨_,0,0,0,0⟩=⟨_,0,0,0,0⟩;delta pP;rw[J3]) t
theorem eB:(qB k h).hs.length=h.n/\(qB k h).ws.length=h.w:=⟨o9 _,o9 _⟩
theorem YE:qH (k:Rat) h (qB k h):=by
 have m:∀a:Int,((k*a:Int):Rat)=a*k:=λa=>by rw[x9,dh]
 refine⟨eB.1,eB.2,λt=>by rw[vL];exact m _,λt=>by rw[vL];exact m _,λt=>?_,m _,m _,m _,m _,rfl,rfl,rfl,λj=>by rw[vK];exact m _,λj=>by rw[vK];exact m _,λj=>by rw[vK];exact⟨rfl,rfl⟩⟩
 rw[vL];delta cK;cases(h.hr t).line with
 |none=>exact .inl ⟨rfl,rfl⟩
 |some l=>exact .inr ⟨l.1,l.2.1,l.2.2.1,l.2.2.2,_,_,rfl,rfl,m _,m _⟩
theorem UE(O:zh h)(z:1<=k)(v:k<=9):v5 (qB k h):=by
 have sc:∀{a:Int},0<=a->a<=12000->0<=k*a/\k*a<=1000000:=λ{a} p u=>by refine⟨de Y8 p,?_⟩;exact Q0 (xv v u p a6) a6
 have n:∀t,t<h.hs.length->Kf (h.hs.getD t r9):=λt f=>O.hs _ (by rw[cE,y4 f];exact oY f);have r:∀t,t<h.ws.length->Kb h.hs.length (h.ws.getD t H0):=λt f=>O.ws _ (by rw[cE,y4 f];exact oY f);refine⟨by rw[eB.1];exact O.h1,by rw[eB.1];have:=O.hl;exact ph c6,by rw[eB.2];exact O.wl,O.kept,O.kp,O.left,O.lf,⟨(sc O.start.1 O.start.2).1,cF O.full Y8,(sc O.size.1 O.size.2).2⟩,sc O.fill.1 O.fill.2,sc O.take.1 O.take.2,O.rest,λt f=>?_,λt a b c d f i=>?_,λj g=>?_,λj g=>?_⟩;rw[eB.1]at f;rw[vL];have x:=n t f;have a:=sc x.aK.1 x.aK.2;have b:=sc x.need.1 x.need.2;exact⟨a.1,a.2,b.1,b.2⟩;rw[eB.1]at f;rw[vL]at i;obtain⟨l,e,y⟩:=Option.map_eq_some_iff.mp (show(h.hs.getD t r9).line.map (λl=>(l.1,k*l.2.1,l.2.2.1,k*l.2.2.2))=U (a,b,c,d)from i);obtain⟨o,A,q,C⟩:=l;cases y;obtain⟨D,m,B,s⟩:=(n t f).line _ _ _ _ e;exact⟨by show -1000<=o/\o<=1000;lia,sc m.1 m.2,by show -1000<=q/\q<=1000;lia,sc s.1 s.2⟩;rw[eB.2]at g;rw[vK];have w:=r j g;have a:=sc w.J9.1 w.J9.2;have b:=sc w.most.1 w.most.2;exact⟨a.1,a.2,b.1,b.2⟩;rw[eB.2]at g;rw[vK,eB.1];have w:=r j g;exact⟨w.first,w.fl,w.last⟩
theorem YF:qB 1 h=h:=by
 have a:cK 1=id:=funext λx=>by obtain⟨s,n,l⟩:=x;delta cK;cases l<;>simp
 have b:pP 1=id:=funext λx=>by obtain⟨s,n,l,m,o⟩:=x;delta pP;simp
 delta qB
 simp_all
theorem Th(O:zh h)(M:1<=k)(N:k<=9):eU [f5 h,.int k]=sd (f5 (qB k h)):=by
 have m:∀{a:Int},0<=a/\a<=12000->C8 (.int k) (.int a)=sd (.int (k*a)):=λq=>l9 (Bt.mC b6 (xO c6 a6)) (Bt.mC b6 b6)
 have:=O.hl;have:=O.wl;obtain⟨I,G,j,g,t⟩:=bJ (gt:=A1 3)
  (λi f=>∃j g,f=[sd (f5 h),sd (.int k),U (.own ((h.hs.take i).map λx=>n6 (cK k x))),j,g,J,J]) ⟨J,J,rfl⟩ (by
   rintro i d f o ⟨j,g,rfl⟩;have p:i<h.n:=by
    have:=(List.getElem?_eq_some_iff.mp o).1
    rwa [o9]at this
   have F:d=n6 h.hs[i]:=by rw[C5,y4 p]at o;exact(L1 o).symm
   have X:=O.hs _ (oY p);have H:h.hs.take (i+1)=h.hs.take i++[h.hs[i]]:=by simp
   have u:((h.hs.take i).map λx=>n6 (cK k x)).length<1000000:=by rw[o9,pd];lia
   rw[H,V9];subst F;generalize h.hs[i]=x at *;generalize (h.hs.take i).map (λx=>n6 (cK k x))=L at *
   obtain⟨s,n,l⟩:=x;have r:=m X.aK;have v:=m X.need;cases l with
   |none =>
    refine⟨_,_,rfl,.inl (show fw [sd (f5 h),sd (.int k),U (.own L),sd (n6 ⟨s,n,J⟩),g,J,J]=U (.next [sd (f5 h),sd (.int k),U (.own (L++[n6 (cK k ⟨s,n,J⟩)])),sd (n6 ⟨s,n,J⟩),sd .none,J,J])from ?_),_,_,rfl⟩;refine g0 rfl ?_;refine g0 rfl ?_;rw[kH];delta f9;rw[oD ((A6 (x:=.dat (.int k)) (y:=.dat (.int s)) rfl rfl).trans r) ((A6 (x:=.dat (.int k)) (y:=.dat (.int n)) rfl rfl).trans v) rfl];exact iE (.dat (n6 (cK k ⟨s,n,J⟩))) rfl u
   |some l =>
    obtain⟨a,b,c,d⟩:=l;obtain⟨_,E,_,K⟩:=X.line a b c d rfl;refine⟨_,_,rfl,.inl (show fw [sd (f5 h),sd (.int k),U (.own L),sd (n6 ⟨s,n,U (a,b,c,d)⟩),g,J,J]=U (.next [sd (f5 h),sd (.int k),U (.own (L++[n6 (cK k ⟨s,n,U (a,b,c,d)⟩)])),sd (n6 ⟨s,n,U (a,b,c,d)⟩),sd (.tuple [.int a,.int (k*b),.int c,.int (k*d)]),J,J])from ?_),_,_,rfl⟩;refine g0 rfl ?_;refine g0 (JL rfl (j7 (pv:=.dat (.tuple [.int a,.int (k*b),.int c,.int (k*d)])) ?_ rfl)) ?_;delta f9;rw[a0T rfl ((A6 (x:=.dat (.int k)) (y:=.dat (.int b)) rfl rfl).trans (m E)) rfl ((A6 (x:=.dat (.int k)) (y:=.dat (.int d)) rfl rfl).trans (m K))];rfl
    . rw[kH];delta f9;rw[oD ((A6 (x:=.dat (.int k)) (y:=.dat (.int s)) rfl rfl).trans r) ((A6 (x:=.dat (.int k)) (y:=.dat (.int n)) rfl rfl).trans v) rfl];exact iE (.dat (n6 (cK k ⟨s,n,U (a,b,c,d)⟩))) rfl u)
 rw[o9,DZ]at t;have B:∀f:Ds,f[0]? = U (sd (f5 h))->f[1]? = U (sd (.int k))->j5 (D8 (gC mB (b8 l7 (b7 0) (fC (.int 1))) kh (N4 (fC (.int 4))))) j8 j6 jT f=U (.own ([h.size,h.start,h.fill,h.take].map λa=>P0 (k*a))):=λf A D=>by
  have z:b7 0 f=sd (f5 h):=by delta b7;rw[A]
  refine Y9 ?_ (by show 4<=1000000;decide) (comp_map λa q=>⟨.dat (.int (k*a)),(A6 (x:=.dat (.int k)) (y:=.dat (.int a)) ?_ rfl).trans (m ?_),rfl⟩);delta D8 gC b8;rw[z];rfl;show b7 1 f=_;delta b7;rw[D]
  . simp only[Q1,dM,bc]at q;rcases q with rfl|rfl|rfl|rfl
    exact O.size;exact O.start;exact O.fill;exact O.take
 refine T9 rfl ?_;refine g0 rfl ?_;refine g0 (ds1:=[sd (f5 h),sd (.int k),U (.own (h.hs.map λx=>n6 (cK k x))),j,g,J,J]) (by rw[<-t];exact G) ?_;refine g0 (ds1:=[sd (f5 h),sd (.int k),U (.own (h.hs.map λx=>n6 (cK k x))),j,g,sd (S8 (qB k h)),J]) (j7 ((A6 (x:=.dat (.tuple [.int (k*h.size),.int (k*h.start),.int (k*h.fill),.int (k*h.take)])) ?_ rfl).trans rfl) rfl) ?_;delta b4 a8;rw[B _ rfl rfl];rfl;refine g0 (j7 (pv:=.dat (.tuple (h.ws.map λw=>K5 (pP k w)))) ?_ rfl) ?_
 . have e:j5 (D8 (b8 l7 (b7 0) (fC (.int 2)))) j8 j6 fq [sd (f5 h),sd (.int k),U (.own (h.hs.map λx=>n6 (cK k x))),j,g,sd (S8 (qB k h)),J]=U (.own (h.ws.map λw=>K5 (pP k w))) :=
     Y9 rfl (by rw[o9];exact dS) (comp_map λw C=>⟨.dat (K5 (pP k w)),by have W:=O.ws w C;delta fq f9;rw[a0S rfl ((A6 (x:=.dat (.int k)) (y:=.dat (.int w.J9)) rfl rfl).trans (m W.J9)) rfl rfl ((A6 (x:=.dat (.int k)) (y:=.dat (.int w.most)) rfl rfl).trans (m W.most))];rfl,rfl⟩)
   delta b4 a8;rw[e];rfl
 refine cL ?_;delta f5 qB;simp only[cA];rfl
end
end
section
variable{c':Nat->Rat}
def cT(c:Nat->Rat):Tr:=⟨q2 (c 0),q2 (c 1),q2 (c 2)⟩
theorem Ic{c:Nat->Rat}(h:c' 0=c 0*1/\c' 1=c 1*1/\c' 2=c 2*1):cT c'=cT c:=by
 delta cT
 simp_all
theorem XD{c:Nat->Rat}{k:Int}(h:c' 0=c 0*k/\c' 1=c 1*k/\c' 2=c 2*k):cT c'=pS gi (cT c) (k,1):=by
 have e:∀x:Rat,Z5 q0 (C3 (q2 x) (k,1))=q2 (x*k):=λx=>by rw[<-Za k,pQ,show q0=q2 0 from rfl,ym,Rat.zero_add]
 delta cT pS
 simp_all
theorem ql{g:FV}{Fa:DV}{ds:Ds}{x:PV}{r:Option PV}(a:Fa ds=U x)(e:g [x.d]=r):b4 g (a8 Fa d6) ds=r:=by delta b4 a8;rw[a,g8];exact e
theorem SS(ns:List Int)(q:ns.length<=63):qt [ez ns]=sd (.bool Uf):=by
 obtain⟨h,T,O⟩:=Tf q;have H:v5 h:=by
  have:=UE O (k:=1) a6 a6
  rwa [YF]at this
 obtain⟨c,L,B,ok⟩:=kl H;obtain⟨w,Q,V,W⟩:=R4 (k:=901) (m:=4) q a6 a6 a6;obtain⟨d,M,X,Y⟩:=R4 (k:=900) (m:=8) q a6 a6 a6;have p:F1 [f5 h]=sd (u4 (cT c)):=L;have i:=λx=>Tw (a1q x)
 have a:∀n K,k9 (b8 F3 (b7 3) (fC (.int n))) [sd (ez ns),sd (f5 h),sd (u4 (cT c)),sd (.int w),K]=U (decide (w=n)):=λn K=>by rfl
 refine T9 rfl ?_;refine g0 (j7 T rfl) ?_;refine g0 (j7 p rfl) ?_;refine g0 (ds1:=[sd (ez ns),sd (f5 h),sd (u4 (cT c)),sd (.int w),J]) (j7 Q rfl) ?_;have j:∀{F:DV} {G:DO} {g:Ds} {x:Tr} {n:Int},k9 (b8 F3 (b7 3) (fC (.int n))) g=U Uf->b7 2 g=sd (u4 (cT c))->F g=sd (u4 x)->x=cT c->c8 (G3 (k9 (b8 F3 (b7 3) (fC (.int n)))) (p4 (b8 F3 F (b7 2))) A4) G g=U (.ret (.dat (.bool Uf))):=λ{F G g x n} s N P e=>by subst e;have r:=JL (B:=A4) s ((b3 rfl).trans (cL ((A6 P N).trans (i _))));rw[k6,r];rfl
 have skip:∀{A G:DO} {g:Ds} {n:Int} {r:Option Out},k9 (b8 F3 (b7 3) (fC (.int n))) g=U U'->G g=r->c8 (G3 (k9 (b8 F3 (b7 3) (fC (.int n)))) A A4) G g=r:=λs S=>g0 (JL s rfl) S;by_cases D:w=0;exact j (by rw[a,dg D]) rfl p rfl;refine skip (by rw[a,U4 D]) ?_;by_cases E:w=1
 . obtain⟨C,l,o,_⟩:=kl (YQ H);refine j (by rw[a,dg E]) rfl ?_ (Ic (QS H.w2 B o))
   have v:f9 (a8 (b8 l7 (b7 1) (fC (.int 0))) (a8 (b8 l7 (b7 1) (fC (.int 1))) (a8 (b4 X9 (a8 (lr (a8 (b8 l7 (b7 1) (fC (.int 2))) d6)) d6)) d6))) [sd (ez ns),sd (f5 h),sd (u4 (cT c)),sd (.int w),J]=sd (f5 (U9 h)):=by
    delta f9;rw[oD (z:=.dat (.tuple (h.ws.map K5).reverse)) rfl rfl ?_];delta f5 U9;rw[List.map_reverse];rfl
    . have:lr (a8 (b8 l7 (b7 1) (fC (.int 2))) d6) [sd (ez ns),sd (f5 h),sd (u4 (cT c)),sd (.int w),J]=U (.own (h.ws.map K5).reverse):=by have:=H.w2;exact b3 (by rw[o9];exact dS)
      exact ql this rfl
   exact ql v l
 refine skip (by rw[a,U4 E]) ?_;by_cases I:w=2
 . obtain⟨C,l,o,_⟩:=kl (Xr H O.hl);refine j (by rw[a,dg I]) rfl ?_ (Ic (Np H B o))
   have v:f9 (a8 (b8 n8 (b8 l7 (b7 1) (fC (.int 0))) (f9 (a8 (f9 (a8 (fC (.int 0)) (a8 (fC (.int 0)) (a8 (fC .none) d6)))) d6))) (a8 (b8 l7 (b7 1) (fC (.int 1))) (a8 (b8 l7 (b7 1) (fC (.int 2))) d6))) [sd (ez ns),sd (f5 h),sd (u4 (cT c)),sd (.int w),J]=sd (f5 (F5 h)):=by
    delta f9;rw[oD ((A6 (y:=.dat (.tuple [n6 r9])) rfl rfl).trans (b3 (by have:=H.n4;simp;exact dS))) rfl rfl];delta f5 F5;rw[V9];rfl
   exact ql v l
 refine skip (by rw[a,U4 I]) ?_
 obtain⟨C,l,o,_⟩:=kl (UE O (k:=2+d) b6 b6);have u:b8 n8 (fC (.int 2)) (b4 B8 (a8 (b7 0) (a8 (fC (.int 900)) (a8 (fC (.int 8)) d6)))) [sd (ez ns),sd (f5 h),sd (u4 (cT c)),sd (.int w),J]=sd (.int (2+d)):=(A6 rfl (vq (z:=.dat (.int 8)) rfl rfl rfl M)).trans rfl;refine g0 (j7 u rfl) ?_;have t:cu 3000 (cT c):=⟨(ok 0 a6).f,(ok 1 a6).f,(ok 2 a6).f⟩;have R:b4 F1 (a8 (b4 eU (a8 (b7 1) (a8 (b7 4) d6))) d6) [sd (ez ns),sd (f5 h),sd (u4 (cT c)),sd (.int w),sd (.int (2+d))]=sd (u4 (cT C)):=by exact ql (w4 rfl rfl (Th O b6 b6)) l
 refine cL ((A6 R (vq rfl rfl rfl (a1O (m:=1) (KA a6) t (kW (m:=8) (n:=2+d) (qm (b:=10) ⟨by decide⟩ b6 b6) a6) a6))).trans ?_);rw[(XD (YE.best (Rat.intCast_pos.mpr b6) B o))];exact i _
end
end Law
set_option maxHeartbeats 4000000
local macro_rules | `(tactic| walk_at "c") => `(tactic| exact⟨rfl, rfl, rfl, by decide +kernel, rfl, by decide +kernel, by decide +kernel⟩)
namespace Law
open PySem L2
section
variable{p:List a9->Prop}{k' k0 Xj MQ MP MO MN FP FN FL yG tW SW MM FK FJ FI:Nat}{fa tF mK dC aO pX mJ rC rB rA nu nt nr nq nk nj:Addr}{Xm Nf Nc Nb Na Ge Gd Gb yI tY SY MZ Ga FZ FY:Option Addr}{Xi MK MJ MI MH FH FG FF yF tV SV MG FE FC FA:Array (Option a9)}{Fz Fy Fw Fs Fq Fp Ay Ax Aw Av Au Ar vc uZ qR qQ JC JB JA Aq Ap Ao An Ak Aj:Tok}
def top(i:Nat):Stmt:=PySem.Challenge.pw_sunstore_k51_best_costs_hang_on_the_hous.main.body.getD i (.Pass ⟨0,0,0,0⟩)
inductive Rw(K:d2)(m n:Str)(s:Stmt)(f:Addr):B4->Prop
 |mk {oc kV dc pm cd ct:a9} {od an:Option Addr} {sl:Array (Option a9)} (l:K.lookup f=U ⟨oc,od,.func (eR m n (fT s) (aj s) (B6 s) .none kV dc pm an cd ct),sl⟩) (c:xA K cd n=Uf) (k:eT K (.ref f)=Uf):Rw K m n s f (eR m n (fT s) (aj s) (B6 s) .none kV dc pm an cd ct)
theorem UG{K:d2}{m n:Str}{s:Stmt}{f:Addr}{fd:B4}(r:Rw K m n s f fd):sQ K m n s f fd:=by obtain⟨l,c,k⟩:=r;exact a0B l c k
theorem b00(h:p []):∀us,us.length=0->p us:=λus e=>by
 cases us with
 |nil=>exact h
 |cons _ _=>cases e
theorem b01{k:Nat}(h:∀x,∀us,us.length=k->p (x::us)):∀us,us.length=k+1->p us:=λus e=>by
 cases us with
 |nil=>cases e
 |cons x t=>exact h x t (xo e)
local macro_rules | `(tactic| walk_at "b") => `(tactic| (intro _ _ _ _ _ _; repeat first|exact b00 rfl|refine b01 λ_ => ?_))
structure Dd(K:d2)(Jff:Prop)(n q:Str)(s:Stmt)(N:List Str)(k:Nat)(f:Addr)(fd:B4):Prop where
 F:sQ K n q s f fd
 m:Jff
inductive De where
 |f (n:Str) (i:Nat) (N:List Str) (k:Nat)
 |m (n q:Str) (i j:Nat) (N:List Str) (k:Nat)
 |i (q:Str) (i j:Nat) (N:List Str) (k:Nat)
inductive Nd(K:d2)(C:Addr):De->Addr->B4->Prop
 |f {n:Str} {i k:Nat} {N:List Str} {f:Addr} {d:B4} (a:bM K L0 n=U (U (.ref f))) (r:Rw K n n (top i) f d):Nd K C (.f n i N k) f d
 |m {n q:Str} {i j k:Nat} {N:List Str} {f:Addr} {d:B4} (a:V8 K (.ref C) n=U (U (.ref f))) (b:su K (.ref f)=Uf) (r:Rw K n q (inClass (top i) j) f d):Nd K C (.m n q i j N k) f d
 |i {q:Str} {i j k:Nat} {N:List Str} {f:Addr} {d:B4} (a:V8 K (.ref C) "__init__" = U (U (.ref f))) (b:su K (.ref f)=Uf) (r:Rw K "__init__" q (inClass (top i) j) f d):Nd K C (.i q i j N k) f d
inductive Ns(K:d2)(C:Addr):List De->List Addr->List B4->Prop
 |n:Ns K C [] [] []
 |c {e:De} {l:List De} {f:Addr} {fs:List Addr} {d:B4} {ds:List B4}:Nd K C e f d->Ns K C l fs ds->Ns K C (e::l) (f::fs) (d::ds)
theorem Ns.at{K:d2}{C:Addr}{d0:B4}{e:De}:∀{l:List De} {fs:List Addr} {ds:List B4} {i:Nat},Ns K C l fs ds->l[i]? = U e->Nd K C e (fs.getD i 0) (ds.getD i d0)
 |_,_,_,0,.c h _,m=>by cases m;exact h
 |_,_,_,_+1,.c _ t,m=>t.at m
abbrev bdT(n q:Str)(s:Stmt)(N:List Str)(k:Nat):Prop:=∀(kV doc pm:a9) (an:Option Addr) (cdv ct:a9) (us:List a9),us.length=k->bindArgs (eR n q (fT s) (aj s) (B6 s) .none kV doc pm an cdv ct) ⟨us,[]⟩=pure ((N.take k).zip us)
theorem Nd.to{K:d2}{C:Addr}{n:Str}{i k:Nat}{N:List Str}{f:Addr}{d:B4}(h:Nd K C (.f n i N k) f d)(b:bdT n n (top i) N k)(s:b9)(us:List a9)(l:us.length=k):jo s d ⟨us,[]⟩ ((N.take k).zip us):=by
 cases h with
 |f a r =>
  cases r with
  |mk _ _ _=>exact .of_eq (b _ _ _ _ _ _ us l)
section
variable{K:d2}{mg:Str->Option a9}{n q:Str}{s:Stmt}{N:List Str}{k l:Nat}{f C:Addr}{fd:B4}{h:Heap}{Jff:Prop}{P:n9}{w:k7}{base:Heap}{G:DO}
structure Ok(P:n9)(w:k7)(mg:Str->Option a9)(base:Heap)(D:Dd K Jff n q s N k f fd)(l:Nat)(sp:Sp):Prop where
 h:W4 P w K mg base qP l f fd (N.take k) sp
 b:Binds K fd (N.take k) []
abbrev okT(P:n9)(w:k7)(K:d2)(mg:Str->Option a9)(base:Heap)(N:List Str)(q:Str)(s:Stmt)(f:Addr)(l:Nat)(G:DO):Prop:=∀(cdv:a9) (A:t6) (outer:List Env) (s':b9) (H:Hp) (E:XK),N.Nodup->D1 l (A.deeper (PyProof.Rows.envOfC q (B6 s) s'.heap.objs.size f cdv))->∃t,gF (nB qP P w K mg base N q (B6 s) f cdv A outer s' H E).zz (aj s) t G
theorem okA(D:Dd K Jff n q s N k f fd)(b:okT P w K mg base N q s f l G)(e:autoParam ((N.take k).length<=N.length) a6._auto_1)(z:bdT n q s N k:=by walk_at "b")(S:iH N (N.take k) (B6 s):=by walk_at "c")(r:autoParam ((N.take k).length=k) d3._auto_1):Ok P w mg base D (l+1) (t7 K (w5 (N.take k).length N.length G)):=⟨D.F.okF S e λ_ _ _ _ _ _ hr=>b _ _ _ _ _ _ S.nd hr,D.F.binds λ_ _ _ _ _ _ us hl=>z _ _ _ _ _ _ us (hl.trans r)⟩
theorem okB(D:Dd K Jff n q s N k f fd)(b:okT P w K mg base N q s f l G)(e:autoParam ((N.take k).length<=N.length) a6._auto_1)(z:bdT n q s N k:=by walk_at "b")(S:iH N (N.take k) (B6 s):=by walk_at "c")(r:autoParam ((N.take k).length=k) d3._auto_1):Ok P w mg base D (l+1) (jb K (ou (N.take k).length N.length G)):=⟨D.F.okO S e λ_ _ _ _ _ _ hr=>b _ _ _ _ _ _ S.nd hr,D.F.binds λ_ _ _ _ _ _ us hl=>z _ _ _ _ _ _ us (hl.trans r)⟩
end
inductive Al(p:Str->Prop):List Str->Prop
 |n:Al p []
 |c {s:Str} {r:List Str}:p s->Al p r->Al p (s::r)
theorem Al.at{p:Str->Prop}{s:Str}:∀{l:List Str},Al p l->s∈l->p s
 |_::_,.c h t,m=>by
  cases m with
  |head=>exact h
  |tail _ m=>exact t.at m
theorem pcD{X:Cx}{K':d2}{mg':Str->Option a9}{fr:Bool}{e:Expr}{es:List Expr}{t:TA}{Fl:DL}{pos p:Pos}{k:Nat}{f:Addr}{fd:B4}{N:List Str}{x q:Str}{st:Stmt}{f':FV}{D:Dd K' (mg' x=U (.ref f)) x q st N k0 f fd}(G:Ok X.prog X.w mg' X.base D k (t7 K' f'))(hr:D1 k' X.A)(ha:aY X fr (e::es) t Fl)(eK:autoParam (X.K=K') d3._auto_1)(em:autoParam (X.mg=mg') d3._auto_1)(hk:k<=k':=by omega)(hg:Gl X x:=by exact rfl)(hdb:autoParam ((x==("__debug__" : Str))=U') a6._auto_1)(he:autoParam (e8 (e::es) X.env=(U',eval e X.env)::e8 es X.env) d3._auto_1)(hpl:autoParam ((p5 pos (e8 es X.env)).any (·.1)=U') d3._auto_1):PX X fr (.Call (.Name x p) (e::es) [] pos) (pK (t7 K' f') [] E0 t) (b4 f' Fl):=Rm eK (em▸G.h) (hr.mono hk) hg (em▸D.m) D.F.kp G.b dw ha hdb he hpl
noncomputable def Uu:Expr->List Str
 | .Name x _=>[x]
 | .Tuple es _ _=>es.filterMap fun | .Name x _=>U x|_=>J
 |_=>[]
section
variable{X:Cx}{bs nb:List Str}{elt tg iter:Expr}{ifs:List Expr}{scope:F8}{pos cpos pos':Pos}{wi:TI}{g:TG}{tt:TT}{te:TE}{Fi:DL}{gt:a7->Option (List a7)}{Fc:DB}{Fe:DV}{i:Nat}{x:Str}
theorem bkN(h:eH X.N X.N X.env.scope scope=Uf):eH X.N X.N X.env.scope scope=Uf:=h
theorem bkL(nb:List Str)(h:eH X.N nb X.env.scope scope=Uf):eH X.N nb X.env.scope scope=Uf:=h
theorem Rl(hc:X.calm=Uf)(hk:eH X.N nb X.env.scope scope=Uf)(hb:Uu tg=bs)(hgt:rT X.K bs.length g gt)(hi:cW X Uf tg iter wi Fi)(go:hC bs.length g)(hg:∀cl C fp s H pins,PG (N9 X bs nb scope cl C fp s H pins) tg g)(ht:∀cl C fp s H pins,ko (N9 X bs nb scope cl C fp s H pins) ifs tt Fc)(he:∀cl C fp s H pins,PX (N9 X bs nb scope cl C fp s H pins) Uf elt te Fe)(hs:autoParam (∀x,bO iter X.env x=pure x) U0._auto_1):PX X Uf (.ListComp elt [⟨tg,iter,ifs,0⟩] scope pos) (eX bs wi g tt te) (j5 Fi gt Fc Fe):=yn hc (wV hk) hi go hg hgt ht he hs
theorem II(hN:X.N.Nodup)(hi':X.N[i]? = U x)(hx:Loc X.env.scope x)(hc:X.calm=Uf)(hk:eH X.N nb X.env.scope scope=Uf)(hb:Uu tg=bs)(hgt:rT X.K bs.length g gt)(hi:cW X Uf tg iter wi Fi)(go:hC bs.length g)(hg:∀cl C fp s H pins,PG (N9 X bs nb scope cl C fp s H pins) tg g)(he:∀cl C fp s H pins,PX (N9 X bs nb scope cl C fp s H pins) Uf elt te Fe)(hsw:autoParam (Q4 (.ListComp elt [⟨tg,iter,[],0⟩] scope cpos) (U (.Name x pos')) pos.line X.env=pure Uf) d3._auto_1)(hf:autoParam (X.fn x=Uf\/X.env.scope.names.lookup x=U .local) dG._auto_1)(hs:autoParam (∀x,bO iter X.env x=pure x) U0._auto_1):D9 X (.Assign [.Name x pos'] (.ListComp elt [⟨tg,iter,[],0⟩] scope cpos) pos) (gj (eX bs wi g vF te) (V5 i)) (I0 i (lu Fi gt Fe)):=Ls hN hi' hx hc (wV hk) hi go hg hgt he hsw hf hs
theorem IK(hN:X.N.Nodup)(hi':X.N[i]? = U x)(hx:Loc X.env.scope x)(hc:X.calm=Uf)(hk:eH X.N nb X.env.scope scope=Uf)(hb:Uu tg=bs)(hgt:rT X.K bs.length g gt)(hi:cW X Uf tg iter wi Fi)(go:hC bs.length g)(hg:∀cl C fp s H pins,PG (N9 X bs nb scope cl C fp s H pins) tg g)(ht:∀cl C fp s H pins,ko (N9 X bs nb scope cl C fp s H pins) ifs tt Fc)(he:∀cl C fp s H pins,PX (N9 X bs nb scope cl C fp s H pins) Uf elt te Fe)(hsw:autoParam (Q4 (.ListComp elt [⟨tg,iter,ifs,0⟩] scope cpos) (U (.Name x pos')) pos.line X.env=pure Uf) d3._auto_1)(hf:autoParam (X.fn x=Uf\/X.env.scope.names.lookup x=U .local) dG._auto_1)(hs:autoParam (∀x,bO iter X.env x=pure x) U0._auto_1):D9 X (.Assign [.Name x pos'] (.ListComp elt [⟨tg,iter,ifs,0⟩] scope cpos) pos) (gj (eX bs wi g tt te) (V5 i)) (d8 i (j5 Fi gt Fc Fe)):=Lv hN hi' hx hc (wV hk) hi go hg hgt ht he hsw hf hs
theorem IJ(hN:X.N.Nodup)(hi':X.N[i]? = U x)(hx:Loc X.env.scope x)(hc:X.calm=Uf)(hk:eH X.N nb X.env.scope scope=Uf)(hb:Uu tg=bs)(hgt:rT X.K bs.length g gt)(hi:cW X Uf tg iter wi Fi)(go:hC bs.length g)(hg:∀cl C fp s H pins,PG (N9 X bs nb scope cl C fp s H pins) tg g)(ht:∀cl C fp s H pins,ko (N9 X bs nb scope cl C fp s H pins) ifs tt Fc)(he:∀cl C fp s H pins,PX (N9 X bs nb scope cl C fp s H pins) Uf elt te Fe)(hsw:autoParam (Q4 (.ListComp elt [⟨tg,iter,ifs,0⟩] scope cpos) (U (.Name x pos')) pos.line X.env=pure Uf) d3._auto_1)(hf:autoParam (X.fn x=Uf\/X.env.scope.names.lookup x=U .local) dG._auto_1)(hs:autoParam (∀x,bO iter X.env x=pure x) U0._auto_1):D9 X (.Assign [.Name x pos'] (.ListComp elt [⟨tg,iter,ifs,0⟩] scope cpos) pos) (gj (eX bs wi g tt te) (V5 i)) (I0 i (j5 Fi gt Fc Fe)):=Lu hN hi' hx hc (wV hk) hi go hg hgt ht he hsw hf hs
theorem Ry{body:List Stmt}{tb:TS}{G:DO}{gt:a7->DD}(hp:se (model X.prog X.w) X.A X.env X.xe)(hc:X.calm=Uf)(hgt:Vm X.K g gt)(hi:cW X Uf tg iter wi Fi)(hg:PG X tg g)(hb:gF X body tb G)(hs:autoParam (∀x,bO iter X.env x=pure x) U0._auto_1):D9 X (.For tg iter body [] pos) (Qv wi g tb) (A8 Fi gt G):=Wq hp hc hi hg hgt hb hs
end
structure Ads where
 f:Nat->Addr
 d:Nat->B4
 Kv:a9
 Km:V
 Bg:a9
 Ba:V
 qA:a9
 qz:V
 kN:a9
 kK:V
 Gx:a9
 Gv:V
 Bf:a9
 AZ:V
 C:Addr
noncomputable def Vd:List De:=[.f "common_divisor" 4 ["one","other","rest"] 2,
 .f "fraction" 5 ["top","bottom","divisor"] 2,
 .f "plus" 6 ["one","other","shared","top","divisor"] 2,
 .f "minus" 7 ["one","other"] 2,
 .f "times" 8 ["one","other","divisor","other_divisor","top"] 2,
 .f "over" 9 ["one","other"] 2,
 .f "under" 10 ["one","other"] 2,
 .f "common_multiple" 14 ["numbers","told","number"] 1,
 .f "whole" 15 ["one","by"] 2,
 .f "scale_of" 16 ["rows","choice"] 2,
 .f "column_of" 17 ["rows","choice","scale"] 3,
 .f "unit_row" 18 ["count","place","row"] 2,
 .f "product" 19 ["row","other"] 2,
 .f "column_product" 20 ["row","column"] 2,
 .f "turned" 21 ["row","pivot_row","factor","pivot","size"] 5,
 .i "Table.__init__" 22 0 ["self","costs","rows","rights","tops","first"] 6,
 .m "set_weights" "Table.set_weights" 22 1 ["self","costs","part","weights","multiple"] 2,
 .m "set_limits" "Table.set_limits" 22 2 ["self","rights","tops","heights","bottoms"] 3,
 .m "first_prices" "Table.first_prices" 22 3 ["self","part"] 2,
 .m "rest" "Table.rest" 22 4 ["self","part","choice"] 3,
 .m "amounts" "Table.amounts" 22 5 ["self"] 1,
 .m "paces" "Table.paces" 22 6 ["self","choice"] 2,
 .m "flip" "Table.flip" 22 7 ["self","choice","by","place","number"] 2,
 .m "turn" "Table.turn" 22 8 ["self","choice","place","paces","sign","pivot","pivot_row","part","factor","inverse"] 4,
 .f "gain_of" 23 ["table","choice","sign","part","rest"] 2,
 .f "moving" 24 ["table","careful","told","best","choice","gain"] 2,
 .f "stops" 25 ["table","choice","paces","found","sign","place","amount","number","limit","pace"] 3,
 .f "sooner" 26 ["one","other","length","other_length"] 2,
 .f "first_stop" 27 ["found","told","stop"] 1,
 .f "move" 28 ["table","choice","paces","stop"] 4,
 .f "mix_of" 29 ["table","tops","mix","choice","amount"] 2,
 .f "price_of" 30 ["table","place","parts"] 2,
 .f "way_of" 31 ["table","choice","paces","way","number","pace"] 3,
 .f "solved" 32 ["costs","rows","rights","tops","first","table","choice","paces","stop"] 5,
 .f "added" 34 ["one","other"] 2,
 .f "multiplied" 35 ["one","by"] 2,
 .f "coins" 41 ["price"] 1,
 .f "into" 42 ["hour"] 1,
 .f "out_of" 43 ["hour"] 1,
 .f "hour_choices" 44 ["number","hour","choices","line"] 2,
 .f "store_choices" 45 ["house","number","count","hour","store","filled","taken","end"] 2,
 .f "work_choices" 46 ["house","number","work","row","choices","hour","numbers"] 2,
 .f "choices_of" 47 ["house","found","number","hour"] 1,
 .f "rows_of" 48 ["choices","count","rows","place","choice","row","one"] 2,
 .f "rights_of" 49 ["house","needs","starts"] 1,
 .f "first_names" 50 ["house","needs","levels"] 1,
 .f "parted" 51 ["store","filled","taken","more"] 3,
 .f "plan_of" 52 ["house","amounts","plan","hour","traded","stored","worked"] 2,
 .f "prices_of" 53 ["house","told","count","here","stored","behind","price"] 2,
 .f "best_plan" 54 ["house","choices","names","costs","tops","rights","first","answer"] 1,
 .f "_law_draw" 56 ["_law_script","_law_k","_law_many","_law_cell","_law_mixed"] 3,
 .f "_law_norm" 57 ["_law_top","_law_bottom","_law_one","_law_other","_law_rest"] 2,
 .f "_law_sum" 58 ["_law_one","_law_other"] 2,
 .f "_law_times" 59 ["_law_one","_law_other"] 2,
 .f "_law_more" 60 ["_law_one","_law_other","_law_by"] 3,
 .f "_law_negative" 61 ["_law_one"] 1,
 .f "_law_number" 62 ["_law_script","_law_k","_law_most","_law_far"] 3,
 .f "_law_share" 63 ["_law_script","_law_k","_law_some","_law_bottom"] 2,
 .f "_law_house" 64 ["_law_script","_law_many","_law_hours","_law_t","_law_k","_law_line_here","_law_buy","_law_give","_law_size","_law_store","_law_works","_law_j","_law_first","_law_last"] 1,
 .f "_law_line" 65 ["_law_hour"] 1,
 .f "_law_costs" 66 ["_law_house_here","_law_plan","_law_lacked","_law_undone","_law_paid","_law_level","_law_work","_law_t","_law_done","_law_line_here","_law_one"] 2,
 .f "_law_greater" 67 ["_law_house_here","_law_by","_law_hours","_law_hour","_law_line_here","_law_store","_law_works"] 2,
 .f "_law_best_costs" 68 ["_law_house_here"] 1,
 .f "law" 69 ["_law_script","_law_house_here","_law_spent","_law_way","_law_by"] 1]
structure Txt(K:d2)(mg:Str->Option a9)(a:Ads):Prop where
 f:∀(i:Nat) {n:Str} {t k:Nat} {N:List Str},Vd[i]? = U (.f n t N k)->Dd K (mg n=U (.ref (a.f i))) n n (top t) N k (a.f i) (a.d i)
 m:∀(i:Nat) {n q:Str} {t j k:Nat} {N:List Str},Vd[i]? = U (.m n q t j N k)->Dd K (Meth K a.C n (a.f i)) n q (inClass (top t) j) N k (a.f i) (a.d i)
 i:∀(i:Nat) {q:Str} {t j k:Nat} {N:List Str},Vd[i]? = U (.i q t j N k)->Dd K (Mk K a.C (a.f i)) "__init__" q (inClass (top t) j) N k (a.f i) (a.d i)
 cn:bz K "Table" a.C
 mc:mg "Table" = U (.ref a.C)
 na:∀s∈(["scales","columns","multiples","weights","unit","rights","limits","chosen","full","size","inverse","prices"]:List Str),T1 K a.C s
 n:∀s∈(["abs","dict","enumerate","len","list","range","reversed","sum","tuple","zip"]:List Str),mg s=J
 Yg:mg "FREE" = U a.Kv/\RelV a.Km a.Kv/\∀H,Dt K H a.Km ly
 Qg:mg "LACKED" = U a.Bg/\RelV a.Ba a.Bg/\∀H,Dt K H a.Ba CY
 Aa:mg "NOUGHT_best" = U a.qA/\RelV a.qz a.qA/\∀H,Dt K H a.qz v7
 uH:mg "NOUGHT_solving" = U a.kN/\RelV a.kK a.kN/\∀H,Dt K H a.kK B7
 Vx:mg "PARTS" = U a.Gx/\RelV a.Gv a.Gx/\∀H,Dt K H a.Gv dF
 Qf:mg "UNDONE" = U a.Bf/\RelV a.AZ a.Bf/\∀H,Dt K H a.AZ vr
set_option hygiene false
local macro_rules | `(tactic| walk_at "n") => `(tactic| first|exact nd|(dsimp only[N9, Cx.zz, nB]; decide +kernel))
local macro_rules | `(tactic| walk_at "v") => `(tactic| first|exact Or.inl rfl|exact Or.inr rfl)
local macro_rules | `(tactic| walk_at "o") => `(tactic| first|exact tT T|exact Ff T|exact WV T|exact So T|exact Sm T|exact WW T|exact Sl T|exact rm T|exact Sk T|exact EX T|exact BM T|exact EW T|exact Ja T|exact tU T|exact LW T|exact Jg T|exact Mb T|exact Sn T|exact LX T|exact Af T|exact Mc T|exact EY T|exact LV T|exact LY T|exact Ss T|exact Ad T|exact Sr T|exact WX T|exact Ma T|exact vX T|exact uT T|exact vV T|exact Ah T|exact IZ T|exact BJ T|exact yt T|exact LZ T|exact Jb T|exact BK T|exact BN T|exact Mh T|exact Me T|exact Sq T|exact Jc T|exact Mf T|exact Ae T|exact EZ T|exact Jd T|exact Je T|exact Mg T|exact Jf T|exact BL T|exact vW T|exact Md T)
local macro_rules | `(tactic| walk_at "t") => `(tactic| first|exact Qr|exact Qq|exact Qo|exact VC (by repeat first|exact Qp|apply KD))
local macro_rules | `(tactic| walk_at "w") => `(tactic| first|exact Nx a6|exact Ti (wy (wy Nw a6) a6))
local macro_rules | `(tactic| walk_at "m") => `(tactic| first|exact(rfl : _ = (["_law_k"] : List Str))|exact(rfl : _ = (["_law_one"] : List Str))|exact(rfl : _ = (["_law_work"] : List Str))|exact(rfl : _ = (["choice", "scale"] : List Str))|exact(rfl : _ = (["choice"] : List Str))|exact(rfl : _ = (["hour", "price"] : List Str))|exact(rfl : _ = (["hour"] : List Str))|exact(rfl : _ = (["name"] : List Str))|exact(rfl : _ = (["number", "hour"] : List Str))|exact(rfl : _ = (["number", "other"] : List Str))|exact(rfl : _ = (["number", "other_number"] : List Str))|exact(rfl : _ = (["number"] : List Str))|exact(rfl : _ = (["one"] : List Str))|exact(rfl : _ = (["part"] : List Str))|exact(rfl : _ = (["place", "number"] : List Str))|exact(rfl : _ = (["place", "row"] : List Str))|exact(rfl : _ = (["place"] : List Str))|exact(rfl : _ = (["row", "pace"] : List Str))|exact(rfl : _ = (["row"] : List Str))|exact(rfl : _ = (["top", "full"] : List Str))|exact(rfl : _ = (["top", "scale"] : List Str))|exact(rfl : _ = (["triple", "scale"] : List Str))|exact(rfl : _ = (["work"] : List Str)))
local macro_rules | `(tactic| walk_at "u") => `(tactic| first|exact bkN rfl|exact bkL ["choices", "count", "rows", "place", "choice", "row'", "one"] rfl|exact bkL ["house", "told", "count", "here", "stored", "behind", "price'"] rfl)
local macro_rules | `(tactic| walk_at "l") => `(tactic| first|exact Rl rfl (by walk_at "u") (by walk_at "m") (by walk_at "t") (by walk_at "q") (by walk_at "w") (λ_ _ _ _ _ _ => (by walk_at "q")) (λ_ _ _ _ _ _ => (by walk_at "q")) (λ_ _ _ _ _ _ => (by walk_at "q")))
local macro_rules | `(tactic| walk_at "x") => `(tactic| first|((with_reducible show PX _ _ (.BoolOp _ [_] _) _ _); exact Zf (by walk_at "q"))|((with_reducible show PX _ _ _ _ (b7 _)); exact Zc _ (pv _))|((with_reducible show PX _ _ _ _ (fC _)); first|exact Zl|exact a1A|exact Ze|exact Zi|exact ij rfl T.Yg|exact ij rfl T.Qg|exact ij rfl T.Aa|exact ij rfl T.uH|exact ij rfl T.Vx|exact ij rfl T.Qf)|((with_reducible show PX _ _ _ _ (b8 l7 _ _)); exact a1y (r := zv K) wj XZ (by walk_at "q") (by walk_at "q") (λ_ _ => rfl))|((with_reducible show PX _ _ _ _ (b8 C8 _ _)); exact mE WN a1i (by walk_at "q") (by walk_at "q"))|((with_reducible show PX _ _ _ _ (b8 n8 _ _)); exact mE (r := IF K) WU a1m (by walk_at "q") (by walk_at "q"))|((with_reducible show PX _ _ _ _ (b8 O7 _ _)); exact mE Si Ya (by walk_at "q") (by walk_at "q"))|((with_reducible show PX _ _ _ _ (b8 bH _ _)); exact mE WO a1j (by walk_at "q") (by walk_at "q"))|((with_reducible show PX _ _ _ _ (b8 gk _ _)); exact mE ZM a1e (by walk_at "q") (by walk_at "q"))|((with_reducible show PX _ _ _ _ (b8 cx _ _)); exact mE (r := ID K) WM XW (by walk_at "q") (by walk_at "q"))|((with_reducible show PX _ _ _ _ (b8 IP _ _)); exact mE ZO a1g (by walk_at "q") (by walk_at "q"))|((with_reducible show PX _ _ _ _ (b8 Iy _ _)); exact mE ZN a1f (by walk_at "q") (by walk_at "q"))|((with_reducible show PX _ _ _ _ (b8 F3 _ _)); exact Ln (r := IE K) (LS hr.units) Yb (eD _) (by walk_at "q") (by walk_at "q"))|((with_reducible show PX _ _ _ _ (b8 ug _ _)); exact Ln IX XX (eD _) (by walk_at "q") (by walk_at "q"))|((with_reducible show PX _ _ _ _ (dU aG _)); exact a1w Yj a1h (by walk_at "q"))|((with_reducible show PX _ _ _ _ (N5 _)); exact VX (by walk_at "q"))|((with_reducible show PX _ _ _ _ (ji _ _)); exact Ri hr.u1 (by walk_at "q") (by walk_at "q"))|((with_reducible show PX _ _ _ _ (iy _ _ _)); exact Lm hr.u1 (by walk_at "q") (by walk_at "q") (by walk_at "q"))|((with_reducible show PX _ _ _ _ (Cz _)); exact Rh (K' := K) rfl hr.u2 hr.hd rfl (T.n _ a6) i6 rfl (T.n _ a6) i6 (by walk_at "q"))|((with_reducible show PX _ _ _ _ (tO kG _ _)); exact Ll (K' := K) hr.units rfl (by walk_at "q") (by walk_at "q"))|((with_reducible show PX _ _ _ _ (f9 _)); exact Zd (by walk_at "q"))|((with_reducible show PX _ _ _ _ (D6 _)); exact Zj (by walk_at "q"))|((with_reducible show PX _ _ _ _ (eG _ _ _)); exact a1z (by walk_at "q") (by walk_at "q") (by walk_at "q"))|((with_reducible show PX _ _ _ _ (CA _ _)); exact Zo (by walk_at "q") (by walk_at "q"))|((with_reducible show PX _ _ _ _ (NA _ _)); exact a1x (by walk_at "q") (by walk_at "q"))|((with_reducible show PX _ _ _ _ (yV _)); exact Zh (by walk_at "q"))|((with_reducible show PX _ _ _ _ (R3 _)); exact Zm (by walk_at "q"))|((with_reducible show PX _ _ _ _ (nA _)); exact Zn (by walk_at "q"))|((with_reducible show PX _ _ _ _ (K9 _)); exact VW _ (pv _))|((with_reducible show PX _ _ _ _ (yW _ _)); exact Wc (K' := K) rfl _ (pv _) (by walk_at "q"))|((with_reducible show PX _ _ _ _ (lr _)); exact IG (K' := K) rfl hr.hd rfl (T.n _ a6) i6 rfl (T.n _ a6) (by walk_at "q"))|((with_reducible show PX _ _ _ _ (b4 _ _)); first|((with_reducible show PX _ _ _ _ (b4 u9 _)); exact uO (r := QX K) NQ a1l rfl (T.n _ a6) i6 (by walk_at "q"))|((with_reducible show PX _ _ _ _ (b4 nG _)); exact uO TQ a1n rfl (T.n _ a6) i6 (by walk_at "q"))|((with_reducible show PX _ _ _ _ (b4 Bj _)); exact uO (r := IC K) (NP hr.hd) XU rfl (T.n _ a6) i6 (by walk_at "q"))|((with_reducible show PX _ _ _ _ (b4 X9 _)); exact zw (r := a1u K) AB Vo rfl (T.n _ a6) i6 (by walk_at "q"))|((with_reducible show PX _ _ _ _ (b4 wg _)); exact zw (r := YV K) CU XY rfl (T.n _ a6) i6 (by walk_at "q"))|exact pcD (by walk_at "o") hr (by walk_at "q"))|((with_reducible show PX _ _ _ _ (j5 _ _ _ _)); walk_at "l")|((with_reducible show PX _ _ _ _ (gC _ _ _ _)); exact Ra (r := YT K) YA a2Q (by walk_at "q") (by walk_at "q") (by walk_at "q"))|((with_reducible show PX _ _ _ _ (tO Ck _ _)); exact Rg (by walk_at "q") (by walk_at "q"))|((with_reducible show PX _ _ _ _ (t5 _ _ _)); exact Rj rfl T.cn (T.na _ a6) (by walk_at "q"))|((with_reducible show PX _ _ _ _ (D3 _ _ _)); exact Rb rfl T.cn (T.na _ a6) (pv _))|((with_reducible show PX _ _ _ _ (gD _ _ _ _)); exact VY rfl T.cn (T.na _ a6) (pv _) (by walk_at "q"))|((with_reducible show PX _ _ _ _ (J8 _ _ L4 _ d6)); exact Lk rfl T.cn (by walk_at "q") (T.m 20 rfl).m (kX T).h (hr.mono (by omega)) (kX (P := P) (w := w) (base := base) T).b dw (pl := _))|((with_reducible show PX _ _ _ _ (J8 _ _ B5 _ _)); exact uN rfl T.cn (by walk_at "q") (T.m 18 rfl).m (T6 T).h (hr.mono (by omega)) (T6 (P := P) (w := w) (base := base) T).b dw (by walk_at "q") (pl := _))|((with_reducible show PX _ _ _ _ (J8 _ _ M0 _ _)); exact uN rfl T.cn (by walk_at "q") (T.m 19 rfl).m (fc T).h (hr.mono (by omega)) (fc (P := P) (w := w) (base := base) T).b dw (by walk_at "q") (pl := _))|((with_reducible show PX _ _ _ _ (J8 _ _ P6 _ _)); exact uN rfl T.cn (by walk_at "q") (T.m 21 rfl).m (nW T).h (hr.mono (by omega)) (nW (P := P) (w := w) (base := base) T).b dw (by walk_at "q") (pl := _))|((with_reducible show PX _ _ _ _ (tP _ _ _)); exact Wb T.cn (T.i 15 rfl).m (mG T).h (hr.mono (by omega)) rfl T.mc (mG (P := P) (w := w) (base := base) T).b dw (by walk_at "q")))
local macro_rules | `(tactic| walk_at "y") => `(tactic| first|((with_reducible show D9 _ _ _ (I0 _ (lu _ _ _))); exact II (by walk_at "n") rfl (by walk_at "v") rfl (by walk_at "u") (by walk_at "m") (by walk_at "t") (by walk_at "q") (by walk_at "w") (λ_ _ _ _ _ _ => (by walk_at "q")) (λ_ _ _ _ _ _ => (by walk_at "q")))|((with_reducible show D9 _ _ _ (d8 _ (j5 _ _ _ _))); exact IK (by walk_at "n") rfl (by walk_at "v") rfl (by walk_at "u") (by walk_at "m") (by walk_at "t") (by walk_at "q") (by walk_at "w") (λ_ _ _ _ _ _ => (by walk_at "q")) (λ_ _ _ _ _ _ => (by walk_at "q")) (λ_ _ _ _ _ _ => (by walk_at "q")))|((with_reducible show D9 _ _ _ (I0 _ (j5 _ _ _ _))); exact IJ (by walk_at "n") rfl (by walk_at "v") rfl (by walk_at "u") (by walk_at "m") (by walk_at "t") (by walk_at "q") (by walk_at "w") (λ_ _ _ _ _ _ => (by walk_at "q")) (λ_ _ _ _ _ _ => (by walk_at "q")) (λ_ _ _ _ _ _ => (by walk_at "q")))|((with_reducible show D9 _ _ _ (wB _ _ _ _)); exact Rq (pv _) (by walk_at "q") (by walk_at "q") (by walk_at "q"))|((with_reducible show D9 _ _ _ (tM _ _)); exact Wo _ (pv _))|((with_reducible show D9 _ _ _ (d8 _ _)); exact Rp (by walk_at "n") rfl (by walk_at "v") (by walk_at "q"))|((with_reducible show D9 _ _ _ (p4 (nA _))); exact GY (fr := false) (by walk_at "q"))|((with_reducible show D9 _ _ _ (p4 _)); exact GY (fr := true) (by walk_at "q"))|((with_reducible show D9 _ _ _ (V4 _)); exact Rr _ (pv _))|((with_reducible show D9 _ _ _ (G3 _ _ _)); exact Zt (by walk_at "q") (by walk_at "q") (by walk_at "q"))|((with_reducible show D9 _ _ _ (A8 _ _ _)); exact Ry Oa rfl (by walk_at "t") (by walk_at "q") (by walk_at "q") (by walk_at "q"))|((with_reducible show D9 _ _ _ (I0 _ _)); exact Wn (by walk_at "n") rfl (by walk_at "v") (by walk_at "q"))|((with_reducible show D9 _ _ _ (wC)); exact Lx)|((with_reducible show D9 _ _ _ (wD _ _)); exact Rx _ (by walk_at "q"))|((with_reducible show D9 _ _ _ (cU _ _)); exact Ws _ (pv _) (by walk_at "q"))|((with_reducible show D9 _ _ _ (rM _ _)); exact Wr _ (pv _) (by walk_at "q"))|((with_reducible show D9 _ _ _ (aP _ _ _)); exact Ro _ (pv _) (by walk_at "q") (by walk_at "q"))|((with_reducible show D9 _ _ _ (jh _ _ _)); exact Lr _ Oa (by walk_at "q") (by walk_at "q"))|((with_reducible show D9 _ _ _ (F6 _)); exact Ly (by walk_at "q"))|((with_reducible show D9 _ _ _ (ll)); exact Lw)|((with_reducible show D9 _ _ _ (P8 _ _ _ _ _)); exact Ru T.cn (T.na _ a6) (pv _) (by first|exact λ_ _ h => .inr h|exact λ_ _ h => .inl h) (by walk_at "q"))|((with_reducible show D9 _ _ _ (aQ _ _ _ _ _)); exact Rt T.cn (T.na _ a6) (pv _) (by walk_at "q") (by walk_at "q"))|((with_reducible show D9 _ _ _ (mN _ _ _ _)); exact Rv T.cn (T.na _ a6) (pv _) (by walk_at "q")))
local macro_rules | `(tactic| walk_at "z") => `(tactic| first|((with_reducible show bV _ _ _ (qo _ _)); exact mT.pt (by walk_at "q"))|((with_reducible show bV _ _ _ (wW _ _)); exact mT.pt (by walk_at "q"))|((with_reducible show bV _ _ _ (JY _)); exact Wi (by walk_at "q"))|((with_reducible show bV _ _ _ (k9 (b8 F3 _ _))); exact fM (fr := true) (r := IE K) (LS hr.units) Yb (eD _) (by walk_at "q") (by walk_at "q"))|((with_reducible show bV _ _ _ (k9 (b8 pR _ _))); exact fM (fr := true) (r := QV K) (ZP hr.units) a2R (eD _) (by walk_at "q") (by walk_at "q"))|((with_reducible show bV _ _ _ (k9 (b8 wx _ _))); exact fM (fr := true) a1I a2T (eD _) (by walk_at "q") (by walk_at "q"))|((with_reducible show bV _ _ _ (k9 (b8 ug _ _))); exact fM (fr := true) IX XX (eD _) (by walk_at "q") (by walk_at "q"))|((with_reducible show bV _ _ _ (k9 (b8 UY _ _))); exact fM (fr := true) a1J a2U (eD _) (by walk_at "q") (by walk_at "q"))|((with_reducible show bV _ _ _ (k9 (b8 lj _ _))); exact fM (fr := true) ZT a2S (eD _) (by walk_at "q") (by walk_at "q"))|((with_reducible show bV _ _ _ (k9 (b8 cQ _ _))); exact fM (fr := true) WL Vp (eD _) (by walk_at "q") (by walk_at "q"))|((with_reducible show bV _ _ _ (k9 (b8 yA _ _))); exact fM (fr := true) (r := QW K) (ZR hr.units) a1k (eD _) (by walk_at "q") (by walk_at "q"))|exact Wh (fr := true) (by walk_at "q"))
local macro_rules | `(tactic| walk_at "q") => `(tactic| first|(show PX _ _ _ _ _; walk_at "x")|((with_reducible show aY _ _ _ _ (a8 _ _)); exact RZ (by walk_at "q") (by walk_at "q"))|exact Hf|(show D9 _ _ _ _; walk_at "y")|(show gF _ [_] _ _; exact Rz (by walk_at "q"))|((with_reducible show gF _ _ _ (c8 _ _)); exact Lz (by walk_at "q") (by walk_at "q"))|exact RA|(show bV _ _ _ _; walk_at "z")|(show mT _ (.BoolOp .And [_] _) _ _; exact Rn (by walk_at "q"))|(show mT _ (.BoolOp .Or [_] _) _ _; exact Wf (by walk_at "q"))|((with_reducible show mT _ _ _ (qo _ _)); exact Wg (by walk_at "q") (by walk_at "q"))|((with_reducible show mT _ _ _ (wW _ _)); exact Zp (by walk_at "q") (by walk_at "q"))|((with_reducible show cW _ _ _ _ _ (t2 E2 _)); exact IT rfl (T.n _ a6) (by walk_at "q"))|((with_reducible show cW _ _ _ _ _ (t2 ic _)); exact IS rfl (T.n _ a6) (by walk_at "q"))|((with_reducible show cW _ _ _ _ _ (t2 aT _)); exact Wz rfl (T.n _ a6) (by walk_at "q"))|((with_reducible show cW _ _ _ _ _ (t2 uM _)); exact WB (K' := K) rfl rfl (T.n _ a6) (by walk_at "q"))|((with_reducible show cW _ _ _ _ _ (t2 aR _)); exact RL rfl (T.n _ a6) (by walk_at "q"))|((with_reducible show cW _ _ _ _ _ (D8 _)); exact WA (by walk_at "q"))|((with_reducible show PG _ _ (V5 _)); exact GZ (by walk_at "n") rfl (by walk_at "v"))|((with_reducible show PG _ _ (Co _ _ _)); exact Zz rfl (by walk_at "q"))|((with_reducible show NY _ _ (tN _ _)); exact RQ (by walk_at "q") (by walk_at "q"))|exact WD|exact LJ|(show ko _ _ _ _; exact LI (by walk_at "q"))|exact RG|(show NX _ _ _ _; exact RF (fr := true) (by walk_at "q"))|((with_reducible show rW _ _ _ (gw _ _)); exact Sa _ (pv _) (by walk_at "q"))|((with_reducible show rW _ _ _ (E8 _ _)); exact Sb (by walk_at "q") (by walk_at "q"))|exact WJ|((with_reducible show uA _ _ _ (E6 _ _ _ Q5 _)); exact ig T.cn (pv _) (T.m 16 rfl).m (gu T).h (hr.mono (by omega)) (gu (P := P) (w := w) (base := base) T).b dw (by walk_at "q") (pl := _))|((with_reducible show uA _ _ _ (E6 _ _ _ T4 _)); exact ig T.cn (pv _) (T.m 17 rfl).m (hV T).h (hr.mono (by omega)) (hV (P := P) (w := w) (base := base) T).b dw (by walk_at "q") (pl := _))|((with_reducible show uA _ _ _ (E6 _ _ _ B5 _)); exact ig T.cn (pv _) (T.m 18 rfl).m (T6 T).h (hr.mono (by omega)) (T6 (P := P) (w := w) (base := base) T).b dw (by walk_at "q") (pl := _))|((with_reducible show uA _ _ _ (E6 _ _ _ M0 _)); exact ig T.cn (pv _) (T.m 19 rfl).m (fc T).h (hr.mono (by omega)) (fc (P := P) (w := w) (base := base) T).b dw (by walk_at "q") (pl := _))|((with_reducible show uA _ _ _ (E6 _ _ _ E7 _)); exact ig T.cn (pv _) (T.m 22 rfl).m (qD T).h (hr.mono (by omega)) (qD (P := P) (w := w) (base := base) T).b dw (by walk_at "q") (pl := _))|((with_reducible show uA _ _ _ (E6 _ _ _ br _)); exact ig T.cn (pv _) (T.m 23 rfl).m (qC T).h (hr.mono (by omega)) (qC (P := P) (w := w) (base := base) T).b dw (by walk_at "q") (pl := _))|((with_reducible show uA _ _ _ (jj jH _)); exact QZ (Hi T).h (hr.mono (by omega)) rfl (T.f 29 rfl).m (T.f 29 rfl).F.kp (Hi (P := P) (w := w) (base := base) T).b dw (by walk_at "q")))
local macro_rules | `(tactic| walk_at "j") => `(tactic| exact okA _ λ_ _ _ _ _ _ nd hr => ⟨_, by walk_at "q"⟩)
local macro_rules | `(tactic| walk_at "i") => `(tactic| exact okB _ λ_ _ _ _ _ _ nd hr => ⟨_, by walk_at "q"⟩)
section
variable{P:n9}{w:k7}{K:d2}{mg:Str->Option a9}{base:Heap}{ad:Ads}(T:Txt K mg ad)
theorem tT:Ok P w mg base (T.f 0 rfl) 1 (t7 K E3):=by delta E3 aA aB;walk_at "j"
theorem Ff:Ok P w mg base (T.f 1 rfl) 2 (t7 K M4):=by delta M4;walk_at "j"
theorem WV:Ok P w mg base (T.f 2 rfl) 2 (t7 K jG):=by delta jG;walk_at "j"
theorem So:Ok P w mg base (T.f 3 rfl) 3 (t7 K X3):=by delta X3;walk_at "j"
theorem Sm:Ok P w mg base (T.f 4 rfl) 2 (t7 K P2):=by delta P2;walk_at "j"
theorem WW:Ok P w mg base (T.f 5 rfl) 3 (t7 K sR):=by delta sR;walk_at "j"
theorem Sl:Ok P w mg base (T.f 6 rfl) 1 (t7 K fZ):=by delta fZ;walk_at "j"
theorem rm:Ok P w mg base (T.f 7 rfl) 3 (t7 K C6):=by delta C6 Q6;walk_at "j"
theorem Sk:Ok P w mg base (T.f 8 rfl) 1 (t7 K fY):=by delta fY;walk_at "j"
theorem EX:Ok P w mg base (T.f 9 rfl) 4 (t7 K hF):=by delta hF mm;walk_at "j"
theorem BM:Ok P w mg base (T.f 10 rfl) 2 (t7 K eV):=by delta eV P4 P7;walk_at "j"
theorem EW:Ok P w mg base (T.f 11 rfl) 1 (t7 K hE):=by delta hE;walk_at "j"
theorem Ja:Ok P w mg base (T.f 12 rfl) 1 (t7 K jF):=by delta jF nH;walk_at "j"
theorem tU:Ok P w mg base (T.f 13 rfl) 1 (t7 K R6):=by delta R6 N2;walk_at "j"
theorem LW:Ok P w mg base (T.f 14 rfl) 1 (t7 K fA):=by delta fA qu;walk_at "j"
theorem T6:Ok P w mg base (T.m 18 rfl) 1 (t7 K B5):=by delta B5 aJ;walk_at "j"
theorem hV:Ok P w mg base (T.m 17 rfl) 4 (jb K T4):=by delta T4 W8 W7 J2 J6 W6 W5;walk_at "i"
theorem gu:Ok P w mg base (T.m 16 rfl) 4 (jb K Q5):=by delta Q5 U7 N3 bx bw;walk_at "i"
theorem mG:Ok P w mg base (T.i 15 rfl) 5 (jb K X4):=by delta X4 fI fH fG fE;walk_at "i"
theorem fc:Ok P w mg base (T.m 19 rfl) 2 (t7 K M0):=by delta M0;walk_at "j"
theorem kX:Ok P w mg base (T.m 20 rfl) 2 (t7 K L4):=by delta L4 el;walk_at "j"
theorem nW:Ok P w mg base (T.m 21 rfl) 2 (t7 K P6):=by delta P6 hP;walk_at "j"
theorem qD:Ok P w mg base (T.m 22 rfl) 1 (jb K E7):=by delta E7 bB;walk_at "i"
theorem qC:Ok P w mg base (T.m 23 rfl) 3 (jb K br):=by delta br bA dP bu;walk_at "i"
theorem Jg:Ok P w mg base (T.f 24 rfl) 3 (t7 K jJ):=by delta jJ iX;walk_at "j"
theorem Mb:Ok P w mg base (T.f 25 rfl) 4 (t7 K fB):=by delta fB X0;walk_at "j"
theorem Sn:Ok P w mg base (T.f 26 rfl) 3 (t7 K gb):=by delta gb jK;walk_at "j"
theorem LX:Ok P w mg base (T.f 27 rfl) 1 (t7 K mf):=by delta mf;walk_at "j"
theorem Af:Ok P w mg base (T.f 28 rfl) 2 (t7 K Z3):=by delta Z3 X5;walk_at "j"
theorem Hi:Ok P w mg base (T.f 29 rfl) 4 (jb K jH):=by delta jH;walk_at "i"
theorem Mc:Ok P w mg base (T.f 30 rfl) 3 (t7 K aH):=by delta aH qx kB;walk_at "j"
theorem EY:Ok P w mg base (T.f 31 rfl) 3 (t7 K hG):=by delta hG dq;walk_at "j"
theorem LV:Ok P w mg base (T.f 32 rfl) 3 (t7 K iI):=by delta iI kA;walk_at "j"
theorem LY:Ok P w mg base (T.f 33 rfl) 7 (t7 K mh):=by delta mh az W9 qw;walk_at "j"
theorem Ss:Ok P w mg base (T.f 34 rfl) 3 (t7 K pB):=by delta pB;walk_at "j"
theorem Ad:Ok P w mg base (T.f 35 rfl) 3 (t7 K bp):=by delta bp;walk_at "j"
theorem Sr:Ok P w mg base (T.f 36 rfl) 1 (t7 K kI):=by delta kI;walk_at "j"
theorem WX:Ok P w mg base (T.f 37 rfl) 1 (t7 K bZ):=by delta bZ;walk_at "j"
theorem Ma:Ok P w mg base (T.f 38 rfl) 4 (t7 K bP):=by delta bP;walk_at "j"
theorem vX:Ok P w mg base (T.f 39 rfl) 5 (t7 K bq):=by delta bq;walk_at "j"
theorem uT:Ok P w mg base (T.f 40 rfl) 5 (t7 K cG):=by delta cG jZ jY;walk_at "j"
theorem vV:Ok P w mg base (T.f 41 rfl) 5 (t7 K dO):=by delta dO bR;walk_at "j"
theorem Ah:Ok P w mg base (T.f 42 rfl) 6 (t7 K hH):=by delta hH dR dQ;walk_at "j"
theorem IZ:Ok P w mg base (T.f 43 rfl) 1 (t7 K mW):=by delta mW aI iR iS;walk_at "j"
theorem BJ:Ok P w mg base (T.f 44 rfl) 1 (t7 K iO):=by delta iO qK jS;walk_at "j"
theorem yt:Ok P w mg base (T.f 45 rfl) 2 (t7 K cc):=by delta cc hJ mZ hI;walk_at "j"
theorem LZ:Ok P w mg base (T.f 46 rfl) 4 (t7 K qs):=by delta qs;walk_at "j"
theorem Jb:Ok P w mg base (T.f 47 rfl) 5 (t7 K mX):=by delta mX iT uC;walk_at "j"
theorem BK:Ok P w mg base (T.f 48 rfl) 4 (t7 K iP):=by delta iP fo cj;walk_at "j"
theorem BN:Ok P w mg base (T.f 49 rfl) 8 (t7 K iQ):=by delta iQ qO qN qM qL;walk_at "j"
theorem Mh:Ok P w mg base (T.f 50 rfl) 1 (t7 K B8):=by delta B8;walk_at "j"
theorem Me:Ok P w mg base (T.f 51 rfl) 1 (t7 K fD):=by delta fD kz kC;walk_at "j"
theorem Sq:Ok P w mg base (T.f 52 rfl) 2 (t7 K R5):=by delta R5;walk_at "j"
theorem Jc:Ok P w mg base (T.f 53 rfl) 2 (t7 K P5):=by delta P5;walk_at "j"
theorem Mf:Ok P w mg base (T.f 54 rfl) 3 (t7 K mi):=by delta mi qy;walk_at "j"
theorem Ae:Ok P w mg base (T.f 55 rfl) 1 (t7 K dk):=by delta dk;walk_at "j"
theorem EZ:Ok P w mg base (T.f 56 rfl) 2 (t7 K J5):=by delta J5;walk_at "j"
theorem Jd:Ok P w mg base (T.f 57 rfl) 2 (t7 K gd):=by delta gd;walk_at "j"
theorem Je:Ok P w mg base (T.f 58 rfl) 3 (t7 K jI):=by delta jI iV iU;walk_at "j"
theorem Mg:Ok P w mg base (T.f 59 rfl) 1 (t7 K mj):=by delta mj;walk_at "j"
theorem Jf:Ok P w mg base (T.f 60 rfl) 3 (t7 K mY):=by delta mY nJ nI iW;walk_at "j"
theorem BL:Ok P w mg base (T.f 61 rfl) 1 (t7 K eU):=by delta eU fw jT fq;walk_at "j"
theorem vW:Ok P w mg base (T.f 62 rfl) 9 (t7 K F1):=by delta F1;walk_at "j"
theorem Md:Ok P w mg base (T.f 63 rfl) 10 (t7 K qt):=by delta qt;walk_at "j"
end
theorem all_mk{l:DQ}{w:k7}{K:d2}{h:Heap}{mg:Str->Option a9}(X:K.In h)(G:h.Ns L0 mg)(hfa:mg "law" = U (.ref fa)){C:Addr}{fs:List Addr}{ds:List B4}(aC:bM K L0 "Table" = U (U (.ref C)))(A:Ns K C Vd fs ds)(hc:(sC K C jr=Uf/\sE K C=Uf)/\Eg K C=Uf/\V8 K (.ref C) "__setattr__" = U (U (.builtin "object.__setattr__")))(mc:DT K C=Uf)(kc:eT K (.ref C)=Uf)(na:Al (T1 K C) ["scales","columns","multiples","weights","unit","rights","limits","chosen","full","size","inverse","prices"])(z:Al (λs=>bM K L0 s=U J) ["abs","dict","enumerate","len","list","range","reversed","sum","tuple","zip"])(Xn:bM K L0 "FREE" = U (U (.ref tF)))(Xk:K.lookup tF=U ⟨.type "tuple",Xm,.seq #[(.ref rC),(.ref rB),(.ref rA)] Xj,Xi⟩)(MV:K.lookup rC=U ⟨.type "tuple",Nf,.seq #[(.int 0 Fz),(.int 1 Fy)] MQ,MK⟩)(MU:K.lookup rB=U ⟨.type "tuple",Nc,.seq #[(.int 0 Fw),(.int 1 Fs)] MP,MJ⟩)(MT:K.lookup rA=U ⟨.type "tuple",Nb,.seq #[(.int 0 Fq),(.int 1 Fp)] MO,MI⟩)(Nh:bM K L0 "LACKED" = U (U (.ref mK)))(MS:K.lookup mK=U ⟨.type "tuple",Na,.seq #[(.ref nu),(.ref nt),(.ref nr)] MN,MH⟩)(FX:K.lookup nu=U ⟨.type "tuple",Ge,.seq #[(.int 1 Ay),(.int 1 Ax)] FP,FH⟩)(FW:K.lookup nt=U ⟨.type "tuple",Gd,.seq #[(.int 0 Aw),(.int 1 Av)] FN,FG⟩)(FU:K.lookup nr=U ⟨.type "tuple",Gb,.seq #[(.int 0 Au),(.int 1 Ar)] FL,FF⟩)(yJ:bM K L0 "NOUGHT_best" = U (U (.ref dC)))(yH:K.lookup dC=U ⟨.type "tuple",yI,.seq #[(.int 0 vc),(.int 1 uZ)] yG,yF⟩)(tZ:bM K L0 "NOUGHT_solving" = U (U (.ref aO)))(tX:K.lookup aO=U ⟨.type "tuple",tY,.seq #[(.int 0 qR),(.int 1 qQ)] tW,tV⟩)(Ta:bM K L0 "PARTS" = U (U (.ref pX)))(SX:K.lookup pX=U ⟨.type "tuple",SY,.seq #[(.int 0 JC),(.int 1 JB),(.int 2 JA)] SW,SV⟩)(Ng:bM K L0 "UNDONE" = U (U (.ref mJ)))(MR:K.lookup mJ=U ⟨.type "tuple",MZ,.seq #[(.ref nq),(.ref nk),(.ref nj)] MM,MG⟩)(FT:K.lookup nq=U ⟨.type "tuple",Ga,.seq #[(.int 0 Aq),(.int 1 Ap)] FK,FE⟩)(FR:K.lookup nk=U ⟨.type "tuple",FZ,.seq #[(.int 1 Ao),(.int 1 An)] FJ,FC⟩)(FQ:K.lookup nj=U ⟨.type "tuple",FY,.seq #[(.int 0 Ak),(.int 1 Aj)] FI,FA⟩):
  ∃fd:B4,(∀(s:b9) (v:a9),jo s fd ⟨[v],[]⟩ [("_law_script",v)])/\∀base:Heap,K.In base->base.Ns L0 mg->W4 l.prog w K mg base qP 10 fa fd ["_law_script"] (t7 K qt):=by
 let ad:Ads:=⟨λi=>fs.getD i 0,λi=>ds.getD i (eR jr jr (fT (top 0)) (aj (top 0)) (B6 (top 0)) .none .none .none .none J .none .none),.ref tF,.ref tF,.ref mK,.ref mK,.ref dC,.ref dC,.ref aO,.ref aO,.ref pX,.ref pX,.ref mJ,.ref mJ,C⟩
 have T:Txt K mg ad:=⟨λi _ _ _ _ m=>by
  cases A.at m with
  |f a r=>exact⟨UG r,gS X G a⟩,λi _ _ _ _ _ _ m=>by
  cases A.at m with
  |m a b r=>exact⟨UG r,a,b,(UG r).kp⟩,λi _ _ _ _ _ m=>by
  cases A.at m with
  |i a b r=>exact⟨UG r,mc,a,b,kc⟩,⟨aC,⟨hc.1.1,hc.1.2,hc.2.1,hc.2.2⟩⟩,gS X G aC,λ_ m=>na.at m,λ_ m=>PySem.W.mg_none_of X G (z.at m),fU (vs:=[.ref rC,.ref rB,.ref rA]) (gS X G Xn) Xk i9 (.cons rfl (.cons rfl (.cons rfl .nil))) λH=>(.cons (bK (vs:=[.int (0),.int (1)]) MV i9 (.cons ⟨_,rfl⟩ (.cons ⟨_,rfl⟩ .nil)) (λH=>(.cons (.int _) (.cons (.int _) .nil))) H) (.cons (bK (vs:=[.int (0),.int (1)]) MU i9 (.cons ⟨_,rfl⟩ (.cons ⟨_,rfl⟩ .nil)) (λH=>(.cons (.int _) (.cons (.int _) .nil))) H) (.cons (bK (vs:=[.int (0),.int (1)]) MT i9 (.cons ⟨_,rfl⟩ (.cons ⟨_,rfl⟩ .nil)) (λH=>(.cons (.int _) (.cons (.int _) .nil))) H) .nil))),fU (vs:=[.ref nu,.ref nt,.ref nr]) (gS X G Nh) MS i9 (.cons rfl (.cons rfl (.cons rfl .nil))) λH=>(.cons (bK (vs:=[.int (1),.int (1)]) FX i9 (.cons ⟨_,rfl⟩ (.cons ⟨_,rfl⟩ .nil)) (λH=>(.cons (.int _) (.cons (.int _) .nil))) H) (.cons (bK (vs:=[.int (0),.int (1)]) FW i9 (.cons ⟨_,rfl⟩ (.cons ⟨_,rfl⟩ .nil)) (λH=>(.cons (.int _) (.cons (.int _) .nil))) H) (.cons (bK (vs:=[.int (0),.int (1)]) FU i9 (.cons ⟨_,rfl⟩ (.cons ⟨_,rfl⟩ .nil)) (λH=>(.cons (.int _) (.cons (.int _) .nil))) H) .nil))),fU (vs:=[.int (0),.int (1)]) (gS X G yJ) yH i9 (.cons ⟨_,rfl⟩ (.cons ⟨_,rfl⟩ .nil)) λH=>(.cons (.int _) (.cons (.int _) .nil)),fU (vs:=[.int (0),.int (1)]) (gS X G tZ) tX i9 (.cons ⟨_,rfl⟩ (.cons ⟨_,rfl⟩ .nil)) λH=>(.cons (.int _) (.cons (.int _) .nil)),fU (vs:=[.int (0),.int (1),.int (2)]) (gS X G Ta) SX i9 (.cons ⟨_,rfl⟩ (.cons ⟨_,rfl⟩ (.cons ⟨_,rfl⟩ .nil))) λH=>(.cons (.int _) (.cons (.int _) (.cons (.int _) .nil))),fU (vs:=[.ref nq,.ref nk,.ref nj]) (gS X G Ng) MR i9 (.cons rfl (.cons rfl (.cons rfl .nil))) λH=>(.cons (bK (vs:=[.int (0),.int (1)]) FT i9 (.cons ⟨_,rfl⟩ (.cons ⟨_,rfl⟩ .nil)) (λH=>(.cons (.int _) (.cons (.int _) .nil))) H) (.cons (bK (vs:=[.int (1),.int (1)]) FR i9 (.cons ⟨_,rfl⟩ (.cons ⟨_,rfl⟩ .nil)) (λH=>(.cons (.int _) (.cons (.int _) .nil))) H) (.cons (bK (vs:=[.int (0),.int (1)]) FQ i9 (.cons ⟨_,rfl⟩ (.cons ⟨_,rfl⟩ .nil)) (λH=>(.cons (.int _) (.cons (.int _) .nil))) H) .nil)))⟩
 have e:fa=ad.f 63:=Value.ref.inj (L1 (hfa.symm.trans (T.f 63 rfl).m));exact⟨ad.d 63,λs v=>(A.at (i:=63) rfl).to (by walk_at "b") s [v] rfl,λbase _ _=>e▸(Md T).h⟩
theorem walk {l:DQ} {q:n9} {loose:List Str} {XP:(Str->Option a9)->Heap->Prop} {YP:k7->Heap->Prop} {d:DefRec} {K:Params->d2} (hL:∀ns:List Int,ns.length<=63->qt [.list (ns.map .int)]=U (.dat (.bool Uf))) (hn:l.most=U 63) (hdf:d.params.defaults=[]) (hY:∀(w:k7) (h:Heap),YP w h->(K w.params).In h) (F:∀(w:k7) (mg:Str->Option a9) (fa:Addr) (h:Heap),(K w.params).In h->h.Ns L0 mg->mg d.name=U (.ref fa) ->
   ∃fd:B4,(∀(s:b9) (u:a9),jo s fd ⟨[u],[]⟩ [("_law_script",u)])/\∀base:Heap,(K w.params).In base->base.Ns L0 mg->W4 l.prog w (K w.params) mg base qP 10 fa fd ["_law_script"] (t7 (K w.params) qt)) :
  PySem.W.WalkO q loose XP YP l.row.toRowW d [] (λf vs=>Di f vs) :=
 L2.Gu (n:=63) (k:=10) (x:="_law_script") (CX:=λ_=>qP) (sp:=λw=>t7 (K w.params) qt) hn a6 hdf ⟨rfl,by decide,by decide⟩ hY F (λ_ _ a ns hl _ hS=>⟨[],[.list (ns.map .int)],_,λa h=>absurd h i9,.cons (.lst (VG hS) (CI ns)) .nil,hL ns hl,λv H' _ r=>Xy r⟩) λ_ _ _ _ _ z=>z
end
end Law
local macro_rules | `(tactic| walk_at "k") => `(tactic| (refine' Law.Rw.mk ?l ?c ?k; (case l => k_is); (case c => k_is); (case k => k_is)))
local macro_rules | `(tactic| walk_at "p") => `(tactic| first|exact .n|exact .c (.f (by k_is) (by walk_at "k")) (by walk_at "p")|exact .c (.m (by k_is) (by k_is) (by walk_at "k")) (by walk_at "p")|exact .c (.i (by k_is) (by k_is) (by walk_at "k")) (by walk_at "p"))
local macro_rules | `(tactic| walk_at "a") => `(tactic| repeat first|exact .n|refine .c (by show _ = _; k_is) ?_)
structure PySem.W.Fast:Prop where
 (tw5360144425788596276 tw16225295266303369382 tw6514779113310445873 tw17389365529155826755 tw15485409492392134955 tw10138965129760358074 tw17537010939696855053 tw14806124648639942351 tw950059016688517483 tw14625478773153229928 tw7232733126210799109 tw14918521817479939915 tw17071437791171344833 tw5292612817056918279 tw14913124663650162946 tw4875986169525172707 tw9876078508891231286 tw15305732728727737197 tw10165428489417734115 tw14406718549240994385 tw2732372057580880752 tw8881417440063351141 tw9077163210903058182 tw12709229236464793949 tw3551570309490535187 tw10428399513098936953 tw14226331102410078660 tw12514762847275175055 tw15488431513093342437 tw569164552922955289 tw14359067320117809868 tw5756450307102647590 tw14453536721379276990 tw2991589711119914782 tw11439468324024393862 tw9427616393587725426 tw14672329389819223139 tw14973792932462241067 tw14591016966818693052 tw6233193704962954052 tw3527596599479786547 tw1430215253912096753 tw13232110251344128922 tw11303391840653178966 tw3507165264224862947 tw4686791585737612354 tw64183844357329013 tw16816864533177067584 tw13366162078238054938 tw325117443735853927 tw15638345313705843077 tw7104855095754527022 tw16186439024848371212 tw11311519551889778876 tw7327729244966114981 tw6742709733877551301 tw4555356072667496975 tw9875624972583922192 tw17806708499714465735 tw350459724304562821 tw10898433843833901643 tw10750488675420612903 tw5363052252712246371 tw4782208839432835131 tw3848751167704914387 tw6402369701566797228 tw12221134970837007157 tw12122684488011215470 tw9787852263911147442 tw4586039829886668200 tw16726991149556567887 tw9794621256895707067 tw10633458183342062948 tw12301349487763045981 tw1273853596085455671 tw9123857281728578625 tw6142458962285081244 tw17181297298399743781 tw9400748318408637633 tw4511385963270695454 tw14156348276133095092 tw16592541784849430696 tw3435872905593205197 tw7280231767437058310 tw5993463127350634980 tw15714717170153778487 tw7860484240183745595 tw12332858420936620150 tw6620652956348007747 tw5032595835396624889 tw1482385292606332429 tw14223851029567238914 tw5312903373713104836 tw9541640724398398829 tw16347089485916929130 tw15868399068918651414 tw4315401763412513259 tw3165119959395548193 tw752823698112572018 tw7062162857219719372 tw13609435435591863168 tw11387964805210104313 tw5603840996008019977 tw10415536153261668231 tw17071994952321320157 tw9452014581891871658 tw1098776410328772310 tw7667548566435688860 tw11604073249594021097 tw11575386396066059504 tw7778241443135763478 tw4756233660187891526 tw8913920929127676856 tw9211266029135122897 tw15444560093171430604 tw653997811351631395 tw6687076213918893119 tw16396924242790277666 tw7881838482354865851 tw15636185463892318696 tw1028937080364547309 tw17912197901496691112 tw316587448220619930 tw10837703319198893644 tw12106415807037826011 tw15762354763108598739 tw3619961419837546225 tw14195775131994621802 tw16452740813518244713 tw11871753277336012310 tw1529556139393478989 tw8681029488126114274 tw17562160625544327206 tw1758016079100364368 tw453477064148259888 tw11526689374314112449 tw12407792355315012978 tw12956481695232525492 tw1037501468348306312 tw10940890132297653426 tw128670803499760459 tw11987502637163416222 tw16627124837761570617 tw13002777288151548202 tw7730074979067371901 tw7377638094505920765 tw14112285073412818246 tw2376093829774991442 tw7366846175437380039 tw10665079149139818779 tw8943131111756392533 tw5249990374636498351 tw10578327016621756944 tw3592492158869893448 tw11758486252174441688 tw11455522824336063186 tw13075353738997275406 tw1956648048184685395 tw4769840609165572701 tw14594972936493392836 tw1068059219963951707 tw12781980795800941262 tw2465587870994839571 tw17135536744603230182:True)
open PySem PySem.W PyProof.Rows
set_option maxRecDepth 100000 in
set_option maxHeartbeats 0 in
theorem PySem.Challenge.cw_sunstore_k51_best_costs_hang_on_the_hous_holds : PySem.Challenge.rw_sunstore_k51_best_costs_hang_on_the_hous.Holds := by
 w_on;o_law;k_head;(case hw=>w_witness2)
 k_fill
 refine Law.walk (l:=PySem.Challenge.rw_sunstore_k51_best_costs_hang_on_the_hous) Law.SS rfl rfl (λw h Y=>PySem.W.kIn_of Y) ?F
 case F =>
  intro w mg fa h KX G hmg;exact Law.all_mk KX G hmg (by k_is) (by walk_at "p") ⟨⟨by k_is,by k_is⟩,by k_is,by k_is⟩ (by k_is) (by k_is) (by walk_at "a") (by walk_at "a") (by k_is) (by k_is) (by k_is) (by k_is) (by k_is) (by k_is) (by k_is) (by k_is) (by k_is) (by k_is) (by k_is) (by k_is) (by k_is) (by k_is) (by k_is) (by k_is) (by k_is) (by k_is) (by k_is) (by k_is) (by k_is)
