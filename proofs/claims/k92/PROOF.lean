import PyProof.Rows.All
import Wide.All
import OpenK.AllK
import Wide.FinOn
import Lean
import PyProof.EqAt
import PyProof.EqKinds
import PyProof.TupleCall
import PyProof.FactsAll.zip_0
import PyProof.FactsAll.zip_1
import KE.KDictOf
import PySem.Challenge.RW_sunstore_k92_whole_scaled_and_idle
set_option compiler.extract_closed false
set_option linter.all false
theorem a2p{p:Prop}(h:p:=by rfl):p:=h
def t5:=a2p._auto_1
theorem a2q{p:Prop}(h:p:=by intro _;rfl):p:=h
def W0:=a2q._auto_1
theorem a0Z{p:Prop}(h:p:=by intro _ _;rfl):p:=h
def vA:=a0Z._auto_1
theorem a2r{p:Prop}(h:p:=by first|exact .inl rfl|exact .inr rfl|assumption):p:=h
def di:=a2r._auto_1
theorem f5{p:Prop}(h:p:=by decide):p:=h
def F8:=f5._auto_1
theorem r9{p:Prop}(h:p:=by lia):p:=h
theorem A3{p:Prop}(h:p:=by decide +kernel):p:=h
theorem B3{p:Prop}(h:p:=by simp):p:=h
theorem s9{p:Prop}(h:p:=by assumption):p:=h
def oe:=s9._auto_1
theorem O7{p:Prop}(h:p:=by omega):p:=h
theorem z9{p:Prop}(h:p:=by simp[*]):p:=h
theorem kS{p:Prop}(h:p:=by contradiction):p:=h
theorem E5{p:Prop}(h:p:=by repeat constructor):p:=h
theorem nE{α:Type u}{x:α}{p:Prop}(h:none=some x):p:=nomatch h
theorem nS{α:Type u}{x:α}{p:Prop}(h:some x=none):p:=nomatch h
theorem nT{p:Prop}(h:false=true):p:=nomatch h
theorem nF{p:Prop}(h:true=false):p:=nomatch h
theorem r4{d c:Type}{o:Option d}{f:d->Option c}{b:c}(h:o.bind f=some b):∃a,o=some a/\f a=some b:=Option.bind_eq_some_iff.1 h
theorem I0{p:Prop}[Decidable p]{d:Type}{o:Option d}{b:d}(h:(if p then o else none)=some b):p/\o=some b:=by
 split at h;exact⟨‹_›,h⟩;exact nE h
set_option Elab.async false
set_option maxRecDepth 100000
set_option maxHeartbeats 4000000
set_option backward.match.sparseCases false
set_option bootstrap.genMatcherCode false
set_option compiler.reuse false
set_option tactic.hygienic false
noncomputable section
open PySem renaming PyData->p9,wpAny_bind->u4,Value->t2,starEach->v7,wpAny_pure->z6,Shared->v5,sizeLine->E6,backTo->F9,World->E1,attributeBase->aL,foldedSetIterable->ee,Program->L9,wpAny_field->Z1,mainGlobals->aq,compareOp->W5,FuncData->T5,wpAny_callSpecial?_slot->mP,bootBuiltins->dZ,keywordEach->dX,swapsWith->bS,wpAny_seqItems->fB,mem_of_lookup->ma,wpAny_mono->bP,wpAny_call_entry->jG,wpAny_holding->fy,wpAny_truthy_bool->lX,wpAny_newObj_type->lW,binaryOp->aA,IsPair->U6,wpAny_setField_rec->oG,backToKw->bO,cLine->R3,Keyword->aT,Around->Z4,rawInt->Z3,wpAny_Call_Name_kw->ra,wpAny_passesOwn->oA,standAt->dw,assignEach->jy,cellsFrom->gO,getMethod->jx,wpAny_rule->lO,call_meets->lM,ZipApart->gN,swapsWithSole->qN,swappedStores->qM,behindInMarks->qL,wpAny_attempt->qK,sliceBounds->ot,getItem->gL,sizeLine_eq->qE,wpAny_nextOf_list_item->FI,NameKind->lK,tupleKind->om,notedBy->ju,Scope->eF,sysModules->qD,wpAny_execs_nil->yV,IsPart->gK,wpAny_typeOf->ur,wpAny_updateSeq_pair->Fw,BindsTo->lJ,callerA->lI,pushCells->qC,wpAny_standAt->yO,wpAny_onRaise->yN,wpAny_pyIter_list->EV,typeLookup->ui,codeAny_mono->yM,concat_meets->yL,noFill_tuple_add->ET,wpAny_isInstance->ER,wpAny_pyIter_zip->EO,PassesOwn->ug,letOwnedTupleGo->EL,codeAny_builtin->EF,pyNext->oi,valueAt->qB,wpAny_nextOf_list_end->OM,isSubtype_stop->Ey,builtinLookup_eq_fast->OJ,compEnvC->uf,compPost->ue,natAbs_fdiv_le->OF,wpAny_pyIter_revIter->OB,seq_tuple_add->Ew,plainId_quiet->Eu,Within->Er,seqIndex_neg->Eo,call->Ec
open Option renaming some->U,none->J,bind_some->x5,map_some->qP,map_eq_some_iff->FF,bind->yH,getD_none->NY
open PySem.W renaming Frag->v9,findIn->aY,keepIn->gT,emptyDict->lV,nsIn->fx,instObj->lU,fnOf->gR,kia_one->oz,kitOne->oy,hasDictIn->uF,plainGet->uD,any_some->zc,isFn->uu,looks_findIn->Fy,plainGet_of->Fq,lookIn->yU,InstAt->yT,codeIn->yS,callWith_K->Fj,plainOver->EY,specialIn->EX,takerIn->EK,makesIn->EJ,OpenLaw->EH,findObj->EG,cellsFrom_some->OT,methodCall_KW->OO,mroIn->Ex,mg_of->Es,handedIn->NZ,takesIn->NR
open List renaming mem_cons_of_mem->C6,mem_cons_self->D1,getElem?_eq_getElem->L3,length_map->C5,map_cons->C7,mem_append_right->K6,replicate->D3,getElem?_map->L1,range->D0,mem_append_left->T9,getD_eq_getElem?_getD->aN,size_toArray->V1,length_append->au,length_cons->Y2,mem_cons->T8,map_append->Z2,getElem?_append_left->fZ,cons_append->aZ,getElem?_append_right->js,not_mem_nil->cA,append_nil->bV,nil_append->bU,getElem?_set_ne->hH,set_cons_zero->jq,map_map->cW,getElem?_cons_succ->pF,zip_cons_cons->kU,range_succ->hF,drop_eq_getElem_cons->rZ,length_take->jH,mem_of_getElem?->oJ,length_nil->jD,mem_append->jC,getElem?_range->oH,length_replicate->rf,lookup->fw,zipWith->gQ,lookup_cons->oB,getElem?_set_self->uI,getElem?_eq_none->uH,length->jA,getElem_mem->qU,ext_getElem->qT,getElem_map->qR,flatMap_append->uG,length_range->uE,length_drop->uB,take_length->uA,filterMap_cons->zm,map_congr_left->zk,map_nil->qJ,getElem?_replicate->FN,reverse_cons->zg,getElem?_set->ze,flatMap_cons->zd,drop_eq_nil_of_le->FH,take_of_length_le->FG,drop_of_length_le->FE,drop_length->za,flatMap_nil->yW,length_singleton->FA,length_reverse->Fp,mem_filterMap->Fg,set_cons_succ->Fd,getElem_range->EZ,append_assoc->EU,getElem_set->EN,nodup_range->EM,getElem?_cons_zero->OV,of_mem_zip->EI,foldl_cons->ED,range_succ_eq_map->OP,getElem?_zipWith->OL,getElem?_append->OE,range_eq_range'->OC,mem_of_mem_take->OA,length_zipWith->Ov,mem_replicate->Om,reverse->En,map_replicate->Ol,getElem?_take->Oj,findIdx?_cons->Oh,take_add_one->Od,foldl_append->Ob,getElem_inj->Oa,range'_succ->NW,length_set->NQ,forIn_cons->NP,nodup_cons->NM,find?_cons->NL,sum_append->NK
open PySem.Heap renaming get?_push_of_some->G0,lt_size->F6,get?_push_size->W6,size_push->hE,SameBut->ow,get?_update_other->OR,get?_update_self->ON
open Nat renaming le_trans->B6,lt_of_lt_of_le->M5,le_of_lt->Q3,ne_of_lt->Q1,lt_irrefl->U9,le_refl->T6,ne_of_gt->ar,add_sub_cancel->kT,lt_trichotomy->jJ,le_add_right->jI,le_of_not_lt->jF,lt_of_le_of_ne->lY,mul_le_mul_right->oI,lt_of_le_of_lt->oF,le_of_lt_succ->oD,zero_le->gP,lt_succ_of_lt->qY,le_succ_of_le->qX,le_of_eq->lQ,lt_succ_self->uC,lt_trans->qI,add_comm->qH,add_right_comm->zi,zero_add->qG,succ_le_succ->yZ,sub_lt_of_lt->yY,coprime_comm->yX,le_add_left_of_le->FC,mul_comm->uq,add_le_add->yR,mul_le_mul->yQ,min_le_right->ES,not_lt_zero->EE,Coprime->yG,sub_le->yC,sub_succ_lt_self->OH,pow_le_pow_right->OG,add_le_add_right->Oz,pow_lt_pow_right->Ox,mul_assoc->Et,lt_of_lt_of_eq->Oq,lt_or_ge->Em,pow_succ->El,sub_self->Ek,sub_add_cancel->Og,pow_pos->Ef,succ_lt_succ->NX,mul_mod_left->NV,mod_eq_of_lt->NU,div_eq_of_lt->NT,lt_add_right->NS
open Nat.le renaming refl->E7
open Int renaming fdiv_eq_ediv_of_nonneg->ba,mul_comm->J5,gcd->C9,mul_pos->K9,mul_assoc->O8,mul_zero->R9,mul_le_mul_of_nonneg_left->jt,le_of_lt->T7,zero_add->Y1,mul_le_mul_of_nonneg_right->mQ,mul_ediv_cancel_left->jr,le_trans->aK,mul_nonpos_of_nonneg_of_nonpos->sf,natAbs_mul->cX,toNat_natCast->fY,zero_mul->cz,gcd_pos_of_ne_zero_right->se,one_mul->cU,le_of_dvd->fV,mul_nonneg->fz,fmod_nonneg_of_pos->oK,gcd_dvd_right->jK,gcd_dvd_left->jE,lt_or_le->eI,dvd_refl->eH,eq_of_mul_eq_mul_right->uL,dvd_trans->gS,gcd_ediv_gcd_ediv_gcd->uJ,natAbs_of_nonneg->rd,mul_left_comm->oC,fmod_lt_of_pos->qZ,eq_of_mul_eq_mul_left->zu,le_of_mul_le_mul_left->zt,mul_neg_of_neg_of_pos->zr,mul_add->jz,ediv_pos_of_pos_of_dvd->FR,mul_one->ou,le_refl->oq,ediv_mul_cancel->zl,add_zero->qF,lt_of_le_of_lt->zh,mul_nonpos_of_nonpos_of_nonneg->Po,sub_zero->uo,mul_le_mul->yP,natCast_nonneg->Fm,lt_or_eq_of_le->Ff,gcd_comm->yI,mul_fdiv_cancel_left->OY,dvd_mul_of_dvd_left->OU,neg_mul->yF,mul_ediv_cancel->Ou,gcd_zero_right->Oi,add_mul->Eg
open Option.some renaming inj->V0,injEq->Oe
open Bool renaming true->Uf,false->U',false_ne_true->cY,false_eq_true->lZ,and_eq_true->qV,eq_iff_iff->qQ,false_and->Ez,or_eq_false_iff->Oy,not_eq_true'->Of,or_eq_true->NO
open PySem.NameKind renaming cell->bT,free->hC
open PySem.PyData renaming eqv->Y0,canLayAll0->fX,int->Z0,canLay0->fA,tuple->eG,list->oo,eqvAll->uw,depthAll->EA,strOk->Ei,depth->Eh
open PySem.SeqAt renaming shaped->aX,canLay_of_shaped->zo,list_indexAt->OZ
open PyProof.Rows renaming callWith_type1->pG,slot_tuple_getitem->zz,IntsAre->du,envOfC->fq,AllBare->jw,assignInOrder_cons->Fn,IsTup->gJ,subscriptTail_builtinR->OS
open Rat renaming mul_pos->dW,intCast_mul->jo,mul_le_mul_of_nonneg_right->zy,le_of_lt->jB,mul_nonneg->qO,add_zero->um,mul_le_mul_of_nonneg_left->Pn,mul_one->uk,mul_lt_mul_of_pos_right->Pj,intCast_add->EC,intCast_neg->EB,le_refl->yE,zero_mul->Ej,div_def->Ee
open PySem.Value renaming ref->aU,bool->uj,type->yD,int->yB,str->yA,none->Ed
open PySem.F renaming plainAttrs_list->rh,slot_zip_next->lR,slot_tuple_iterator_next->zx,slot_list_index->zp,args_tuple_add_2->FQ,entry_tuple_add->FL,args_zip_next_1->zf,slot_tuple_add->FK,entry_zip_next->zb,slot_dict_get->Fz,args_tuple_iterator_next_1->Pm,entry_tuple_iterator_next->Pk,args_list_index_2->Pe,slot_list_append->Pd,type_list_append->Pc,entry_list_index->Pa,args_dict_get_3->OX,type_list_index->OW,entry_dict_get->OQ,slot_enumerate_next->OK
open False renaming elim->dA
open Classical renaming byContradiction->uK,propDecidable->zq
open ForInStep renaming yield->lS
open PySem.Builtin.Slice renaming slicePlaces->zw,sliceAdjust->Pf
open PySem.Builtin.SmallTypes renaming nextOf->zv
open True renaming intro->lN
open PySem.Str renaming empty->lL
open PySem.Calls renaming spliced_cons->zj,callWith_builtin->FJ,Name_function_global->Ph,spliced_nil->EW,evalArgs_plain->OI
open PySem.Builtin.List renaming listTooLong->FP
open Sum renaming inr->gM,inl->oj
open Ne renaming symm->jv
open Array renaming length_toList->Fs,append_assoc->Ot
open PySem.Builtin.Tuple renaming tupleItemsOf->Pg
open PySem.Obj renaming mapSeq->uh,data_mapFields->Oo
open Nat.succ renaming inj->yJ
open PySem.Heap.SameBut renaming update->Ow
open PyProof.Rows.IsTup renaming new->yz
open PySem.Around renaming under->Ep
open Eq renaming trans->yy
open List.cons renaming injEq->NJ
open PySem.PassesOwn renaming never->NI
theorem K8{a b:Int}(h:autoParam (b<a) oe):a≠b:=Int.ne_of_gt h
theorem de{a b:Int}(h:autoParam (a<b) oe):a<=b:=T7 h
theorem eu{a b:Nat}(h:autoParam (a<b) oe):a<b+1:=qY h
theorem eR{a b:Nat}(h:autoParam (a<b) oe):a<=b:=Q3 h
theorem pd{a b c:Nat}(h:autoParam (a<=b) oe):a<=c+b:=FC h
theorem xJ{a b c:Nat}(h:autoParam (a+b<=c) oe):a<=c:=B6 (jI _ _) h
theorem CJ{a b c:Nat}(h:autoParam (b+a<=c) oe):a<=c:=B6 (Nat.le_add_left _ _) h
abbrev f6:=@if_neg
abbrev f9:=@if_pos
abbrev B9:=@congrArg
abbrev aM:=@decide_eq_false
abbrev fW:=@decide_eq_true
abbrev U7:=@if_true
abbrev az:=@or_false
abbrev oE:=@of_decide_eq_true
abbrev qW:=@decide_eq_true_eq
open List (mem_range mem_map mem_singleton mem_flatMap)
namespace L2
open PySem PySem.Spec PyProof.Rows
variable{c:v5}{d:List (Addr×Obj)}{e B:Addr}{o Z:Expr}{p R:Pos}{m:Str}{h a0:Heap}{k:Nat}{A:Z4}{q:t2->v5->Prop}{D:t2}{y:L9}{z:List t2}{G:List Expr}{L:List Addr}{N:List Str}{O:v9}{a2:E1}{a6:Str->Option t2}{a8:T5}{b6:Obj}{b7:List Stmt}{b9:Unit->v5->Prop}{c5:t2->t2->Sem t2}{c7:Model}{c8:Bool}{d2:CmpOp}{d3:Sem Bool}{d6:Type}{d8:Stmt}{d9:List (Str×t2)}{e8:eF}{e9:Array GenState}{g8:Int->Int->Int}{h8:t2×List t2->v5->Prop}{i0:Option t2}{i3:List Env}
abbrev hz(s:v5):Nat:=s.heap.objs.size
abbrev Key:=Sum Int Str
def vk:Key->t2->Bool
 | .inl k,v=>Value.isInt k v
 | .inr x,v=>Value.isStrOf x v
def a3A(w:E1):Key->Int
 | .inl k=>hashInt k
 | .inr x=>hashStr w x
def aj:∀{k:Key} {v:t2},vk k v=Uf->(∃i t,k=oj i/\v=yB i t)\/(∃x t,k=gM x/\v=yA x t)
 | .inl i,v,h=>by obtain⟨t,e⟩:=Value.isInt_shape h;exact .inl ⟨i,t,rfl,e⟩
 | .inr x,v,h=>by obtain⟨t,e⟩:=Value.isStrOf_shape h;exact .inr ⟨x,t,rfl,e⟩
def MI(i:Int)(t:Tok):vk (.inl i) (.int i t)=Uf:=by simp[vk,Value.isInt]
def MH(x:Str)(t:Tok):vk (.inr x) (.str x t)=Uf:=by simp[vk,Value.isStrOf]
def a0z(a b:Int):decide ((oj a:Key)=oj b)=(a==b):=by
 by_cases e:a=b;subst e;simp;have h:¬(oj a:Key)=oj b:=λq=>e (Sum.inl.inj q);rw[aM h];exact(beq_eq_false_iff_ne.mpr e).symm
def a0w(a b:Str):decide ((gM a:Key)=gM b)=decide (a=b):=by
 by_cases e:a=b;subst e;simp;have h:¬(gM a:Key)=gM b:=λq=>e (Sum.inr.inj q);rw[aM h,aM e]
def a0y(a:Int)(b:Str):decide ((oj a:Key)=gM b)=U':=aM (λq=>nomatch q)
def a0x(a:Str)(b:Int):decide ((gM a:Key)=oj b)=U':=aM (λq=>nomatch q)
def aH(prog:L9)(w:E1):PySem.KeyKind prog w Key where
 is:=vk
 hash:=a3A w
 inj:=λv a b ha hb=>by
  rcases aj ha with ⟨i,t,rfl,rfl⟩|⟨x,t,rfl,rfl⟩
  . rcases aj hb with ⟨j,u,rfl,e⟩|⟨y,u,rfl,e⟩
    . injection e with e1 _;rw[e1]
    exact nomatch e
  . rcases aj hb with ⟨j,u,rfl,e⟩|⟨y,u,rfl,e⟩
    exact nomatch e
    . injection e with e1 _;rw[e1]
 byValue:=λk v h=>by rcases aj h with ⟨i,t,rfl,rfl⟩|⟨x,t,rfl,rfl⟩<;>rfl
 pyHash:=λhv h=>by
  rcases aj hv with ⟨i,t,rfl,rfl⟩|⟨x,t,rfl,rfl⟩
  exact wpAny_pyHash_int h;exact wpAny_pyHash_str h
 eqBool:=λhu hv h=>by
  rcases aj hu with ⟨i,t,rfl,rfl⟩|⟨x,t,rfl,rfl⟩
  . rcases aj hv with ⟨j,u,rfl,rfl⟩|⟨y,u,rfl,rfl⟩
    rw[a0z]at h;exact wpAny_eqBool_int h;rw[a0y]at h;exact SeqAt.EqAt.int_str i t y u _ _ _ _ h
  . rcases aj hv with ⟨j,u,rfl,rfl⟩|⟨y,u,rfl,rfl⟩
    rw[a0x]at h;exact SeqAt.EqAt.str_int x t j u _ _ _ _ h;rw[a0w]at h;exact wpAny_eqBool_str h
 «strs»:=λk x t v h=>by
  rcases aj h with ⟨i,u,rfl,e⟩|⟨y,u,rfl,e⟩
  exact nomatch e
  . injection e with e1 _
    subst e1;cases v<;>rfl
def Gw(prog:L9)(w:E1)(i:Int)(t:Tok):(aH prog w).is (.inl i) (.int i t)=Uf:=MI i t
def Gv(prog:L9)(w:E1)(x:Str)(t:Tok):(aH prog w).is (.inr x) (.str x t)=Uf:=MH x t
inductive V where
 |non|bl (b:Bool)|int (i:Int)|str (x:Str)|byt (b:Array UInt8)|flt (b:UInt64)|ref (a:Addr)|ty (n:String)
 deriving DecidableEq
variable{l:List (Option V)}{r:List V}{M:V}{d5:List (Str×V)}
def RelV:V->t2->Prop
 | .non,u=>u=Ed
 | .bl b,u=>u=uj b
 | .int i,u=>∃t,u=yB i t
 | .str x,u=>∃t,u=yA x t
 | .byt b,u=>∃t,u=Value.bytes b t
 | .flt b,u=>∃t,u=Value.float b t
 | .ref a,u=>u=aU a
 | .ty n,u=>u=yD n
abbrev Vals:List V->List t2->Prop:=Paired RelV
theorem Vals.length(a:Vals r z):r.length=z.length:=Paired.length a
theorem Vals.get:∀{xs:List V} {us:List t2} {i:Nat} {x:V},Vals xs us->xs[i]? = U x->∃u,us[i]? = U u/\RelV x u
 |_,_,_,_,.nil,e=>by simp at e
 |_,_,0,_,.cons r _,e=>by simp at e;subst e;exact⟨_,rfl,r⟩
 |_,_,i+1,x,.cons _ t,e=>by
  obtain⟨u,b,a⟩:=Vals.get t (by simpa using e);exact⟨u,by simpa using b,a⟩
theorem Vals.set{x:V}{u:t2}(r:RelV x u):∀{xs:List V} {us:List t2} (i:Nat),Vals xs us->Vals (xs.set i x) (us.set i u)
 |_,_,_,.nil=>.nil
 |_,_,0,.cons _ t=>.cons r t
 |_,_,i+1,.cons q t=>.cons q (Vals.set r i t)
def Vals.append{ys:List V}{ws:List t2}(h:Vals r z)(s:Vals ys ws):Vals (r++ys) (z++ws):=by
 induction h with
 |nil=>exact s
 |cons a t i=>exact .cons a i
theorem Vals.take:∀{xs:List V} {us:List t2} (n:Nat),Vals xs us->Vals (xs.take n) (us.take n)
 |_,_,0,_=>.nil
 |_,_,_+1,.nil=>.nil
 |_,_,n+1,.cons r t=>.cons r (Vals.take n t)
theorem Vals.drop:∀{xs:List V} {us:List t2} (n:Nat),Vals xs us->Vals (xs.drop n) (us.drop n)
 |_,_,0,r=>r
 |_,_,_+1,.nil=>.nil
 |_,_,n+1,.cons _ t=>Vals.drop n t
def gA:Option V->Option t2->Prop
 |some v,U u=>RelV v u
 |none,J=>True
 |_,_=>False
def KV:List (d6×V)->List (d6×t2)->Prop:=Paired λ(p:d6×V) (q:d6×t2)=>p.1=q.1/\RelV p.2 q.2
noncomputable def kV:Key->V
 | .inl i=>.int i
 | .inr x=>.str x
inductive HO where
 |lst (xs:List V)
 |tup (xs:List V)
 |dK (kvs:List (Key×V))|dT (kvs:List (List Key×V))
 |set (S:Int->Bool) (n:Nat)
 |ins (C dx:Addr) (fs:List (Str×V))
 |own (x:Addr)
 |xd (fs:List (Str×V))
 |met (f x:Addr)
 |rng (lo hi:Int)
 |eB (o:Obj) (u:HO)
 |tbl (ps:Array t2)
 |ext (φ:Heap->Prop)
variable{I:HO}
abbrev Hp:=Addr->Option HO
variable{a:Hp}
def upd(H:Hp)(a:Addr)(o:HO):Hp:=λb=>if b=a then U o else H b
def O3:upd a e I e=U I:=by delta upd;rw[f9 rfl]
def J4(h:B≠e):upd a e I B=a B:=by delta upd;rw[f6 h]
def ai(h:a e=U I)(h':a B=J):e≠B:=by intro H;subst H;rw[h]at h';exact nS h'
section
variable(P:L9)(w:E1)
def ao(H:Hp)(h:Heap)(a:Addr):HO->Prop
 | .lst xs=>xs.length<=E6/\∃(its:List t2) (n:Nat),Vals xs its/\h.get? a=U {cls:=.type "list",data:=.seq its.toArray n}
 | .tup xs=>xs.length<=E6/\∃its:List t2,Vals xs its/\gJ h a its.toArray
 | .dK kvs=>kvs.length<=E6/\(a==qD)=U'/\∃vs,KV kvs vs/\h.DictOf (aH P w) a vs
 | .dT kvs=>kvs.length<=E6/\(a==qD)=U'/\∃xs:List (List Key×Addr×t2),
   Paired (λ(p:List Key×V) (q:List Key×Addr×t2)=>p.1=q.1/\H q.2.1=U (.tup (p.1.map kV))/\RelV p.2 q.2.2) kvs xs /\
   ∃o es ep,h.get? a=U o/\o.ExactDict/\o.data=.dict es ep/\es.toList=xs.map (entryOfKey (om (aH P w)))/\(xs.map (·.1)).Nodup
 | .set S n=>h.SetOf (intKind P w) a S n
 | .ins C dx fs=>H dx=U (.own a)/\fs.length<=1000/\dx≠a/\h.get? a=U (lU C dx) /\
   ∃mA,h.Ns1 dx mA/\(∀f,gA (fs.lookup f) (mA f))/\Er mA (fs.map (·.1))
 | .own _=>∃o,h.get? a=U o
 | .xd fs=>∃mA,h.Ns1 a mA/\∀f,gA (fs.lookup f) (mA f)
 | .rng lo hi=>∃t u v,h.get? a=U {cls:=.type "range",data:=.fields #[.int lo t,.int hi u,.int 1 v]}
 | .eB o u=>h.get? a=U o/\ao H h a u
 | .tbl ps=>h.get? a=U {cls:=.none,data:=.fields ps}
 | .met f x=>h.get? a=U (PySem.W.methodObj (.ref f) (.ref x))
 | .ext φ=>φ h/\(∃o,h.get? a=U o)/\∀h1 h2:Heap,φ h1->(∀o,h1.get? a=U o->h2.get? a=U o)->φ h2
def G5(H:Hp)(h:Heap):Prop:=∀a o,H a=U o->ao P w H h a o
end
section
variable{w:E1}
theorem ao.lt{P:L9}{H:Hp}{h:Heap}{a:Addr}{o:HO}(x:ao P w H h a o):a<h.objs.size:=by
 cases o with
 |lst c=>obtain⟨_,_,_,_,e⟩:=x;exact F6 e
 |tup c=>obtain⟨_,_,_,p⟩:=x;exact p.lt
 |dK b=>obtain⟨_,_,_,_,o,_,_,e,_⟩:=x;exact F6 e
 |dT b=>obtain⟨_,_,_,_,o,_,_,e,_⟩:=x;exact F6 e
 |set S n=>obtain⟨o,_,_,_,e,_⟩:=x;exact F6 e
 |ins C k fs=>obtain⟨_,_,_,e,_⟩:=x;exact F6 e
 |own y=>obtain⟨_,e⟩:=x;exact F6 e
 |xd fs=>obtain⟨_,⟨_,_,_,e,_⟩,_⟩:=x;exact F6 e
 |rng j d=>obtain⟨_,_,_,e⟩:=x;exact F6 e
 |eB i u=>obtain⟨e,_⟩:=x;exact F6 e
 |tbl g=>exact F6 (show h.get? a=U _ from x)
 |met f y=>exact F6 (show h.get? a=U _ from x)
 |ext φ=>obtain⟨_,⟨_,e⟩,_⟩:=x;exact F6 e
def Paired.a3x{e:Type}{F G:d6->e->Prop}{c:List d6}{l:List e}(h:Paired F c l)(f:∀a b,F a b->G a b):Paired G c l:=by
 induction h with
 |nil=>exact .nil
 |cons r t i=>exact .cons (f _ _ r) i
def ao.wo{H':Hp}(x:ao y w a h e I)(k:∀b u,(b=e\/a b=U (.own e))->h.get? b=U u->a0.get? b=U u)(F:∀b,a b=U (.own e)->H' b=U (.own e))(E:∀b xs,a b=U (.tup xs)->H' b=U (.tup xs)):ao y w H' a0 e I:=by
 induction I with
 |lst xs=>obtain⟨z,l,n,r,H⟩:=x;exact⟨z,l,n,r,k _ _ (.inl rfl) H⟩
 |tup xs=>obtain⟨z,l,r,g,H,c⟩:=x;exact⟨z,l,r,g,k _ _ (.inl rfl) H,c⟩
 |dK A=>obtain⟨z,P,G,r,g,i,j,H,c⟩:=x;exact⟨z,P,G,r,g,i,j,k _ _ (.inl rfl) H,c⟩
 |dT A =>
  obtain⟨z,P,xs,r,g,i,j,H,c⟩:=x;exact⟨z,P,xs,Paired.a3x r λp q z=>⟨z.1,E _ _ z.2.1,z.2.2⟩,g,i,j,k _ _ (.inl rfl) H,c⟩
 |set S n=>obtain⟨g,i,j,t,H,c⟩:=x;exact⟨g,i,j,t,k _ _ (.inl rfl) H,c⟩
 |ins C N fs =>
  obtain⟨d,z,ne,H,m,⟨s,i,j,o,c⟩,r⟩:=x;exact⟨F _ d,z,ne,k _ _ (.inl rfl) H,m,⟨s,i,j,k _ _ (.inr d) o,c⟩,r⟩
 |own P=>obtain⟨g,H⟩:=x;exact⟨g,k _ _ (.inl rfl) H⟩
 |xd fs=>obtain⟨m,⟨s,i,j,H,c⟩,r⟩:=x;exact⟨m,⟨s,i,j,k _ _ (.inl rfl) H,c⟩,r⟩
 |rng M K=>obtain⟨t,u,v,H⟩:=x;exact⟨t,u,v,k _ _ (.inl rfl) H⟩
 |eB g u D=>obtain⟨H,q⟩:=x;exact⟨k _ _ (.inl rfl) H,D q⟩
 |tbl L =>
  have H:=x;exact k e _ (.inl rfl) H
 |met f P =>
  have H:=x;exact k e _ (.inl rfl) H
 |ext φ=>obtain⟨p,⟨I,H⟩,B⟩:=x;exact⟨B _ _ p λI q=>k _ _ (.inl rfl) q,⟨I,k _ _ (.inl rfl) H⟩,B⟩
theorem G5.lt(x:G5 y w a h)(P:a e=U I):e<h.objs.size:=(x e I P).lt
def G5.fresh(x:G5 y w a h)(P:h.objs.size<=e):a e=J:=by
 cases q:a e with
 |none=>rfl
 |some u=>exact absurd (M5 (x.lt q) P) (U9 _)
def G5.kept(x:G5 y w a h)(k:∀b u,h.get? b=U u->a0.get? b=U u):G5 y w a a0:=λP o e =>
 (x P o e).wo (λb u _ q=>k b u q) (λ_ q=>q) λ_ _ q=>q
def G5.laid{o:HO}(x:G5 y w a h)(k:∀b u,h.get? b=U u->a0.get? b=U u)(g:h.objs.size<=e)(new:ao y w (upd a e o) a0 e o):G5 y w (upd a e o) a0:=λb u P=>by
 have d:=x.fresh g;by_cases f:b=e;subst f;rw[O3]at P;cases P;exact new
 . rw[J4 f]at P;exact(x b u P).wo (λc v _ q=>k c v q) (λc q=>by rw[J4 (ai q d)];exact q) λc i q=>by rw[J4 (ai q d)];exact q
end
def Rd(H:Hp)(a:Addr)(u:HO):Prop:=H a=U u\/∃o,H a=U (.eB o u)
def Rd.ok(r:Rd a e I)(x:G5 y a2 a h):ao y a2 a h e I:=by
 rcases r with r|⟨o,r⟩
 exact x e I r;obtain⟨_,q⟩:=x e _ r;exact q
def Vg:Option HO->Prop
 |some (.lst _)=>True
 |some (.dK _)=>True
 |some (.dT _)=>True
 |some (.set _ _)=>True
 |some (.ins _ _ _)=>True
 |some (.ext _)=>True
 |_=>False
section
variable{w:E1}
def G5.write(ok:G5 y w a h)(mu:Vg (a B))(m:e=B\/a e=U (.own B))(k:∀b u,b≠e->h.get? b=U u->a0.get? b=U u)(l:∃u,a0.get? e=U u)(new:ao y w (upd a B I) a0 B I):G5 y w (upd a B I) a0:=λb u q=>by
 have d:∀c P,a c=U (.own P)->c≠B:=λc P r z=>by subst z;rw[r]at mu;exact mu
 have f:∀c g,a c=U (.tup g)->c≠B:=λc g r z=>by subst z;rw[r]at mu;exact mu
 by_cases j:b=B;subst j;rw[O3]at q;cases q;exact new
 . rw[J4 j]at q;by_cases H:b=e
   . have n:a b=U (.own B):=by
       rcases m with z|z
       exact absurd (H.trans z) j;rw[H];exact z
     rw[q]at n;cases n;obtain⟨v,o⟩:=l;exact⟨v,by rw[H];exact o⟩
   . refine(ok b u q).wo (λc v i r=>k c v ?_ r) (λc r=>by rw[J4 (d c b r)];exact r) λc g r=>by rw[J4 (f c g r)];exact r
     rcases i with rfl|i
     exact H
     . rintro rfl;rcases m with z|z
       exact d c b i z;rw[i]at z;cases z;exact j rfl
end
structure Un(fs ex:List Addr)(H H':Hp)(h h':Heap):Prop where
 keep:∀b o,h.get? b=U o->H b=J->b∉fs->b∉ex->h'.get? b=U o
 slot:∀b o,h.get? b=U o->H b=J->b∈fs->b∉ex->∃sl,h'.get? b=U {o with slots:=sl}
 free:∀b o,h.get? b=U o->H b=J->b∉ex->H' b=J
 there:∀b o,h.get? b=U o->b∉ex->∃o',h'.get? b=U o'
 nt:∀b xs,H b=U (.tup xs)->H' b=U (.tup xs)
 mq:∀b o u,H b=U (.eB o u)->H' b=U (.eB o u)
 ny:∀b ps,H b=U (.tbl ps)->∃more,H' b=U (.tbl (ps++more))
def Un.any{ex:List Addr}{H1:Hp}(u:Un L ex a H1 h a0)(q:h.get? e=U b6)(n:a e=J)(c:e∉ex):∃d,a0.get? e=U {b6 with slots:=d}:=by
 by_cases H:e∈L;exact u.slot e b6 q n H c;exact⟨b6.slots,u.keep e b6 q n H c⟩
def Un.trans{ex:List Addr}{H1 H2:Hp}{h2:Heap}(H:Un L ex a H1 h a0)(b:Un L ex H1 H2 a0 h2):Un L ex a H2 h h2 where
 keep:=λc e q n i d=>b.keep c e (H.keep c e q n i d) (H.free c e q n d) i d
 slot:=λc e q n i d=>by obtain⟨p,f⟩:=H.slot c e q n i d;obtain⟨j,k⟩:=b.slot c _ f (H.free c e q n d) i d;exact⟨j,k⟩
 free:=λc e q n d=>by obtain⟨l,f⟩:=H.there c e q d;exact b.free c l f (H.free c e q n d) d
 there:=λc e q d=>by obtain⟨l,f⟩:=H.there c e q d;exact b.there c l f d
 nt:=λc g q=>b.nt c g (H.nt c g q)
 mq:=λc e g q=>b.mq c e g (H.mq c e g q)
 ny:=λc m q=>by obtain⟨m1,f⟩:=H.ny c m q;obtain⟨o,k⟩:=b.ny c _ f;exact⟨m1++o,by rw[k,Ot]⟩
def Un.kept{ex:List Addr}(k:∀b u,h.get? b=U u->a0.get? b=U u):Un L ex a a h a0:=
 ⟨λb H q _ _ _=>k b H q,λb H q _ _ _=>⟨H.slots,k b H q⟩,λ_ _ _ n _=>n,λb H q _=>⟨H,k b H q⟩,λ_ _ q=>q,λ_ _ _ q=>q,λ_ c q=>⟨#[],by rw[q];simp⟩⟩
def Un.refl{ex:List Addr}:Un L ex a a h h:=Un.kept λ_ _ q=>q
def Un.laid{ex:List Addr}{o:HO}(k:∀b u,h.get? b=U u->a0.get? b=U u)(H:h.objs.size<=e)(c:a e=J):Un L ex a (upd a e o) h a0 where
 keep:=λb u q _ _ _=>k b u q
 slot:=λb u q _ _ _=>⟨u.slots,k b u q⟩
 free:=λb u q n _=>by rw[J4 (Q1 (M5 (F6 q) H))];exact n
 there:=λb u q _=>⟨u,k b u q⟩
 nt:=λb d q=>by rw[J4 (ai q c)];exact q
 mq:=λb u d q=>by rw[J4 (ai q c)];exact q
 ny:=λb f q=>⟨#[],by rw[J4 (ai q c),q];simp⟩
def Un.write{ex:List Addr}(mu:Vg (a B))(i:e=B\/a e=U (.own B))(k:∀b u,b≠e->h.get? b=U u->a0.get? b=U u)(d:∃u,a0.get? e=U u):Un L ex a (upd a B I) h a0:=by
 have f:∀b,a b=J->b≠B:=λb n z=>by subst z;rw[n]at mu;exact mu
 have g:∀b,a b=J->b≠e:=λb n z=>by
  subst z;rcases i with r|r
  exact f b n r;rw[n]at r;exact nE r
 have c:∀b u,a b=U u->¬Vg (U u)->b≠B:=λb u q j z=>by subst z;rw[q]at mu;exact j mu
 refine⟨λb u q n _ _=>k b u (g b n) q,λb u q n _ _=>⟨u.slots,k b u (g b n) q⟩,λb u q n _=>by rw[J4 (f b n)];exact n,λb u q _=>?_,
  λb l q=>by rw[J4 (c b _ q λz=>z)];exact q,λb u l q=>by rw[J4 (c b _ q λz=>z)];exact q,λb m q=>⟨#[],by rw[J4 (c b _ q λz=>z),q];simp⟩⟩
 by_cases H:b=e;subst H;exact d;exact⟨u,k b u H q⟩
def Uj(h:Heap)(H:Hp):List Addr:=(D0 h.objs.size).filter λa=>(H a).isSome
def tQ(h:Heap)(H:Hp):Heap:=PySem.W.hideAll h (Uj h H)
def MR(h:Heap)(H:Hp):(tQ h H).objs.size=h.objs.size:=PySem.W.hideAll_size _ _
def SF(b:h.get? e=U b6)(n:a e=J):(tQ h a).get? e=U b6:=
 PySem.W.hideAll_get _ b λH=>by have q:=(List.mem_filter.mp H).2;rw[n]at q;simp at q
def WY(b:(tQ h a).get? e=U b6):h.get? e=U b6/\a e=J:=by
 have H:=PySem.W.of_hideAll (Uj h a) b;refine⟨H,?_⟩;cases q:a e with
 |none=>rfl
 |some x =>
  have c:e∈Uj h a:=List.mem_filter.mpr ⟨mem_range.mpr (F6 H),by simp[q]⟩;have z:(tQ h a).get? e=J:=PySem.W.hideAll_none (Uj h a) c;rw[z]at b;exact nE b
def XS(g h:Heap)(L:Addr):List (Addr×Obj):=(D0 h.objs.size).filterMap λa=>if a=L\/(g.get? a).isSome=Uf then J else(h.get? a).map λo=>(a,o)
def rest(g h:Heap)(L d:Addr):List (Addr×Obj):=(XS g h L).filter λp=>decide (p.1≠d)
structure Mod(K:v9)(mg:Str->Option t2)(base:Heap):Prop where
 HG:K.In base
 glob:base.Ns aq mg
 blt:∃mb,base.Ns builtinsNs mb/\∀x:Str,x ≠ "__name__"->mb x=dZ x
 nolimit:base.NoLimit
structure Cx where
 prog:L9
 w:E1
 K:v9
 mg:Str->Option t2
 base:Heap
 A:Z4
 N:List Str
 V4:v5
 D7:Hp
 env:Env
 outer:List Env
 stack:List Env
 ex:List Addr
 fn:Str->Bool
 calm:Bool
 pn:List (Addr×Obj)
 xe:t2->v5->Prop
variable{X:Cx}
def px(l:List Env):List Addr:=l.filterMap (·.frame)
abbrev Cx.fs(X:Cx):List Addr:=px X.outer
def Vc(sc:eF)(x:Str):Prop:=sc.names.lookup x=U .local\/sc.names.lookup x=U .cell\/sc.names.lookup x=U .free
def Loc(sc:eF)(x:Str):Prop:=sc.names.lookup x=U .local\/sc.names.lookup x=U .cell
def Look(env:Env)(h:Heap)(m:Str->Option t2)(x:Str)(u:t2):Prop:=
 (env.kindOf x=U .local/\m x=U u)\/((env.kindOf x=U .cell\/env.kindOf x=U .free)/\∃c,env.cells.lookup x=U c/\h.IsCell c (U u))
structure Cx.Ok(X:Cx):Prop where
 mod:Mod X.K X.mg X.base
 kind:X.env.scope.kind=.function
 glob:X.env.globals=aq
 blt:X.env.builtins=builtinsNs
 above:X.V4.heap.objs.size<=X.env.locals
 inj:∀x y c,X.env.cells.lookup x=U c->X.env.cells.lookup y=U c->x=y
 has:∀x,(X.env.kindOf x=U .cell\/X.env.kindOf x=U .free)->∃c,X.env.cells.lookup x=U c
 Ik:∀x c,X.fn x=Uf->X.env.cells.lookup x=U c->X.V4.heap.objs.size<=c
 hd:X.calm=Uf->X.A.handled=J
 frames:X.A.frames=U X.stack
 KQ:X.stack=X.outer\/(X.stack=X.env::X.outer/\X.env.frame=U X.env.locals)
 UQ:∀b∈X.ex,b≠X.env.locals/\∀x c,X.env.cells.lookup x=U c->c≠b
 bs:∀b o,X.base.get? b=U o->X.V4.heap.get? b=U o/\X.D7 b=J
 sG:X.base.objs.size<=X.V4.heap.objs.size
 wG:∀b o,X.base.get? b=U o->b∉X.ex
 Aj:∀b∈X.ex,b∉X.fs
 kC:X.V4.heap.FunFrames X.base X.outer
 AY:∀b∈X.fs,X.D7 b=J
structure Inv(X:Cx)(pins:List (Addr×Obj))(σ:List (Option V))(H:Hp)(s:v5):Prop where
 ok:X.Ok
 os:s.os=X.V4.os
 bare:jw s.gens
 base:Un X.fs X.ex X.D7 H X.V4.heap s.heap
 loc:∃m,s.heap.Ns X.env.locals m/\∀(i:Nat) (x:Str) (v:V),X.N[i]? = U x->σ[i]? = U (U v)->Vc X.env.scope x->∃u,RelV v u/\Look X.env s.heap m x u
 cell:∀x c,X.env.cells.lookup x=U c->∃v,s.heap.IsCell c v
 free:H X.env.locals=J
 ji:∀x c,X.env.cells.lookup x=U c->H c=J
 pin:∀p∈X.pn++pins,s.heap.get? p.1=U p.2/\H p.1=J/\p.1≠X.env.locals/\p.1∉X.fs/\∀v,p.2.data≠.cell v
 J1:G5 X.prog X.w H s.heap
 len:σ.length=X.N.length
def Cx.Ok.a3u(ok:X.Ok)(b:X.base.get? e=U b6):e∉X.fs:=λa=>by have:=(ok.kC.mem a).1;rw[b]at this;exact nS this
theorem Inv.bs(I:Inv X d l a c):∀b o,X.base.get? b=U o->c.heap.get? b=U o/\a b=J:=λb o e =>
 ⟨I.base.keep b o (I.ok.bs b o e).1 (I.ok.bs b o e).2 (I.ok.a3u e) (I.ok.wG b o e),I.base.free b o (I.ok.bs b o e).1 (I.ok.bs b o e).2 (I.ok.wG b o e)⟩
def Inv.bk(I:Inv X d l a c):∀b o,X.base.get? b=U o->c.heap.get? b=U o:=λb o e=>(I.bs b o e).1
theorem Inv.mod(I:Inv X d l a c):Mod X.K X.mg X.base:=I.ok.mod
def Inv.gF(I:Inv X d l a c):X.K.In c.heap:=I.ok.mod.HG.keeps I.bk
def Inv.fr(I:Inv X d l a c):∃m,Fr X.base X.env.locals c.heap m:=
 let ⟨m,σ,_⟩:=I.loc
 ⟨m,σ,I.bk,B6 I.ok.sG I.ok.above⟩
theorem Inv.lt(I:Inv X d l a c):X.env.locals<(hz c):=let ⟨_,σ,_⟩:=I.loc;σ.lt
def Inv.sz(I:Inv X d l a c):X.V4.heap.objs.size<=(hz c):=B6 I.ok.above (Q3 I.lt)
def Inv.RY(I:Inv X d l a c)(h:(hz c)<=e):e∉X.fs:=λb=>by obtain⟨_,o,σ,_⟩:=I.ok.kC.mem b;exact absurd (M5 (F6 σ) (B6 I.sz h)) (U9 _)
def Inv.DM(I:Inv X d l a c):∀x s,X.env.cells.lookup x=U s->s≠X.env.locals:=λx s e z=>by obtain⟨v,o,f,σ⟩:=I.cell x s e;obtain⟨m,⟨i,g,h,H,b,_⟩,_⟩:=I.loc;rw[z,H]at f;cases f;rw[b]at σ;cases σ
theorem Inv.kC{X:Cx}{pins:List (Addr×Obj)}{σ:List (Option V)}{H:Hp}{s:v5}(I:Inv X pins σ H s):s.heap.FunFrames X.base X.outer:=by
 have all:∀l,(∀b∈px l,b∈X.fs)->X.V4.heap.FunFrames X.base l->s.heap.FunFrames X.base l:=by
  intro l;induction l with
  |nil=>intro _ _;trivial
  |cons j r i =>
   intro f n;obtain⟨p,⟨L,o,d,h,k,g⟩,m⟩:=n;have a:=f L (by delta px;rw[zm,d];exact D1);obtain⟨q,e⟩:=I.base.slot L o k (I.ok.AY L a) a λz=>I.ok.Aj L z a;exact⟨p,⟨L,_,d,h,e,g⟩,i (λb c=>f b (by delta px;rw[zm,d];exact C6 _ c)) m⟩
 exact all X.outer (λ_ c=>c) I.ok.kC
theorem Inv.stack(I:Inv X d l a c):c.heap.FunFrames X.base X.stack:=by
 rcases I.ok.KQ with e|⟨e,σ⟩
 rw[e];exact I.kC;rw[e];obtain⟨m,b,_⟩:=I.loc;refine .cons (by rw[I.ok.kind];decide) σ b ?_ I.kC;exact Heap.get?_none_of_le (B6 I.ok.sG I.ok.above)
def Inv.tj(I:Inv X d l a c):∀b∈px X.stack,b∈X.env.locals::X.fs:=λb σ=>by
 rcases I.ok.KQ with e|⟨e,H⟩
 rw[e]at σ;exact C6 _ σ;rw[e]at σ;unfold px at σ;rw[zm,H]at σ;exact σ
def Inv.GO(I:Inv X d l a c):∀b∈px X.stack,a b=J:=λb σ=>by
 rcases List.mem_cons.mp (I.tj b σ)with e | σ
 rw[e];exact I.free;obtain⟨_,o,H,_⟩:=I.ok.kC.mem σ;exact I.base.free b o H (I.ok.AY b σ) λz=>I.ok.Aj b z σ
def Inv.step{H':Hp}{t':Nat}{d':Drawn}{ch:List Addr}(I:Inv X d l a c)(g:∀b∈ch,(b∈X.ex\/X.V4.heap.objs.size<=b)/\b≠X.env.locals/\(∀x w,X.env.cells.lookup x=U w->w≠b)/\∀p∈X.pn++d,p.1≠b)(keep:∀b o,b≠X.env.locals->b∉X.fs->b∉ch->c.heap.get? b=U o->a b=J->h.get? b=U o)(slot:∀b o,b≠X.env.locals->b∈X.fs->b∉ch->c.heap.get? b=U o->a b=J->∃L,h.get? b=U {o with slots:=L})(free:∀b o,b∉ch->c.heap.get? b=U o->a b=J->H' b=J)(there:∀b o,b∉ch->c.heap.get? b=U o->∃D,h.get? b=U D)(nt:∀b xs,a b=U (.tup xs)->H' b=U (.tup xs))(mq:∀b o u,a b=U (.eB o u)->H' b=U (.eB o u))(ny:∀b E,a b=U (.tbl E)->∃more,H' b=U (.tbl (E++more)))(ns:∀m,c.heap.Ns X.env.locals m->h.Ns X.env.locals m)(K:G5 X.prog X.w H' h)(Q:jw e9):
  Inv X d l H' {c with heap:=h,gens:=e9,drawn:=d',toks:=t'}:=by
 have B:∀b o,X.V4.heap.get? b=U o->b≠X.env.locals:=λb o e=>Q1 (M5 (F6 e) I.ok.above)
 have j:∀b o,X.V4.heap.get? b=U o->b∉X.ex->b∉ch:=λb o e s y=>by
  rcases(g b y).1 with z|z
  exact s z;exact absurd (M5 (F6 e) z) (U9 _)
 have W:∀x w,X.env.cells.lookup x=U w->∀v,c.heap.IsCell w v->h.IsCell w v:=λx w e v ⟨o,A,F⟩=>by
  have f:=λz=>(g w z).2.2.1 x w e rfl;by_cases O:w∈X.fs;obtain⟨L,q⟩:=slot w o (I.DM x w e) O f A (I.ji x w e);exact⟨_,q,F⟩;exact⟨o,keep w o (I.DM x w e) O f A (I.ji x w e),F⟩
 refine⟨I.ok,I.os,Q,⟨λb o e n y s=>?_,λb o e n y s=>?_,λb o e n s=>?_,λb o e s=>?_,λb xs e=>nt b xs (I.base.nt b xs e),λb o xs e=>mq b o xs (I.base.mq b o xs e),λb E e=>?_⟩,?_,λx w e=>?_,?_,λx w e=>?_,λp N=>?_,K,I.len⟩;exact keep b o (B b o e) y (j b o e s) (I.base.keep b o e n y s) (I.base.free b o e n s);obtain⟨L,t⟩:=I.base.slot b o e n y s;obtain⟨G,C⟩:=slot b _ (B b o e) y (j b o e s) t (I.base.free b o e n s);exact⟨G,C⟩;obtain⟨D,t⟩:=I.base.there b o e s;exact free b D (j b o e s) t (I.base.free b o e n s);obtain⟨D,t⟩:=I.base.there b o e s;exact there b D (j b o e s) t;obtain⟨m1,t⟩:=I.base.ny b E e;obtain⟨T,C⟩:=ny b _ t;exact⟨m1++T,by rw[C,Ot]⟩
 . obtain⟨m,S,P⟩:=I.loc;refine⟨m,ns m S,λi x v t C R=>?_⟩
   obtain⟨u,r,H⟩:=P i x v t C R;refine⟨u,r,?_⟩;rcases H with H|⟨k,w,e,z⟩
   exact .inl H;exact .inr ⟨k,w,e,W x w e _ z⟩
 obtain⟨v,z⟩:=I.cell x w e;exact⟨v,W x w e v z⟩;obtain⟨m,⟨o,_,_,A,_⟩,_⟩:=I.loc;exact free _ o (λz=>(g _ z).2.1 rfl) A I.free;obtain⟨v,o,A,F⟩:=I.cell x w e;exact free w o (λz=>(g w z).2.2.1 x w e rfl) A (I.ji x w e);obtain⟨e,n,ne,M,σ⟩:=I.pin p N;have f:=λz=>(g p.1 z).2.2.2 p N rfl;exact⟨keep p.1 p.2 ne M f e n,free p.1 p.2 f e n,ne,M,σ⟩
def Inv.un{H':Hp}(I:Inv X d l a c)(u:Un X.fs [] a H' c.heap h)(w:G5 X.prog X.w H' h):Inv X d l H' {c with heap:=h,toks:=k}:=by
 obtain⟨m,⟨o,H,t,x,r⟩,_⟩:=id I.loc;obtain⟨p,y⟩:=u.any x I.free B3;exact I.step (ch:=[]) (λ_ z=>nomatch z) (λb o _ g _ e n=>u.keep b o e n g B3) (λb o _ g _ e n=>u.slot b o e n g B3) (λb o _ e n=>u.free b o e n B3) (λb o _ e=>u.there b o e B3) u.nt u.mq u.ny (λq i=>by obtain⟨v,σ,f,s,j⟩:=i;rw[x]at s;cases s;exact⟨_,σ,f,y,j⟩) w I.bare
def Inv.call{H':Hp}{d':Drawn}(I:Inv X d l a c)(u:Un (px X.stack) L a H' c.heap h)(E:G5 X.prog X.w H' h)(v:jw e9)(f:∀b∈L,(b∈X.ex\/X.V4.heap.objs.size<=b)/\b≠X.env.locals/\(∀x w,X.env.cells.lookup x=U w->w≠b)/\∀p∈X.pn++d,p.1≠b):
  Inv X d l H' {c with heap:=h,gens:=e9,drawn:=d',toks:=k}:=by
 obtain⟨m,⟨o,y,B,F,r⟩,_⟩:=id I.loc;obtain⟨A,g⟩:=u.any F I.free λz=>(f _ z).2.1 rfl;exact I.step f (λb o g H s e n=>u.keep b o e n (λz=>(List.mem_cons.mp (I.tj b z)).elim g H) s) (λb o _ _ s e n=>u.any e n s) (λb o s e n=>u.free b o e n s) (λb o s e=>u.there b o e s) u.nt u.mq u.ny (λC q=>by obtain⟨D,j,i,σ,t⟩:=q;rw[F]at σ;cases σ;exact⟨_,j,i,g,t⟩) E v
def Inv.turned{s:v5}(I:Inv X d l a s)(E:∀b o,b≠e->s.heap.get? b=U o->h.get? b=U o)(g:a e=J)(f:e≠X.env.locals)(y:e∈X.ex\/X.V4.heap.objs.size<=e)(j:∀x c,X.env.cells.lookup x=U c->c≠e)(H:∀p∈X.pn++d,p.1≠e):Inv X d l a {s with heap:=h,toks:=k}:=by
 have σ:∀b u,a b=U u->b≠e:=λb u F z=>by rw[z,g]at F;exact nE F
 refine I.step (ch:=[e]) (λb A=>?_) (λb o _ _ C F _=>E b o (λz=>C (by simp[z])) F) (λb o _ _ C F _=>⟨o.slots,E b o (λz=>C (by simp[z])) F⟩) (λ_ _ _ _ n=>n)
  (λb o C F=>⟨o,E b o (λz=>C (by simp[z])) F⟩) (λ_ _ F=>F) (λ_ _ _ F=>F) (λb B F=>⟨#[],by rw[F];simp⟩) (λm w=>?_) (λb u F=>?_) I.bare
 . have F:b=e:=by simpa using A
   subst F;exact⟨y,f,j,H⟩
 obtain⟨o,D,t,i,r⟩:=w;exact⟨o,D,t,E _ o (jv f) i,r⟩
 . refine(I.J1 b u F).wo (λc v C q=>E c v ?_ q) (λ_ q=>q) λ_ _ q=>q
   rcases C with z|z
   rw[z];exact σ b u F;exact σ c _ z
def Inv.tok(I:Inv X d l a c)(t:Nat):Inv X d l a {c with toks:=t}:=I.un Un.refl I.J1
theorem Inv.kept(I:Inv X d l a c)(σ:∀b u,c.heap.get? b=U u->h.get? b=U u):Inv X d l a {c with heap:=h,toks:=k}:=I.un (Un.kept σ) (I.J1.kept σ)
theorem Inv.laid{o:HO}{t':Nat}(I:Inv X d l a c)(k:∀b u,c.heap.get? b=U u->h.get? b=U u)(σ:(hz c)<=e)(new:ao X.prog X.w (upd a e o) h e o):
  Inv X d l (upd a e o) {c with heap:=h,toks:=t'}:=I.un (Un.laid k σ (I.J1.fresh σ)) (I.J1.laid k σ new)
theorem Inv.write(s:Inv X d l a c)(mu:Vg (a B))(H:e=B\/a e=U (.own B))(x:∀b u,b≠e->c.heap.get? b=U u->h.get? b=U u)(σ:∃u,h.get? e=U u)(new:ao X.prog X.w (upd a B I) h B I):Inv X d l (upd a B I) {c with heap:=h,toks:=k}:=s.un (Un.write mu H x σ) (s.J1.write mu H x σ new)
def Inv.weak{H:List (Option V)}(I:Inv X d l a c)(g:H.length=l.length)(w:∀(i:Nat) v,H[i]? = U (U v)->l[i]? = U (U v)):Inv X d H a c:=
 ⟨I.ok,I.os,I.bare,I.base,let ⟨m,s,b⟩:=I.loc;⟨m,s,λi x v e f σ=>b i x v e (w i v f) σ⟩,I.cell,I.free,I.ji,I.pin,I.J1,g.trans I.len⟩
def Inv.kx{σ:List (Addr×Obj)}(I:Inv X d l a c)(h:∀p∈σ,c.heap.get? p.1=U p.2/\a p.1=J/\p.1≠X.env.locals/\p.1∉X.fs/\∀v,p.2.data≠.cell v):Inv X σ l a c:=
 ⟨I.ok,I.os,I.bare,I.base,I.loc,I.cell,I.free,I.ji,λp b=>(List.mem_append.mp b).elim (λz=>I.pin p (T9 _ z)) (h p),I.J1,I.len⟩
def CF(d:N.Nodup){j:Nat}(a:N[k]? = U m)(b:N[j]? = U m):k=j:=by obtain⟨g,c⟩:=List.getElem?_eq_some_iff.mp a;obtain⟨f,e⟩:=List.getElem?_eq_some_iff.mp b;exact(Oa d).mp (c.trans e.symm)
def KO{v:V}(I:Inv X d l a c)(hN:X.N.Nodup)(hi:X.N[k]? = U m)(hx:Loc X.env.scope m)(r:RelV v D)(h:∀s',Inv X d (l.set k (U v)) a s'->(∃H,ow H c.heap s'.heap/\(H=X.env.locals\/X.env.cells.lookup m=U H))->b9 () s')(hf:autoParam (X.fn m=Uf\/X.env.scope.names.lookup m=U .local) di):wpAny c7 A (storeName X.env m D) b9 q c:=by
 obtain⟨i,hn,hl⟩:=id I.loc;have hcls:(X.env.scope.kind==.class||(X.env.scope.kind==.module&&X.env.locals != X.env.globals))=U':=by rw[I.ok.kind];rfl
 have hiσ:k<l.length:=by rw[I.len];exact(List.getElem?_eq_some_iff.mp hi).1
 have DM:=I.DM;have tracked:∀{H:Addr} {h':Heap},(∃o,c.heap.get? H=U o/\a H=J)->ow H c.heap h'->G5 X.prog X.w a h':=λ{H h'} ha hs b ob e=>by
  obtain⟨_,_,hfree⟩:=ha;refine(I.J1 b ob e).wo (λs w' hc M=>(hs.2 s ?_).trans M) (λ_ M=>M) λ_ _ M=>M
  rintro rfl;rcases hc with rfl|hc
  rw[hfree]at e;exact nE e;rw[hfree]at hc;exact nE hc
 rcases hx with hk|hk
 . refine wpAny_storeName_local hk hn (λh' hn' hs=>?_) hcls;obtain⟨oL,_,_,hoL,_⟩:=id hn;refine h _ ⟨I.ok,I.os,I.bare,⟨λb o e n hb hx=>?_,λb o e n hb hx=>?_,I.base.free,λb o e hx=>?_,I.base.nt,I.base.mq,I.base.ny⟩,⟨_,hn',λj y v' e1 e2 e3=>?_⟩,λy s e=>?_,I.free,I.ji,λp hp=>?_,tracked ⟨oL,hoL,I.free⟩ hs,by simpa using I.len⟩ ⟨_,hs,.inl rfl⟩;exact(hs.2 b (Q1 (M5 (F6 e) I.ok.above))).trans (I.base.keep b o e n hb hx);obtain⟨sl,e1⟩:=I.base.slot b o e n hb hx;exact⟨sl,(hs.2 b (Q1 (M5 (F6 e) I.ok.above))).trans e1⟩;obtain⟨o',e1⟩:=I.base.there b o e hx;exact⟨o',(hs.2 b (Q1 (M5 (F6 e) I.ok.above))).trans e1⟩
   . by_cases hj:j=k;subst hj;rw[hi]at e1;cases e1;rw[uI hiσ]at e2;cases e2;exact⟨D,r,.inl ⟨hk,by simp⟩⟩
     . rw[hH (jv hj)]at e2;obtain⟨u',r',M⟩:=hl j y v' e1 e2 e3;refine⟨u',r',?_⟩;rcases M with ⟨E,e⟩|⟨E,s,e,z⟩
       refine .inl ⟨E,?_⟩;have:y≠m:=λe=>hj (CF hN e1 (e▸hi));simp[this,e];exact .inr ⟨E,s,e,z.sameBut hs (DM y s e)⟩
   obtain⟨w',z⟩:=I.cell y s e;exact⟨w',z.sameBut hs (DM y s e)⟩;obtain⟨e,n,ne,nf,σ⟩:=I.pin p hp;exact⟨(hs.2 p.1 ne).trans e,n,ne,nf,σ⟩
 . have hfn:X.fn m=Uf:=by
     rcases hf with z|z
     exact z;rw[z]at hk;cases hk
   obtain⟨s,hc⟩:=I.ok.has m (.inl hk);obtain⟨w',z⟩:=I.cell m s hc;refine wpAny_storeName_cell I.ok.kind hk hc z (λh' hc' hs=>?_);obtain⟨oc,hoc,hocd⟩:=id z;refine h {c with heap:=h'} ⟨I.ok,I.os,I.bare,⟨λb o e n hb hx=>?_,λb o e n hb hx=>?_,I.base.free,λb o e hx=>?_,I.base.nt,I.base.mq,I.base.ny⟩,⟨i,hn.sameBut hs (jv (DM m s hc)),λj y v' e1 e2 e3=>?_⟩,λy c' e=>?_,I.free,I.ji,λp hp=>?_,tracked ⟨oc,hoc,I.ji m s hc⟩ hs,by simpa using I.len⟩ ⟨s,hs,.inr hc⟩;exact(hs.2 b (Q1 (M5 (F6 e) (I.ok.Ik m s hfn hc)))).trans (I.base.keep b o e n hb hx);obtain⟨sl,e1⟩:=I.base.slot b o e n hb hx;exact⟨sl,(hs.2 b (Q1 (M5 (F6 e) (I.ok.Ik m s hfn hc)))).trans e1⟩;obtain⟨o',e1⟩:=I.base.there b o e hx;exact⟨o',(hs.2 b (Q1 (M5 (F6 e) (I.ok.Ik m s hfn hc)))).trans e1⟩
   . by_cases hj:j=k;subst hj;rw[hi]at e1;cases e1;rw[uI hiσ]at e2;cases e2;exact⟨D,r,.inr ⟨.inl hk,s,hc,hc'⟩⟩
     . rw[hH (jv hj)]at e2;obtain⟨u',r',M⟩:=hl j y v' e1 e2 e3;refine⟨u',r',?_⟩;rcases M with M|⟨E,c',e,z'⟩
       exact .inl M;refine .inr ⟨E,c',e,z'.sameBut hs ?_⟩;rintro rfl;exact hj (CF hN e1 (I.ok.inj _ _ _ e hc▸hi))
   by_cases hcc:c'=s;subst hcc;exact⟨_,hc'⟩;obtain⟨w2,z2⟩:=I.cell y c' e;exact⟨w2,z2.sameBut hs hcc⟩;obtain⟨e,n,ne,nf,σ⟩:=I.pin p hp;refine⟨(hs.2 p.1 ?_).trans e,n,ne,nf,σ⟩;intro M;rw[M,hoc]at e;exact σ w' (by rw[<-(V0 e)];exact hocd)
def rq{v:V}(I:Inv X d l a c)(s:X.N.Nodup)(H:X.N[k]? = U m)(b:Loc X.env.scope m)(r:RelV v D)(h:∀s',Inv X d (l.set k (U v)) a s'->b9 () s')(e:autoParam (X.fn m=Uf\/X.env.scope.names.lookup m=U .local) di):wpAny c7 A (storeName X.env m D) b9 q c:=
 KO I s H b r (λs' σ _=>h s' σ) e
def Inv.a2n{H':Hp}{s':v5}(I:Inv X d l a c)(f:s'.os=c.os)(u:Un (px X.stack) L a H' c.heap s'.heap)(σ:G5 X.prog X.w H' s'.heap)(e:jw s'.gens)(H:∀b∈L,(b∈X.ex\/X.V4.heap.objs.size<=b)/\b≠X.env.locals/\(∀x s,X.env.cells.lookup x=U s->s≠b)/\∀p∈X.pn++d,p.1≠b):Inv X d l H' s':=by obtain⟨j,h,i,g,k⟩:=s';subst f;exact I.call u σ e H
abbrev XK:=t2->Option Addr->Hp->Prop
variable{b5:XK}
abbrev St:=List (Option V)
variable{n:St}
abbrev VK:=V->Hp->Prop
variable{c9:VK}{i4:List V->Hp->VK->Prop}
abbrev TE:=St->Hp->VK->Prop
variable{t Y:TE}
abbrev TT:=St->Hp->(Bool->Hp->Prop)->Prop
variable{a1:TT}
abbrev TA:=St->Hp->(List V->Hp->Prop)->Prop
variable{S:TA}
structure Ends where
 nx:St->Hp->Prop
 rt:VK
 bk:St->Hp->Prop:=λ_ _=>False
 ct:St->Hp->Prop:=λ_ _=>False
abbrev TS:=Ends->St->Hp->Prop
variable{b8:TS}
def EP(X:Cx)(pins:List (Addr×Obj))(σ:St)(Q:VK)(u:t2)(s':v5):Prop:=∃v H',Inv X pins σ H' s'/\RelV v u/\Q v H'
def TP(X:Cx)(pins:List (Addr×Obj))(σ:St)(Q:Bool->Hp->Prop)(b:Bool)(s':v5):Prop:=∃H',Inv X pins σ H' s'/\Q b H'
def AP(X:Cx)(pins:List (Addr×Obj))(σ:St)(Q:List V->Hp->Prop)(us:List t2)(s':v5):Prop:=∃vs H',Inv X pins σ H' s'/\Vals vs us/\Q vs H'
def SP(X:Cx)(pins:List (Addr×Obj))(D:Ends)(f:Flow)(s':v5):Prop:=
 match f with
 | .next=>∃σ' H',Inv X pins σ' H' s'/\D.nx σ' H'
 | .brk=>∃σ' H',Inv X pins σ' H' s'/\D.bk σ' H'
 | .cont=>∃σ' H',Inv X pins σ' H' s'/\D.ct σ' H'
 | .ret u=>∃v σ' H',Inv X pins σ' H' s'/\RelV v u/\D.rt v H'
def PE(X:Cx)(e:Expr)(t:TE):Prop:=
 ∀(pins:List (Addr×Obj)) (s:v5) (σ:St) (H:Hp) (Q:VK),Inv X pins σ H s->t σ H Q->wpAny (model X.prog X.w) X.A (eval e X.env) (EP X pins σ Q) X.xe s
def PT(X:Cx)(e:Expr)(t:TT):Prop:=
 ∀(pins:List (Addr×Obj)) (s:v5) (σ:St) (H:Hp) (Q:Bool->Hp->Prop),Inv X pins σ H s->t σ H Q->wpAny (model X.prog X.w) X.A (isTrue e X.env (eval e X.env)) (TP X pins σ Q) X.xe s
def PW(X:Cx)(e:Expr)(t:TT):Prop:=
 ∀(whole:Sem t2) (pins:List (Addr×Obj)) (s:v5) (σ:St) (H:Hp) (Q:Bool->Hp->Prop),Inv X pins σ H s->t σ H Q->wpAny (model X.prog X.w) X.A (isTrue e X.env whole) (TP X pins σ Q) X.xe s
def PW.pt(h:PW X o a1):PT X o a1:=h _
def PA(X:Cx)(es:List Expr)(t:TA):Prop:=
 ∀(pos:Pos) (pins:List (Addr×Obj)) (s:v5) (σ:St) (H:Hp) (Q:List V->Hp->Prop),Inv X pins σ H s->t σ H Q->wpAny (model X.prog X.w) X.A (spliced (F9 pos (v7 es X.env))) (AP X pins σ Q) X.xe s
def PS(X:Cx)(st:Stmt)(t:TS):Prop:=
 ∀(pins:List (Addr×Obj)) (s:v5) (σ:St) (H:Hp) (D:Ends),Inv X pins σ H s->t D σ H->wpAny (model X.prog X.w) X.A (exec st X.env) (SP X pins D) X.xe s
def pC(X:Cx)(st:List Stmt)(t:TS):Prop:=
 ∀(pins:List (Addr×Obj)) (s:v5) (σ:St) (H:Hp) (D:Ends),Inv X pins σ H s->t D σ H->wpAny (model X.prog X.w) X.A (execs st X.env) (SP X pins D) X.xe s
def F1{t:Sem d6}{Q b:d6->v5->Prop}(h:wpAny c7 A t Q q c)(d:∀a c,Q a c->b a c):wpAny c7 A t b q c:=bP h d λ_ _ x=>x
def P7(i:Nat):TE:=λσ H Q=>∃v,σ[i]? = U (U v)/\Q v H
def tC(v:V):TE:=λ_ H Q=>Q v H
def ZK(w:X.N[k]? = U m)(o:Vc X.env.scope m)(hd:autoParam ((m==("__debug__" : Str))=U') F8)(g:autoParam ((m==("__classdict__" : Str))=U') F8):PE X (.Name m p) (P7 k):=by
 intro f s t H Q I h;obtain⟨v,e,h⟩:=h;obtain⟨x,i,q⟩:=I.loc;obtain⟨u,r,l⟩:=q k m v w e o;have d:EP X f t Q u s:=⟨v,H,I,r,h⟩;rcases l with ⟨b,n⟩|⟨b,c,j,a⟩
 exact wpAny_Name (wpAny_loadName_local I.ok.kind b i n d) hd
 . rcases b with b|b
   exact wpAny_Name (wpAny_loadName_cell I.ok.kind b j a d) hd;exact wpAny_Name (wpAny_loadName_free I.ok.kind b j a d g) hd
def ZQ{i j pos}:PE X (.Constant (.int i) j pos) (tC (.int i)):=λ_ _ _ H _ I h=>wpAny_Constant_int ⟨.int i,H,I.tok _,⟨_,rfl⟩,h⟩
def a1Q{b j pos}:PE X (.Constant (.bool b) j pos) (tC (.bl b)):=λ_ _ _ H _ I h=>Constant_bool ⟨.bl b,H,I,rfl,h⟩
def ZO{j pos}:PE X (.Constant .none j pos) (tC .non):=λ_ _ _ H _ I h=>Constant_none ⟨.non,H,I,rfl,h⟩
def ZL{x j pos}:PE X (.Constant (.str x) j pos) (tC (.str x)):=λ_ _ _ H _ I h=>Calls.Constant_str ⟨.str x,H,I.tok _,⟨_,rfl⟩,h⟩
def Gl(X:Cx)(x:Str):Prop:=X.env.kindOf x=U .globalImplicit
def zW{H:Hp}{Q:t2->v5->Prop}(I:Inv X d n H c)(E:Gl X m)(b:X.mg m=U D)(h:Q D c)(hd:autoParam ((m==("__debug__" : Str))=U') F8):wpAny (model X.prog X.w) X.A (eval (.Name m p) X.env) Q q c:=
 Ph I.ok.kind E (Calls.loadGlobal_global (by rw[I.ok.glob];exact I.mod.glob.keeps I.bk) b h) hd
def gE{Q:t2->v5->Prop}(I:Inv X d n a c)(f:Gl X m)(s:X.mg m=J)(E:dZ m=U D)(h:Q D c)(b:autoParam (m ≠ "__name__") F8)(hd:autoParam ((m==("__debug__" : Str))=U') F8):wpAny (model X.prog X.w) X.A (eval (.Name m p) X.env) Q q c:=by obtain⟨i,g,e⟩:=I.mod.blt;exact Ph I.ok.kind f (Calls.loadGlobal_builtin (by rw[I.ok.glob];exact I.mod.glob.keeps I.bk) s (by rw[I.ok.blt];exact g.keeps I.bk) ((e m b).trans E) h) hd
def WG(b:Gl X m)(a:X.mg m=U D)(r:RelV M D)(hd:autoParam ((m==("__debug__" : Str))=U') F8):PE X (.Name m p) (tC M):=
 λ_ _ _ H _ I h=>zW I b a ⟨M,H,I,r,h⟩ hd
def qa{v:V}(c:Gl X m)(a:X.mg m=J)(d:dZ m=U D)(r:RelV v D)(b:autoParam (m ≠ "__name__") F8)(hd:autoParam ((m==("__debug__" : Str))=U') F8):PE X (.Name m p) (tC v):=
 λ_ _ _ H _ I h=>gE I c a d ⟨v,H,I,r,h⟩ b hd
def PC(X:Cx)(op:CmpOp)(a b:Expr)(t:TE):Prop:=
 ∀(pins:List (Addr×Obj)) (s:v5) (σ:St) (H:Hp) (Q:VK),Inv X pins σ H s->t σ H Q ->
  wpAny (model X.prog X.w) X.A (eval a X.env) (λv s₁=>wpAny (model X.prog X.w) X.A (eval b X.env) (λu s₂=>wpAny (model X.prog X.w) X.A (W5 op v u) (EP X pins σ Q) X.xe s₂) X.xe s₁) X.xe s
def tB(t:TE):TT:=λσ H Q=>t σ H λx H1=>∃c,x=.bl c/\Q c H1
def Zx(h:PE X o t)(f:autoParam (∀a,isTrue o X.env a=(do let v <- a;dw o.pos;holding [v] (truthy v))) W0):PT X o (tB t):=by
 intro b s i H Q I c;refine isTrue_plain (F1 (h b s i H _ I c) λv m ⟨x,j,k,g,l⟩=>?_) (f _);obtain⟨d,rfl,q⟩:=l;cases g;exact lX ⟨j,k,q⟩
def Qi(t u:TT):TT:=λσ H Q=>t σ H λc H1=>if c=Uf then u σ H1 Q else Q U' H1
def YD(t u:TT):TT:=λσ H Q=>t σ H λc H1=>if c=Uf then Q Uf H1 else u σ H1 Q
def Qg(t:TT):TT:=λσ H Q=>t σ H λc H1=>Q (!c) H1
def pw_and1(f:PT X o a1):PW X (.BoolOp .And [o] p) a1:=by
 intro wh b s d H Q I h;refine isTrue_and (F1 (f b s d H Q I h) λc g e=>?_)
 cases c with
 |true=>exact isTrue_and_nil e
 |false=>exact e
def pw_or1(f:PT X o a1):PW X (.BoolOp .Or [o] p) a1:=by
 intro wh b s d H Q I h;refine isTrue_or (F1 (f b s d H Q I h) λc g e=>?_)
 cases c with
 |false=>exact isTrue_or_nil e
 |true=>exact e
def pw_and{tB':TT}(l:PT X o a1)(k:PW X (.BoolOp .And (Z::G) p) tB'):PW X (.BoolOp .And (o::Z::G) p) (Qi a1 tB'):=by
 intro wh d s e H Q I h;refine isTrue_and (F1 (l d s e H _ I h) λc j ⟨f,g,i⟩=>?_)
 cases c with
 |true=>exact k wh d j e f Q g i
 |false=>exact⟨f,g,i⟩
def pw_or{tB':TT}(l:PT X o a1)(k:PW X (.BoolOp .Or (Z::G) p) tB'):PW X (.BoolOp .Or (o::Z::G) p) (YD a1 tB'):=by
 intro wh d s e H Q I h;refine isTrue_or (F1 (l d s e H _ I h) λc j ⟨f,g,i⟩=>?_)
 cases c with
 |true=>exact⟨f,g,i⟩
 |false=>exact k wh d j e f Q g i
def Zy(f:PT X o a1):PT X (.UnaryOp .Not o p) (Qg a1):=by exact λb s d H Q I h=>isTrue_not (f b s d H (λc e=>Q (!c) e) I h)
def Us(ta tb:TE):TE:=λσ H Q=>ta σ H λx H1=>∃c,x=.bl c/\if c=Uf then tb σ H1 Q else Q (.bl U') H1
def YC(ta tb:TE):TE:=λσ H Q=>ta σ H λx H1=>∃c,x=.bl c/\if c=Uf then Q (.bl Uf) H1 else tb σ H1 Q
def Uo(ta:TE):TE:=λσ H Q=>ta σ H λx H1=>∃c,x=.bl c/\Q (.bl (!c)) H1
def ZM{op}(h:PE X o t):PE X (.BoolOp op [o] p) t:=λb s c H Q I d=>BoolOp_one (h b s c H Q I d)
def ZS(m:PE X o t)(l:PE X (.BoolOp .And (Z::G) p) Y):PE X (.BoolOp .And (o::Z::G) p) (Us t Y):=by
 intro d s f H Q I h;refine BoolOp_and (F1 (m d s f H _ I h) λv k ⟨x,g,i,j,e⟩=>?_)
 obtain⟨c,rfl,e⟩:=e;cases j;refine lX ?_;cases c with
 |true=>exact l d k f g Q i e
 |false=>exact⟨.bl U',g,i,rfl,e⟩
def a1O(m:PE X o t)(l:PE X (.BoolOp .Or (Z::G) p) Y):PE X (.BoolOp .Or (o::Z::G) p) (YC t Y):=by
 intro d s f H Q I h;refine BoolOp_or (F1 (m d s f H _ I h) λv k ⟨x,g,i,j,e⟩=>?_)
 obtain⟨c,rfl,e⟩:=e;cases j;refine lX ?_;cases c with
 |false=>exact l d k f g Q i e
 |true=>exact⟨.bl Uf,g,i,rfl,e⟩
def ZN(j:PE X o t):PE X (.UnaryOp .Not o p) (Uo t):=by
 intro b s f H Q I h;refine UnaryOp_ (F1 (j b s f H _ I h) λv k ⟨x,g,i,e,d⟩=>?_);obtain⟨c,rfl,d⟩:=d;cases e;exact not_of (lX ⟨.bl (!c),g,i,rfl,d⟩)
def tIf(t:TT)(ta tb:TE):TE:=λσ H Q=>t σ H λc H1=>if c=Uf then ta σ H1 Q else tb σ H1 Q
def Rz{c:Expr}(l:PT X c a1)(n:PE X o t)(m:PE X Z Y):PE X (.IfExp c o Z p) (tIf a1 t Y):=by
 intro e s f H Q I h;refine wpAny_IfExp (F1 (l e s f H _ I h) λd g ⟨i,j,k⟩=>?_)
 cases d with
 |true=>exact n e g f i Q j k
 |false=>exact m e g f i Q j k
def M8(K:v9)(H:Hp)(a:Addr)(xs:List V):Prop:=
 Rd H a (.lst xs) \/
  ∃(o:Obj) (its:Array t2) (n:Nat),K.lookup a=U o/\o.cls=.type "list"/\o.dict=J/\o.data=.seq its n/\its.size<=E6/\Vals xs its.toList
def X9(K:v9)(H:Hp)(a:Addr)(xs:List V):Prop:=
 Rd H a (.tup xs) \/
  ∃(o:Obj) (its:Array t2) (n:Nat),K.lookup a=U o/\o.cls=.type "tuple"/\o.data=.seq its n/\its.size<=E6/\Vals xs its.toList
noncomputable def a3H:t2->Option V
 | .none=>U .non
 | .bool b=>U (.bl b)
 | .int i _=>U (.int i)
 | .str x _=>U (.str x)
 | .bytes b _=>U (.byt b)
 | .float b _=>U (.flt b)
 | .ref a=>U (.ref a)
 | .type n=>U (.ty n)
 |_=>J
def RelV.abs(r:RelV M D):a3H D=U M:=by
 cases M with
 |non=>cases r;rfl
 |bl _=>cases r;rfl
 |int _=>obtain⟨t,rfl⟩:=r;rfl
 |str _=>obtain⟨t,rfl⟩:=r;rfl
 |byt _=>obtain⟨t,rfl⟩:=r;rfl
 |flt _=>obtain⟨t,rfl⟩:=r;rfl
 |ref _=>cases r;rfl
 |ty _=>cases r;rfl
def RelV.inj{y:V}(r:RelV M D)(q:RelV y D):M=y:=V0 (r.abs.symm.trans q.abs)
theorem Vals.inj{xs ys:List V}{us:List t2}(h:Vals xs us):Vals ys us->xs=ys:=by
 induction h generalizing ys with
 |nil=>intro k;cases k;rfl
 |cons r t i=>intro k;cases k with
  |cons q s=>rw[r.inj q,i s]
def M8.of(h:a e=U (.lst r)):M8 O a e r:=.inl (.inl h)
def X9.of(h:a e=U (.tup r)):X9 O a e r:=.inl (.inl h)
def Inv.list(I:Inv X d n a c)(h:M8 X.K a e r):∃b:List t2,Vals r b/\PlainL c.heap e b.toArray/\r.length<=E6:=by
 rcases h with h|⟨o,b,H,g,f,s,σ,i,k⟩
 obtain⟨z,b,H,k,j⟩:=h.ok I.J1;exact⟨b,k,⟨_,H,j,rfl,rfl,rfl⟩,z⟩;refine⟨b.toList,k,⟨o,H,I.gF e o g,f,s,by simpa using σ⟩,?_⟩;have j:=k.length;simp only[Fs]at j;simp[*]
def Inv.tuple(I:Inv X d n a c)(h:X9 X.K a e r):∃b:List t2,Vals r b/\gJ c.heap e b.toArray/\r.length<=E6:=by
 rcases h with h|⟨o,b,H,f,σ,s,g,j⟩
 obtain⟨z,b,j,p⟩:=h.ok I.J1;exact⟨b,j,p,z⟩;refine⟨b.toList,j,⟨o,I.gF e o f,σ,H,by simpa using s⟩,?_⟩;have i:=j.length;simp only[Fs]at i;simp[*]
def Inv.wH{ys:List V}(I:Inv X d n a c)(h:M8 X.K a e r)(h':M8 X.K a e ys):r=ys:=by
 obtain⟨s,m,⟨o,H,l,_,_,σ⟩,_⟩:=I.list h;obtain⟨b,i,⟨k,j,g,_,_,f⟩,_⟩:=I.list h';rw[l]at g;cases g;rw[σ]at f;injection f with d1 _
 have:s=b:=by simpa using B9 Array.toList d1
 subst this;exact m.inj i
def Inv.AA{ys:List V}(I:Inv X d n a c)(h:X9 X.K a e r)(h':X9 X.K a e ys):r=ys:=by
 obtain⟨s,m,⟨o,l,_,H,σ⟩,_⟩:=I.tuple h;obtain⟨b,i,⟨k,g,_,j,f⟩,_⟩:=I.tuple h';rw[l]at g;cases g;rw[σ]at f;injection f with d1 _
 have:s=b:=by simpa using B9 Array.toList d1
 subst this;exact m.inj i
abbrev Cx.pL(X:Cx)(E:t2->v5->Prop):Cx:={X with xe:=E}
abbrev Cx.AI(X:Cx):Cx:=X.pL λ_ _=>False
theorem Cx.Ok.pL(ok:X.Ok)(E:t2->v5->Prop):(X.pL E).Ok:=
 ⟨ok.mod,ok.kind,ok.glob,ok.blt,ok.above,ok.inj,ok.has,ok.Ik,ok.hd,ok.frames,ok.KQ,ok.UQ,ok.bs,ok.sG,ok.wG,ok.Aj,ok.kC,ok.AY⟩
def Cx.Ok.lr(ok:(X.pL q).Ok):X.Ok:=
 ⟨ok.mod,ok.kind,ok.glob,ok.blt,ok.above,ok.inj,ok.has,ok.Ik,ok.hd,ok.frames,ok.KQ,ok.UQ,ok.bs,ok.sG,ok.wG,ok.Aj,ok.kC,ok.AY⟩
theorem Inv.pL(I:Inv X d n a c)(E:t2->v5->Prop):Inv (X.pL E) d n a c:=⟨I.ok.pL E,I.os,I.bare,I.base,I.loc,I.cell,I.free,I.ji,I.pin,I.J1,I.len⟩
theorem Inv.lr(I:Inv (X.pL q) d n a c):Inv X d n a c:=⟨I.ok.lr,I.os,I.bare,I.base,I.loc,I.cell,I.free,I.ji,I.pin,I.J1,I.len⟩
theorem SP.lr{X:Cx}{pins:List (Addr×Obj)}{E:t2->v5->Prop}{D:Ends}{f:Flow}{s':v5}(h:SP (X.pL E) pins D f s'):SP X pins D f s':=by
 cases f with
 |next=>obtain⟨a,b,I,q⟩:=h;exact⟨a,b,I.lr,q⟩
 |brk=>obtain⟨a,b,I,q⟩:=h;exact⟨a,b,I.lr,q⟩
 |cont=>obtain⟨a,b,I,q⟩:=h;exact⟨a,b,I.lr,q⟩
 |ret u=>obtain⟨v,a,b,I,r,q⟩:=h;exact⟨v,a,b,I.lr,r,q⟩
theorem pC.AI(h:pC X.AI b7 b8):pC X b7 b8:=λa s c H D I d =>
 bP (h a s c H D (I.pL _) d) (λ_ _ q=>q.lr) λ_ _ z=>dA z
def Up:TS:=λD σ H=>D.nx σ H
def Yz(t u:TS):TS:=λD σ H=>t {D with nx:=u D} σ H
def Wu:pC X [] Up:=λ_ _ a H _ I h=>yV ⟨a,H,I,h⟩
def Rh{u:TS}(i:PS X d8 b8)(d:pC X b7 u):pC X (d8::b7) (Yz b8 u):=by
 intro a s c H D I h;refine wpAny_execs_cons (F1 (i a s c H {D with nx:=u D} I h) λf g q=>?_)
 cases f with
 |next =>
  obtain⟨b,j,e,q⟩:=q;exact d a g b j D e q
 |ret v=>exact q
 |brk=>exact q
 |cont=>exact q
def Wt(c:PS X d8 b8):pC X [d8] b8:=by
 intro a s b H D I h;refine wpAny_execs_cons (F1 (c a s b H D I h) λf d q=>?_)
 cases f with
 |next=>exact yV q
 |ret v=>exact q
 |brk=>exact q
 |cont=>exact q
def Inv.quiet{H:Hp}(I:Inv X d n H c):interactive X.env=U':=by simp[interactive,I.ok.kind]
def uZ(te:TE):TS:=λD σ H=>te σ H λ_ H1=>D.nx σ H1
def pZ(c:PE X o t)(hs:autoParam (bS o J p.line X.env=pure U') t5):PS X (.Expr o p) (uZ t):=by exact λa s b H D I h=>wpAny_Expr_any (F1 (c a s b H _ I h) λv j ⟨x,d,f,i,g⟩=>⟨b,d,f,g⟩) I.quiet hs
def Qf(te:TE):TS:=λD σ H=>te σ H D.rt
def LC(f:PE X o t):PS X (.Return (U o) p) (Qf t):=by exact λa s b H D I h=>wpAny_Return_some (F1 (f a s b H _ I h) λv j ⟨x,c,d,i,g⟩=>⟨x,b,c,d,i,g⟩)
def Ul:TS:=λD _ H=>D.rt .non H
def Wv:PS X (.Return J p) Ul:=λ_ _ a H _ I h=>wpAny_Return_none ⟨.non,a,H,I,rfl,h⟩
def YF(c:TT)(t u:TS):TS:=λD σ H=>c σ H λb H1=>if b=Uf then t D σ H1 else u D σ H1
def a1M{u:TS}{b:List Stmt}(m:PT X o a1)(t:pC X b7 b8)(n:pC X b u):PS X (.If o b7 b p) (YF a1 b8 u):=by
 intro e s f H D I h;refine wpAny_If (F1 (m e s f H _ I h) λd g ⟨i,j,k⟩=>?_)
 cases d with
 |true=>exact t e g f i D j k
 |false=>exact n e g f i D j k
def KH:TS:=λ_ _ _=>False
def Rj:PS X d8 KH:=λ_ _ _ _ _ _ h=>h.elim
abbrev TG:=V->St->Hp->(St->Hp->Prop)->Prop
abbrev vU:=List V->St->Hp->(St->Hp->Prop)->Prop
def PG(X:Cx)(target:Expr)(t:TG):Prop:=
 ∀(pins:List (Addr×Obj)) (s:v5) (σ:St) (H:Hp) (v:V) (u:t2) (Q:St->Hp->Prop),Inv X pins σ H s->RelV v u->t v σ H Q ->
  wpAny (model X.prog X.w) X.A (assign target X.env u) (λ_ s'=>∃σ' H',Inv X pins σ' H' s'/\Q σ' H') X.xe s
def NH(X:Cx)(ts:List Expr)(t:vU):Prop:=
 ∀(pins:List (Addr×Obj)) (s:v5) (σ:St) (H:Hp) (vs:List V) (us:List t2) (Q:St->Hp->Prop),Inv X pins σ H s->Vals vs us->t vs σ H Q ->
  wpAny (model X.prog X.w) X.A (assignInOrder ((jy ts X.env).map (·.2)) us) (λ_ s'=>∃σ' H',Inv X pins σ' H' s'/\Q σ' H') X.xe s
abbrev TL:=V->V->V->Hp->(Hp->Prop)->Prop
def a1i(X:Cx)(t:TL):Prop:=
 ∀(pins:List (Addr×Obj)) (s:v5) (σ:St) (H:Hp) (o i v:V) (ov iv u:t2) (Q:Hp->Prop),Inv X pins σ H s->RelV o ov->RelV i iv->RelV v u->t o i v H Q ->
  wpAny (model X.prog X.w) X.A (setItem ov iv u) (λ_ s'=>∃H',Inv X pins σ H' s'/\Q H') X.xe s
def aJ(i:Nat):TG:=λv σ H Q=>Q (σ.set i (U v)) H
def Hg(d:X.N.Nodup)(b:X.N[k]? = U m)(c:Loc X.env.scope m)(f:autoParam (X.fn m=Uf\/X.env.scope.names.lookup m=U .local) di):PG X (.Name m p) (aJ k):=by exact λa s g H v u Q I r h=>wpAny_assign_Name (rq I d b c r (λj e=>⟨_,H,e,h⟩) f)
def JM:vU:=λvs σ H Q=>vs=[]/\Q σ H
def rH(t:TG)(u:vU):vU:=λvs σ H Q=>∃v r,vs=v::r/\t v σ H λσ' H'=>u r σ' H' Q
def WD:NH X [] JM:=by intro a s b H d c Q I r h;obtain⟨e,h⟩:=h;subst e;cases r;exact assignInOrder_nil ⟨b,H,I,h⟩
def Rv{t:TG}{u:vU}(i:PG X o t)(d:NH X G u)(hs:autoParam ((jy (o::G) X.env).map (·.2)=assign o X.env::(jy G X.env).map (·.2)) t5):NH X (o::G) (rH t u):=by
 intro a s f H e p Q I r h;obtain⟨v,n,j,h⟩:=h;subst j;cases r with
 |cons r c =>
  rw[hs];refine Fn (F1 (i a s f H _ _ _ I r h) λ_ g ⟨b,k,l,m⟩=>?_);exact d a g b k _ _ Q l c m
def Af(K:v9)(n:Nat)(t:vU):TG:=λv σ H Q=>∃a xs,v=.ref a/\X9 K H a xs/\xs.length=n/\t xs σ H Q
def ZJ{t:vU}{n:Nat}(z:X.calm=Uf)(h:NH X G t)(j:autoParam ((jy G X.env).length=n) t5)(d:autoParam ((jy G X.env).findIdx? (·.1)=J) t5):PG X (.Tuple G k p) (Af X.K n t):=by
 intro c s g H v u Q I r f;obtain⟨a,x,y,hq,C,f⟩:=f;subst y;cases r;obtain⟨A,i,l,B⟩:=I.tuple hq;refine assign_Tuple_tuple (I.ok.hd z) l (by simp[j,<-C,i.length]) d λw m=>?_;have q:Inv X c g H {s with heap:=w}:=I.kept λb o e=>m b o (Q1 (F6 e)) e;exact h c _ g H x _ Q q (by simpa using i) f
def JL(to ti:TE)(t:TL):TG:=λv σ H Q=>to σ H λo H1=>ti σ H1 λi H2=>t o i v H2 λH3=>Q σ H3
def Cr {e:TL} (j:PE X o t) (g:PE X Z Y) (hs:a1i X e) (F:autoParam (∀v,assign (.Subscript o Z p) X.env v=(do
   let b <- holding [v] (eval o X.env)
   let c <- holding [v,b] (eval Z X.env)
   dw p
   holding [v,b,c] (setItem b c v)
   release [v,b,c] [])) W0):PG X (.Subscript o Z p) (JL t Y e):=by
 intro a s d H v u Q I r h;refine u4 (fy (F1 (j a s d H _ I h) λb m ⟨x,B,n,z,C⟩=>?_));refine u4 (fy (F1 (g a m d B _ n C) λc w ⟨y,q,l,i,q2⟩=>?_));refine u4 (yO (u4 (fy (F1 (hs a w d q x y v b c u _ l z i r q2) λ_ E ⟨A,D,k⟩=>?_))));exact wpAny_release ⟨d,A,D,k⟩
def iT(te:TE)(g:TG):TS:=λD σ H=>te σ H λx H1=>g x σ H1 D.nx
def Cn{g:TG}(f:PE X Z t)(j:PG X o g)(hs:autoParam (qN [o] Z p.line X.env=pure U') t5)(d:autoParam (qM [o] Z X.env=pure J) t5)(l:autoParam ((jy [o] X.env).map (·.2)=[assign o X.env]) t5):PS X (.Assign [o] Z p) (iT t g):=by
 intro a s c H D I h;refine wpAny_Assign_stores (F1 (f a s c H _ I h) λv k ⟨x,m,n,i,e⟩=>?_) hs d;rw[l];exact F1 (j a k c m x v _ n i e) λ_ b q=>q
def LB(g:X.N.Nodup)(c:X.N[k]? = U m)(f:Loc X.env.scope m)(d:PE X o t)(hs:autoParam (bS o (U (.Name m R)) p.line X.env=pure U') t5)(n:autoParam (X.fn m=Uf\/X.env.scope.names.lookup m=U .local) di):
  PS X (.Assign [.Name m R] o p) (iT t (aJ k)):=by
 intro b s l H D I h;refine wpAny_Assign_Name (F1 (d b s l H _ I h) λv r ⟨y,e,a,x,i⟩=>?_) hs;exact rq a g c f x (λq j=>⟨_,e,j,i⟩) n
def YA(i j:Nat)(ta:TA):TS:=λD σ H=>ta σ H λvs H1=>∃v w,vs=[v,w]/\D.nx ((σ.set i (U v)).set j (U w)) H1
def ZC{j:Nat}{y:Str}{f pt:Pos}{kt k2 pt2}(V:X.calm=Uf)(z:X.N.Nodup)(F:X.N[k]? = U m)(G:X.N[j]? = U y)(n:k≠j)(t:X.env.scope.names.lookup m=U .local)(A:X.env.scope.names.lookup y=U .local)(W:PA X [o,Z] S)(Q:qM [.Tuple [.Name m R,.Name y f] kt pt] (.Tuple [o,Z] k2 pt2) X.env=pure (U [m,y]))(hs:autoParam (qN [.Tuple [.Name m R,.Name y f] kt pt] (.Tuple [o,Z] k2 pt2) p.line X.env=pure U') t5):
  PS X (.Assign [.Tuple [.Name m R,.Name y f] kt pt] (.Tuple [o,Z] k2 pt2) p) (YA k j S):=by
 intro c s u H D I h;refine u4 (yO ?_);refine u4 (z6 ?_);refine u4 (Tuple_ (F1 (W _ c s u H _ I h) λM d ⟨b,B,O,N,x⟩=>?_))
 obtain⟨v,w,T,x⟩:=x;subst T;obtain⟨u1,u2,rfl,C,l⟩:∃u1 u2,M=[u1,u2]/\RelV v u1/\RelV w u2:=by
  cases N with
  |cons i q =>
   cases q with
   |cons E L =>
    cases L;exact⟨_,_,rfl,i,E⟩
 refine lW ?_ (by show 2<=E6;decide);have K:Inv X c u B {d with heap:=d.heap.push {cls:=.type "tuple",data:=.seq [u1,u2].toArray}}:=O.kept λZ a e=>G0 _ e;rw[Q];refine u4 (z6 ?_);refine u4 (lO (u4 (unpackItems_tuple (items:=#[u1,u2]) (I.ok.hd V) (yz d.heap _) λh' g=>?_)));refine u4 (Fn (wpAny_bindName (rq (K.kept λZ a e=>g Z a (Q1 (F6 e)) e) z G (.inl A) l (λs2 P=>?_) (.inr A))));refine Fn (wpAny_bindName (rq P z F (.inl t) C (λY r=>assignInOrder_nil (z6 ?_)) (.inr t)));rw[List.set_comm _ _ (jv n)]at r;exact⟨_,B,r,x⟩
def KG(c:TT)(tb:TS):TS:=λD σ H=>∃W:Nat->St->Hp->Prop,(∃m,W m σ H)/\∀m σ H,W m σ H ->
 c σ H λb H1=>if b=Uf then ∃N:St->Hp->Prop,(∀σ' H',N σ' H'->∃m',m'<m/\W m' σ' H')/\tb {D with nx:=N,ct:=N,bk:=D.nx} σ H1 else D.nx σ H1
def Ri(t:ug (model X.prog X.w) X.A X.env X.xe)(P:PT X o a1)(Q:pC X b7 b8):PS X (.While o b7 [] p) (KG a1 b8):=by
 intro d s E H D I h;obtain⟨W,⟨m0,F⟩,turn⟩:=h;refine wpAny_While (codeAny_whileLoop (λn O=>∃i C,Inv X d i C O/\W n i C) ?_ m0 ⟨E,H,I,F⟩);rintro n G ⟨e,z,K,L⟩;refine oA t (F1 (P d G e z _ K (turn n e z L)) λb M ⟨u,r,q2⟩=>?_)
 cases b with
 |true =>
  obtain⟨N,y,q2⟩:=q2;refine oA t (F1 (Q d M e u _ r q2) λf R k=>?_)
  cases f with
  |next =>
   obtain⟨a,j,q,l⟩:=k;obtain⟨c,g,m⟩:=y a j l;exact⟨c,g,a,j,q,m⟩
  |cont =>
   obtain⟨a,j,q,l⟩:=k;obtain⟨c,g,m⟩:=y a j l;exact⟨c,g,a,j,q,m⟩
  |brk=>exact k
  |ret v=>exact k
 |false =>
  exact yV ⟨e,u,r,q2⟩
structure It where
 go:Nat->Hp->Prop
 Ub:Nat->Hp->V->Hp->Prop
 stop:Nat->Hp->Prop
def mz(X:Cx)(pins:List (Addr×Obj))(H:Hp)(b:Addr):Prop:=
 H b=J/\b≠X.env.locals/\b∉X.fs/\(b∈X.ex\/X.V4.heap.objs.size<=b)/\(∀x c,X.env.cells.lookup x=U c->c≠b)/\∀p∈X.pn++pins,p.1≠b
def Inv.wK{H':Hp}(I:Inv X d n a c)(H:(hz c)<=e)(f:H' e=J):mz X d H' e:=by
 refine⟨f,ar (M5 I.lt H),I.RY H,.inr (B6 I.sz H),λx s b z=>?_,λp g z=>?_⟩;obtain⟨v,q⟩:=I.cell x s b;exact absurd (M5 q.lt (by rw[z];exact H)) (U9 _);exact absurd (M5 (F6 (I.pin p g).1) (by rw[z];exact H)) (U9 _)
structure Turn(P:L9)(w:E1)(K:v9)(tg:Expr)(Jff:It)(fp:List Addr)(it:Addr)(tn:Nat->Heap->Prop):Prop where
 mem:it∈fp
 obj:∀i h,tn i h->∀b∈fp,∃o,h.get? b=U o/\∀v,o.data≠.cell v
 keep:∀i h h',tn i h->(∀b∈fp,∀o,h.get? b=U o->h'.get? b=U o)->tn i h'
 item:∀(X:Cx),X.prog=P->X.w=w->X.K=K->X.calm=Uf->∀(i:Nat) (pins:List (Addr×Obj)) (s:v5) (σ:St) (H:Hp) (E:t2->v5->Prop),Inv X pins σ H s->(∀b∈fp,mz X pins H b)->tn i s.heap->Jff.go i H ->
  wpAny (model P w) X.A (oi (.ref it)) (λr s1=>∃u,r=U u /\
   wpAny (model P w) X.A (EL tg (.ref it) u) (λ_ s2=>∃x H',Inv X pins σ H' s2/\RelV x u/\Jff.Ub i H x H'/\tn (i+1) s2.heap/\∀b∈fp,H' b=J) E s1) E s
 done:∀(X:Cx),X.prog=P->X.w=w->X.K=K->X.calm=Uf->∀(i:Nat) (pins:List (Addr×Obj)) (s:v5) (σ:St) (H:Hp) (E:t2->v5->Prop),Inv X pins σ H s->(∀b∈fp,mz X pins H b)->tn i s.heap->Jff.stop i H ->
  wpAny (model P w) X.A (oi (.ref it)) (λr s1=>r=J/\Inv X pins σ H s1) E s
 self:∀(A:Z4) (i:Nat) (s:v5) (Q:t2->v5->Prop) (E:t2->v5->Prop),tn i s.heap->Q (.ref it) s->wpAny (model P w) A (pyIter (.ref it)) Q E s
abbrev TI:=St->Hp->(It->Hp->Prop)->Prop
def PIE(X:Cx)(pins:List (Addr×Obj))(σ:St)(tg:Expr)(R:It->Hp->Prop)(itv:t2)(s2:v5):Prop:=
 ∃(it:Addr) (fp:List Addr) (tn:Nat->Heap->Prop) (Jff:It) (H':Hp),itv=.ref it/\Inv X pins σ H' s2/\Turn X.prog X.w X.K tg Jff fp it tn/\tn 0 s2.heap/\(∀b∈fp,mz X pins H' b)/\R Jff H'
def PI(X:Cx)(tg iter:Expr)(wi:TI):Prop:=
 ∀(pins:List (Addr×Obj)) (s:v5) (σ:St) (H:Hp) (R:It->Hp->Prop),Inv X pins σ H s->wi σ H R ->
  wpAny (model X.prog X.w) X.A (eval iter X.env) (λv s1=>wpAny (model X.prog X.w) X.A (pyIter v) (PIE X pins σ tg R) X.xe s1) X.xe s
def BF{n:String}{vs:Array t2}(d:c.heap.get? e=U b6)(E:b6.cls=.type n)(hd:b6.data=.fields vs)(M:["enumerate","zip","dict_itemiterator","dict_reverseitemiterator","odict_iterator","itertools.zip_longest","itertools.pairwise"].contains n=U')(a:b9 () c):wpAny c7 A (EL o (.ref e) D) b9 q c:=by
 cases o<;>first
  |exact z6 a
  |(cases D<;>first
    |exact z6 a
    | (refine u4 (wpAny_load d ?_)
       rw[E,hd];show wpAny c7 A (if (["enumerate","zip","dict_itemiterator","dict_reverseitemiterator","odict_iterator","itertools.zip_longest","itertools.pairwise"].contains n&&vs[0]?==U (Z3 _))=Uf then _ else _) b9 q c;rw[f6 (by intro h;rw[M,Ez]at h;exact nT h)]
       exact z6 a))
def Itl(K:v9)(a:Addr):It:=
 ⟨λi H=>∃xs x,M8 K H a xs/\xs[i]? = U x,λi H x H'=>H'=H/\∀xs,M8 K H a xs->xs[i]? = U x,λi H=>∃xs,M8 K H a xs/\xs.length<=i⟩
def Itt(K:v9)(a:Addr):It:=
 ⟨λi H=>∃xs x,X9 K H a xs/\xs[i]? = U x,λi H x H'=>H'=H/\∀xs,X9 K H a xs->xs[i]? = U x,λi H=>∃xs,X9 K H a xs/\xs.length<=i⟩
def Pq(lo:Int)(n:Nat):It:=⟨λi _=>i<n,λi H x H'=>H'=H/\x=.int (lo+i),λi _=>n<=i⟩
def Ky(a it:Addr):Turn y a2 O Z (Itl O a) [it] it (λi h=>h.IsListIter it a i) where
 mem:=E5
 obj:=λi h f b j=>by
  have e:b=it:=by simpa using j
  subst e;obtain⟨o,e,c,d⟩:=f;exact⟨o,e,λv z=>by rw[d]at z;cases z⟩
 keep:=λi h C f k=>f.at λo e=>k it E5 o e
 item:=by
  intro X n B t w i g s N H E I m f G;subst n B t;obtain⟨xs,x,hq,q⟩:=G;obtain⟨L,F,p,Q⟩:=I.list hq;obtain⟨u,Y,T⟩:=F.get q;obtain⟨P,M,f2,D,r,A⟩:=m it E5;refine wpAny_pyNext_list_item f p.isList (by simpa using Y) λC l R=>?_;have S:Inv X g N H {s with heap:=C}:=I.turned (λb o j e=>(R.2 b j).trans e) P M D r A;obtain⟨o,e,c,d⟩:=id l;exact⟨u,rfl,BF e c d f5 ⟨x,H,S,T,⟨rfl,λys hy=>by rw[I.wH hy hq];exact q⟩,l,λb j=>(m b j).1⟩⟩
 done:=by intro X n B t w i g s N H E I m f G;subst n B t;obtain⟨xs,hq,q⟩:=G;obtain⟨L,F,p,Q⟩:=I.list hq;obtain⟨P,M,f2,D,r,A⟩:=m it E5;have:=F.length;exact wpAny_pyNext_list_end (I.ok.hd w) f p.isList (by simp;simp_all) λC V=>⟨rfl,I.turned (λb o j e=>V b o j e) P M D r A⟩
 self:=λ_ _ _ _ _ f h=>wpAny_pyIter_listiter f h
def Iv(a it:Addr):Turn y a2 O Z (Itt O a) [it] it (λi h=>h.IsTupleIter it a i) where
 mem:=E5
 obj:=λi h f b j=>by
  have e:b=it:=by simpa using j
  subst e;obtain⟨o,e,c,d⟩:=f;exact⟨o,e,λv z=>by rw[d]at z;cases z⟩
 keep:=λi h D f k=>f.at λo e=>k it E5 o e
 item:=by
  intro X q C P w i g s N H E I n f L;subst q C P;obtain⟨xs,x,hq,r⟩:=L;obtain⟨l,G,p,Q⟩:=I.tuple hq;obtain⟨u,Y,T⟩:=G.get r;obtain⟨A,M,f2,F,t,B⟩:=n it E5;refine wpAny_pyNext_tuple_item f (show s.heap.IsTuple a l.toArray from p) (by simpa using Y) λD m R=>?_;have S:Inv X g N H {s with heap:=D}:=I.turned (λb o j e=>(R.2 b j).trans e) A M F t B;obtain⟨o,e,c,d⟩:=id m;exact⟨u,rfl,BF e c d f5 ⟨x,H,S,T,⟨rfl,λys hy=>by rw[I.AA hy hq];exact r⟩,m,λb j=>(n b j).1⟩⟩
 done:=by intro X q C P w i g s N H E I n f L;subst q C P;obtain⟨xs,hq,r⟩:=L;obtain⟨l,G,p,Q⟩:=I.tuple hq;obtain⟨A,M,f2,F,t,B⟩:=n it E5;have:=G.length;exact wpAny_pyNext_tuple_end (I.ok.hd w) f (show s.heap.IsTuple a l.toArray from p) (by simp;simp_all) λD V=>⟨rfl,I.turned (λb o j e=>V b o j e) A M F t B⟩
 self:=λ_ _ _ _ _ f h=>wpAny_pyIter_tupleiter f h
def Iw(it:Addr)(lo:Int)(n:Nat):Turn y a2 O o (Pq lo n) [it] it (λi h=>IsRangeIter h it (lo+(i:Nat)*1) ((n:Int)-(i:Nat)) 1) where
 mem:=E5
 obj:=λi h a b d=>by
  have e:b=it:=by simpa using d
  subst e;exact⟨_,a,λv z=>by cases z⟩
 keep:=λi h q a k=>k it E5 _ a
 item:=by
  intro X P C A x i c s B H E I g a u;obtain⟨l,p,w,r,j,m⟩:=g it E5;refine(Walks.range (I.ok.hd x) it lo 1 n).item i s _ _ u a λv q D M f N=>?_;obtain⟨t,rfl⟩:=M;have F:Inv X c B H {s with heap:=q,toks:=D}:=I.turned (λb K d e=>N b K (by simpa using d) e) l p r j m;refine⟨_,rfl,BF f rfl rfl f5 ⟨.int (lo+i),H,F,⟨t,?_⟩,⟨rfl,rfl⟩,f,λb d=>(g b d).1⟩⟩;rw[ou]
 done:=by intro X P C A x i c s B H E I g a u;obtain⟨l,p,w,r,j,m⟩:=g it E5;exact wpAny_pyNext_range_end (I.ok.hd x) a (by have:n<=i:=u;lia) λq G=>⟨rfl,I.turned (λb K d e=>G b K d e) l p r j m⟩
 self:=λ_ _ _ _ _ a h=>wpAny_pyIter_rangeiter a h
def Cf{s:v5}{R:It->Hp->Prop}{lo E:Int}{t u v:Tok}(I:Inv X d n a s)(p : -(2 ^ 62)<=lo)(i:lo<2 ^ 62)(j : -(2 ^ 62)<=E)(g:E<2 ^ 62)(f:R (Pq lo (E-lo).toNat) a):wpAny (model X.prog X.w) X.A (pyIter (.ref (hz s))) (PIE X d n o R) q {s with heap:=s.heap.push {cls:=.type "range",data:=.fields #[.int lo t,.int E u,.int 1 v]},toks:=k}:=by
 refine wpAny_pyIter_range (IsRange.new ..) (small_one p i j g) ?_;have H:Inv X d n a {s with heap:=s.heap.push {cls:=.type "range",data:=.fields #[.int lo t,.int E u,.int 1 v]},toks:=k}:=I.kept λb c e=>G0 _ e
 refine⟨(s.heap.push {cls:=.type "range",data:=.fields #[.int lo t,.int E u,.int 1 v]}).objs.size,[(s.heap.push {cls:=.type "range",data:=.fields #[.int lo t,.int E u,.int 1 v]}).objs.size],_,_,a,rfl,
  H.kept λb c e=>G0 _ e,Iw _ lo (E-lo).toNat,?_,λb m=>?_,f⟩
 . have l:lo+((0:Nat))*1=lo:=by simp
   have h:(((E-lo).toNat))-((0:Nat))=Builtin.Range.rangeSize lo E 1:=by rw[rangeSize_one];split<;>lia
   rw[l,h];exact W6 _ rfl
 . have e:b=(s.heap.push {cls:=.type "range",data:=.fields #[.int lo t,.int E u,.int 1 v]}).objs.size:=by simpa using m
   subst e;exact H.wK E7 (H.J1.fresh E7)
def UM(ta:TA):TI:=λσ H R=>ta σ H λvs H1=>∃j:Int,vs=[.int j]/\-(2 ^ 62)<=j/\j<2 ^ 62/\R (Pq 0 j.toNat) H1
def UL(ta:TA):TI:=λσ H R=>ta σ H λvs H1=>∃i j:Int,vs=[.int i,.int j]/\(-(2 ^ 62)<=i/\i<2 ^ 62/\-(2 ^ 62)<=j/\j<2 ^ 62)/\R (Pq i (j-i).toNat) H1
def LL(l:Gl X "range")(f:X.mg "range" = J)(n:PA X [Z] S)(hs:autoParam (v7 [Z] X.env=[(U',eval Z X.env)]) t5):PI X o (.Call (.Name "range" p) [Z] [] R) (UM S):=by
 intro b s k H d I h;refine Call_ (gE I l f boot_range (pG (F1 (n R b s k H _ I h) λv u ⟨a,w,m,i,c⟩=>?_) hs rfl))
 obtain⟨j,e,c,q2,q⟩:=c;subst e;cases i with
 |cons r g =>
  cases g;obtain⟨t,rfl⟩:=r;exact call_range_1 (Cf m z9 z9 c q2 (by simpa using q))
def LK{b:Expr}(x:Gl X "range")(a:X.mg "range" = J)(y:PA X [Z,b] S)(hs:autoParam (v7 [Z,b] X.env=[(U',eval Z X.env),(U',eval b X.env)]) t5)(c:autoParam (v7 [b] X.env=[(U',eval b X.env)]) t5):
  PI X o (.Call (.Name "range" p) [Z,b] [] R) (UL S):=by
 intro d s m H k I h;refine Call_ (gE I x a boot_range (pG (F1 (y R d s m H _ I h) λC B ⟨z,D,n,w,g⟩=>?_) (by rw[hs,c]) (by rw[c];rfl)))
 obtain⟨i,j,e,⟨g,q2,l,v⟩,q⟩:=g;subst e;cases w with
 |cons r f =>
  cases f with
  |cons u f =>
   cases f;obtain⟨t,rfl⟩:=r;obtain⟨A,rfl⟩:=u;exact call_range_2 (Cf n g q2 l v q)
def Qh(wi:TI)(g:TG)(tb:TS):TS:=λD σ H=>wi σ H λJff H1=>∃W:Nat->Nat->St->Hp->Prop,(∃m,W 0 m σ H1)/\∀i m σ H,W i m σ H ->
 (Jff.stop i H/\D.nx σ H)\/(Jff.go i H/\∃N:St->Hp->Prop,(∀σ' H',N σ' H'->∃m',m'<m/\W (i+1) m' σ' H')/\∀x H',Jff.Ub i H x H'->g x σ H' λσ2 H2=>tb {D with nx:=N,ct:=N,bk:=D.nx} σ2 H2)
def tE(fp:List Addr)(h:Heap):List (Addr×Obj):=fp.filterMap λb=>(h.get? b).map λo=>(b,o)
def mL(a:e∈L)(b:h.get? e=U b6):(e,b6)∈tE L h:=List.mem_filterMap.mpr ⟨e,a,by rw[b];rfl⟩
def Mi{p:Addr×Obj}(a:p∈tE L h):p.1∈L/\h.get? p.1=U p.2:=by
 obtain⟨b,d,e⟩:=List.mem_filterMap.mp a;cases q:h.get? b with
 |none=>rw[q]at e;exact nE e
 |some o =>
  rw[q]at e;have c:=V0 e;subst c;exact⟨d,q⟩
def Inv.pinned{H:Hp}(I:Inv X d n H c)(h:∀b∈L,mz X d H b)(g:∀b∈L,∃o,c.heap.get? b=U o/\∀v,o.data≠.cell v):Inv X (d++tE L c.heap) n H c:=
 I.kx λp i=>(List.mem_append.mp i).elim (λz=>I.pin p (K6 _ z)) λz=>by obtain⟨f,e⟩:=Mi z;obtain⟨j,l,k,_⟩:=h p.1 f;obtain⟨o,s,a⟩:=g p.1 f;rw[e]at s;cases s;exact⟨e,j,l,k,a⟩
def Inv.wj{pl:List (Addr×Obj)}{H:Hp}(I:Inv X (d++pl) n H c):Inv X d n H c:=I.kx λp b=>I.pin p (K6 _ (T9 _ b))
def ZD{wi:TI}{g:TG}(hp:ug (model X.prog X.w) X.A X.env X.xe)(hc:X.calm=Uf)(hi:PI X o Z wi)(hg:PG X o g)(hb:pC X b7 b8)(hs:autoParam (∀x,ee Z X.env x=pure x) W0):PS X (.For o Z b7 [] p) (Qh wi g b8):=by
 intro pins s σ H D I h;refine wpAny_For (F1 (hi pins s σ H _ I h) λv s1 h1=>F1 h1 λitv s2 h2=>?_) hs;obtain⟨it,fp,tn,Jff,H2,e,I2,T,st2,f2,W,⟨m0,w0⟩,turn⟩:=h2;subst e;have stat:∀{H':Hp},(∀b∈fp,H' b=J)->∀b∈fp,mz X pins H' b:=λhn b hb=>⟨hn b hb,(f2 b hb).2⟩;refine codeAny_forLoop_any (λn s'=>∃i σ' H',Inv X pins σ' H' s'/\tn i s'.heap/\(∀b∈fp,H' b=J)/\W i n σ' H') ?_ m0 ⟨0,σ,H2,I2,st2,λb hb=>(f2 b hb).1,w0⟩
 rintro n s3 ⟨i,σ3,H3,I3,st3,fr3,w3⟩;rcases turn i n σ3 H3 w3 with ⟨stop,qn⟩|⟨go,N,hN,step⟩
 refine oA hp (F1 (T.done X rfl rfl rfl hc i pins s3 σ3 H3 X.xe I3 (stat fr3) st3 stop) λr s4 ⟨hr,I4⟩=>?_);subst hr;exact yV ⟨σ3,H3,I4,qn⟩
 . refine oA hp (F1 (T.item X rfl rfl rfl hc i pins s3 σ3 H3 X.xe I3 (stat fr3) st3 go) λr s4 ⟨u,hr,h4⟩=>?_);subst hr;refine oA hp (F1 h4 λ_ s5 ⟨x,H5,I5,r5,y5,st5,fr5⟩=>?_);have I5':=I5.pinned (stat fr5) (T.obj _ _ st5);refine oA hp (F1 (hg _ s5 σ3 H5 x u _ I5' r5 (step x H5 y5)) λ_ s6 ⟨σ6,H6,I6,q6⟩=>?_);refine oA hp (F1 (hb _ s6 σ6 H6 _ I6 q6) λf s7 q7=>?_)
   have again:∀{σ7:St} {H7:Hp},Inv X (pins++tE fp s5.heap) σ7 H7 s7->N σ7 H7->∃m,m<n/\∃i σ' H',Inv X pins σ' H' s7/\tn i s7.heap/\(∀b∈fp,H' b=J)/\W i m σ' H':=λ{σ7 H7} I7 n7=>by
    obtain⟨m',hm,w7⟩:=hN σ7 H7 n7;refine⟨m',hm,i+1,σ7,H7,I7.wj,T.keep _ _ _ st5 λb hb a e=>(I7.pin (b,a) (K6 _ (K6 _ (mL hb e)))).1,λb hb=>?_,w7⟩;obtain⟨a,e,d⟩:=T.obj _ _ st5 b hb;exact(I7.pin (b,a) (K6 _ (K6 _ (mL hb e)))).2.1
   cases f with
   |next=>obtain⟨σ7,H7,I7,n7⟩:=q7;exact again I7 n7
   |cont=>obtain⟨σ7,H7,I7,n7⟩:=q7;exact again I7 n7
   |brk=>obtain⟨σ7,H7,I7,q7⟩:=q7;exact⟨σ7,H7,I7.wj,q7⟩
   |ret v=>obtain⟨x7,σ7,H7,I7,r7,q7⟩:=q7;exact⟨x7,σ7,H7,I7.wj,r7,q7⟩
abbrev R2:=V->V->Hp->VK->Prop
variable{c6:R2}
def U5(X:Cx)(f:t2->t2->Sem t2)(r:R2):Prop:=
 ∀(pins:List (Addr×Obj)) (s:v5) (σ:St) (H:Hp) (x y:V) (v u:t2) (Q:VK),Inv X pins σ H s->RelV x v->RelV y u->r x y H Q ->
  wpAny (model X.prog X.w) X.A (f v u) (EP X pins σ Q) X.xe s
def Vd(X:Cx)(f:t2->Sem t2)(r:V->Hp->VK->Prop):Prop:=
 ∀(pins:List (Addr×Obj)) (s:v5) (σ:St) (H:Hp) (x:V) (v:t2) (Q:VK),Inv X pins σ H s->RelV x v->r x H Q ->
  wpAny (model X.prog X.w) X.A (f v) (EP X pins σ Q) X.xe s
def br(X:Cx)(f:t2)(r:List V->Hp->VK->Prop):Prop:=
 ∀(pins:List (Addr×Obj)) (s:v5) (σ:St) (H:Hp) (xs:List V) (us:List t2) (Q:VK),Inv X pins σ H s->Vals xs us->r xs H Q ->
  wpAny (model X.prog X.w) X.A (call f us) (EP X pins σ Q) X.xe s
def sx(r:R2)(ta tb:TE):TE:=λσ H Q=>ta σ H λx H1=>tb σ H1 λy H2=>r x y H2 Q
def tUn(r:V->Hp->VK->Prop)(ta:TE):TE:=λσ H Q=>ta σ H λx H1=>r x H1 Q
def rI(C:Int->Int->Prop)(g:Int->Int->V):R2:=λx y H Q=>∃i j,x=.int i/\y=.int j/\C i j/\Q (g i j) H
def mD(g:Int->Int->V):R2:=λx y H Q=>∃i j,x=.int i/\y=.int j/\Q (g i j) H
def rU(g:Int->V):V->Hp->VK->Prop:=λx H Q=>∃i,x=.int i/\Q (g i) H
def TC(a:PE X o t)(s:PE X Z Y){H:Hp}{R:V->V->Hp->Prop}(I:Inv X d n H c)(h:t n H λx b=>Y n b λy H2=>R x y H2)(k:∀v u s2 x y H2,Inv X d n H2 s2->RelV x v->RelV y u->R x y H2->wpAny (model X.prog X.w) X.A (c5 v u) q X.xe s2):
  wpAny (model X.prog X.w) X.A (eval o X.env) (λv s₁=>wpAny (model X.prog X.w) X.A (eval Z X.env) (λu s₂=>wpAny (model X.prog X.w) X.A (c5 v u) q X.xe s₂) X.xe s₁) X.xe c:=by
 refine F1 (a d c n H _ I h) λv j ⟨x,b,l,i,m⟩=>?_;refine F1 (s d j n b _ l m) λu s2 ⟨y,H2,g,e,q2⟩=>?_;exact k v u s2 x y H2 g i e q2
def a1P{op:Operator}(e:U5 X (aA op) c6)(m:PE X o t)(l:PE X Z Y):PE X (.BinOp o op Z p) (sx c6 t Y):=by exact λc s j H Q I h=>wpAny_BinOp (TC m l I h λv u f x y d g k i q=>e c f j d x y v u Q g k i q)
def a1N{op:UnaryOp}{r:V->Hp->VK->Prop}(d:Vd X (unaryOp op) r)(k:PE X o t):PE X (.UnaryOp op o p) (tUn r t):=by exact λb s c H Q I h=>UnaryOp_ (F1 (k b s c H _ I h) λv f ⟨x,g,i,e,j⟩=>d b f c g x v Q i e j)
def UE{C:Int->Int->Prop}(a:∀(i j:Int) (t u:Tok) (s:v5) (Q:t2->v5->Prop) (E:t2->v5->Prop),C i j->Q (.int (g8 i j) s.toks) {s with toks:=s.toks+1}->wpAny (model X.prog X.w) X.A (c5 (.int i t) (.int j u)) Q E s):
  U5 X c5 (rI C λi j=>.int (g8 i j)):=by intro b s l H x y v u Q I e c h;obtain⟨i,j,rfl,rfl,k,q⟩:=h;obtain⟨t,rfl⟩:=e;obtain⟨d,rfl⟩:=c;exact a i j t d s _ _ k ⟨.int (g8 i j),H,I.tok _,⟨_,rfl⟩,q⟩
def a0d(a:∀(i j:Int) (t u:Tok) (s:v5) (Q:t2->v5->Prop) (E:t2->v5->Prop),Q (.int (g8 i j) s.toks) {s with toks:=s.toks+1}->wpAny (model X.prog X.w) X.A (c5 (.int i t) (.int j u)) Q E s):
  U5 X c5 (mD λi j=>.int (g8 i j)):=by intro b s k H x y v u Q I e c h;obtain⟨i,j,rfl,rfl,q⟩:=h;obtain⟨t,rfl⟩:=e;obtain⟨d,rfl⟩:=c;exact a i j t d s _ _ ⟨.int (g8 i j),H,I.tok _,⟨_,rfl⟩,q⟩
def Jb{g:Int->Int->Bool}(a:∀(i j:Int) (t u:Tok) (s:v5) (Q:t2->v5->Prop) (E:t2->v5->Prop),Q (.bool (g i j)) s->wpAny (model X.prog X.w) X.A (c5 (.int i t) (.int j u)) Q E s):
  U5 X c5 (mD λi j=>.bl (g i j)):=by intro b s k H x y v u Q I e c h;obtain⟨i,j,rfl,rfl,q⟩:=h;obtain⟨t,rfl⟩:=e;obtain⟨d,rfl⟩:=c;exact a i j t d s _ _ ⟨.bl (g i j),H,I,rfl,q⟩
def a1m(i j:Int):Prop:=0<=j/\j<=1000000/\i.natAbs<2 ^ 64
def Iu(k:Nat):(0:Int)<=2 ^ k:=by exact Fm _
def a0c:U5 X (aA .Add) (mD λi j=>.int (i+j)):=a0d λ_ _ _ _ _ _ _ q=>add_int q
def ZV:U5 X (aA .Sub) (mD λi j=>.int (i-j)):=a0d λ_ _ _ _ _ _ _ q=>sub_int q
def WO:U5 X (aA .Mod) (rI (λ_ j=>j≠0) λi j=>.int (i.fmod j)):=UE λ_ _ _ _ _ _ _ a q=>mod_int' a q
def ZW:U5 X (aA .RShift) (rI (λ_ j=>0<=j) λi j=>.int (i/2 ^ j.toNat)):=UE λi j _ _ _ _ _ a q =>
 rshift_int a (by rw[ba i (Iu _)];exact q)
def unI{f:t2->Sem t2}{g:Int->Int}(a:∀(i:Int) (t:Tok) (s:v5) (Q:t2->v5->Prop) (E:t2->v5->Prop),Q (.int (g i) s.toks) {s with toks:=s.toks+1}->wpAny (model X.prog X.w) X.A (f (.int i t)) Q E s):
  Vd X f (rU λi=>.int (g i)):=by intro b s d H x v Q I c h;obtain⟨i,rfl,q⟩:=h;obtain⟨t,rfl⟩:=c;exact a i t s _ _ ⟨.int (g i),H,I.tok _,⟨_,rfl⟩,q⟩
def Yp:Vd X (unaryOp .USub) (rU λi=>.int (-i)):=unI λ_ _ _ _ _ q=>neg_int q
noncomputable def YM:V->V->Bool
 | .non,.non=>Uf | .non,.int _=>Uf | .int _,.non=>Uf | .non,.bl _=>Uf | .bl _,.non=>Uf | .non,.str _=>Uf | .str _,.non=>Uf
 | .int _,.int _=>Uf | .bl _,.bl _=>Uf | .str _,.str _=>Uf | .byt _,.byt _=>Uf
 | .int _,.str _=>Uf | .str _,.int _=>Uf | .bl _,.str _=>Uf | .str _,.bl _=>Uf
 |_,_=>U'
def rEq:R2:=λx y H Q=>YM x y=Uf/\Q (.bl (decide (x=y))) H
def rNe:R2:=λx y H Q=>YM x y=Uf/\Q (.bl (!decide (x=y))) H
def Ig{i j:Int}:decide (V.int i=V.int j)=(i==j):=by rw[qQ];simp
def Nm{j:Bool}:decide (V.bl c8=V.bl j)=(c8==j):=by rw[qQ];simp
def Ie{j:Str}:decide (V.str m=V.str j)=(m==j):=by rw[qQ];simp
def Ih{i j:Array UInt8}:decide (V.byt i=V.byt j)=(i.toList==j.toList):=by rw[qQ];cases i;cases j;simp
def K3{H:Hp}{k':Bool}(I:Inv X d n H c)(q:c9 (.bl c8) H)(e:c8=k'):EP X d n c9 (.bool k') c:=by subst e;exact⟨.bl c8,H,I,rfl,q⟩
def a1V:U5 X (W5 .Eq) rEq:=by
 intro e s f H x y v u Q I d a h;obtain⟨c,q⟩:=h;cases x with
 |non =>
  cases d;cases y with
  |non=>cases a;exact PySem.EqNone.eq_none_none (K3 I q rfl)
  |bl j=>cases a;exact PySem.EqNone.eq_none_bool (K3 I q rfl)
  |int j=>obtain⟨b,rfl⟩:=a;exact PySem.EqNone.eq_none_int (K3 I q rfl)
  |str j=>obtain⟨b,rfl⟩:=a;exact PySem.EqNone.eq_none_str (K3 I q rfl)
  |_=>exact absurd (show U'=Uf from c) cY
 |bl i =>
  cases d;cases y with
  |non=>cases a;exact PySem.EqNone.eq_bool_none (K3 I q rfl)
  |bl j=>cases a;exact eq_bool (K3 I q Nm)
  |str j=>obtain⟨b,rfl⟩:=a;exact PySem.EqMixed.eq_bool_str (K3 I q rfl)
  |_=>exact absurd (show U'=Uf from c) cY
 |int i =>
  obtain⟨t,rfl⟩:=d;cases y with
  |non=>cases a;exact PySem.EqNone.eq_int_none (K3 I q rfl)
  |int j=>obtain⟨b,rfl⟩:=a;exact eq_int (K3 I q Ig)
  |str j=>obtain⟨b,rfl⟩:=a;exact PySem.EqMixed.eq_int_str (K3 I q rfl)
  |_=>exact absurd (show U'=Uf from c) cY
 |str i =>
  obtain⟨t,rfl⟩:=d;cases y with
  |non=>cases a;exact PySem.EqNone.eq_str_none (K3 I q rfl)
  |bl j=>cases a;exact PySem.EqMixed.eq_str_bool (K3 I q rfl)
  |int j=>obtain⟨b,rfl⟩:=a;exact PySem.EqMixed.eq_str_int (K3 I q rfl)
  |str j=>obtain⟨b,rfl⟩:=a;exact eq_str (K3 I q Ie)
  |_=>exact absurd (show U'=Uf from c) cY
 |byt i =>
  obtain⟨t,rfl⟩:=d;cases y with
  |byt j=>obtain⟨b,rfl⟩:=a;exact PySem.W.eq_bytes (K3 I q Ih)
  |_=>exact absurd (show U'=Uf from c) cY
 |_=>cases y<;>exact absurd (show U'=Uf from c) cY
def a1S:U5 X (W5 .NotEq) rNe:=by
 intro e s f H x y v u Q I d a h;obtain⟨c,q⟩:=h;cases x with
 |non =>
  cases d;cases y with
  |non=>cases a;exact PySem.EqNone.ne_none_none (K3 I q rfl)
  |bl j=>cases a;exact PySem.EqNone.ne_none_bool (K3 I q rfl)
  |int j=>obtain⟨b,rfl⟩:=a;exact PySem.EqNone.ne_none_int (K3 I q rfl)
  |str j=>obtain⟨b,rfl⟩:=a;exact PySem.EqNone.ne_none_str (K3 I q rfl)
  |_=>exact absurd (show U'=Uf from c) cY
 |bl i =>
  cases d;cases y with
  |non=>cases a;exact PySem.EqNone.ne_bool_none (K3 I q rfl)
  |bl j=>cases a;exact ne_bool (K3 I q (B9 not Nm))
  |str j=>obtain⟨b,rfl⟩:=a;exact PySem.EqMixed.ne_bool_str (K3 I q rfl)
  |_=>exact absurd (show U'=Uf from c) cY
 |int i =>
  obtain⟨t,rfl⟩:=d;cases y with
  |non=>cases a;exact PySem.EqNone.ne_int_none (K3 I q rfl)
  |int j=>obtain⟨b,rfl⟩:=a;exact ne_int (K3 I q (B9 not Ig))
  |str j=>obtain⟨b,rfl⟩:=a;exact PySem.EqMixed.ne_int_str (K3 I q rfl)
  |_=>exact absurd (show U'=Uf from c) cY
 |str i =>
  obtain⟨t,rfl⟩:=d;cases y with
  |non=>cases a;exact PySem.EqNone.ne_str_none (K3 I q rfl)
  |bl j=>cases a;exact PySem.EqMixed.ne_str_bool (K3 I q rfl)
  |int j=>obtain⟨b,rfl⟩:=a;exact PySem.EqMixed.ne_str_int (K3 I q rfl)
  |str j=>obtain⟨b,rfl⟩:=a;exact ne_str (K3 I q (B9 not Ie))
  |_=>exact absurd (show U'=Uf from c) cY
 |byt i =>
  obtain⟨t,rfl⟩:=d;cases y with
  |byt j=>obtain⟨b,rfl⟩:=a;exact PySem.W.ne_bytes (K3 I q (B9 not Ih))
  |_=>exact absurd (show U'=Uf from c) cY
 |_=>cases y<;>exact absurd (show U'=Uf from c) cY
def BC:U5 X (W5 .Lt) (mD λi j=>.bl (decide (i<j))):=Jb λ_ _ _ _ _ _ _ q=>lt_int q
def a1T:U5 X (W5 .LtE) (mD λi j=>.bl (decide (i<=j))):=Jb λ_ _ _ _ _ _ _ q=>le_int q
def a1U:U5 X (W5 .Gt) (mD λi j=>.bl (decide (j<i))):=Jb λ_ _ _ _ _ _ _ q=>gt_int q
def UD:U5 X (W5 .GtE) (mD λi j=>.bl (decide (j<=i))):=Jb λ_ _ _ _ _ _ _ q=>ge_int q
def LS:U5 X (W5 .Is) (λx y H Q=>y=.non/\Q (.bl (decide (x=.non))) H):=by
 intro b s d H x y v u Q I a c h;obtain⟨rfl,q⟩:=h;cases c;refine is_none_gen (K3 I q ?_);cases x<;>first
  |(cases a;rfl)
  |(obtain⟨t,rfl⟩:=a;rfl)
def WL:U5 X (W5 .IsNot) (λx y H Q=>y=.non/\Q (.bl (!decide (x=.non))) H):=by
 intro b s d H x y v u Q I a c h;obtain⟨rfl,q⟩:=h;cases c;refine isnot_none_gen (K3 I q ?_);cases x<;>first
  |(cases a;rfl)
  |(obtain⟨t,rfl⟩:=a;rfl)
def U5.or{b:R2}(h:U5 X c5 c6)(h':U5 X c5 b):U5 X c5 (λx y H Q=>c6 x y H Q\/b x y H Q):=by
 intro a s d H x y v u Q I e c q;rcases q with q|q
 exact h a s d H x y v u Q I e c q;exact h' a s d H x y v u Q I e c q
def eo(b:Expr)(h:autoParam (d2≠.In) F8)(a:autoParam (d2≠.NotIn) F8):qL d2 b=U':=by
 have d:(d2==CmpOp.In)=U':=by cases d2<;>first|rfl|exact absurd rfl h
 have c:(d2==CmpOp.NotIn)=U':=by cases d2<;>first|rfl|exact absurd rfl a
 cases b<;>simp[qL,d,c]
def WI(f:U5 X (W5 d2) c6)(n:PE X o t)(m:PE X Z Y)(d:qL d2 Z=U'):PE X (.Compare o [d2] [Z] p) (sx c6 t Y):=by exact λc s k H Q I h=>wpAny_Compare1 (TC n m I h λv u g x y e i l j q=>f c g k e x y v u Q i l j q) d
def By(t:TE):TT:=λσ H Q=>t σ H λx H'=>∃k,x=.bl k/\Q k H'
def Wl(g:U5 X (W5 d2) c6)(E:PE X o t)(D:PE X Z Y)(a:qL d2 Z=U'):PT X (.Compare o [d2] [Z] p) (By (sx c6 t Y)):=by
 intro d s f H Q I h;refine wpAny_isTrue_Compare1 (F1 (E d s f H _ I h) λv l ⟨x,B,m,b,C⟩=>F1 (D d l f B _ m C) λu q ⟨y,r,j,n,q2⟩ =>
  F1 (g d q f r x y v u _ j b n q2) λc G ⟨z,w,F,A,k,e,i⟩=>?_) a
 subst e;cases A;exact lX ⟨w,F,i⟩
def BS(r r':R2)(ta tb tc:TE):TE:=λσ H Q=>ta σ H λx H1=>tb σ H1 λy H2=>r x y H2 λz H3=>∃k,z=.bl k /\
 (if k=Uf then tc σ H3 λw' H4=>r' y w' H4 Q else Q (.bl U') H3)
def QS{c:Expr}{tc:TE}{g:CmpOp}{n:R2}(r:U5 X (W5 d2) c6)(j:U5 X (W5 g) n)(ha:PE X o t)(hb:PE X Z Y)(hc:PE X c tc)(N:lastMarks [d2,g] [Z,c]=U':=by with_unfolding_all rfl):PT X (.Compare o [d2,g] [Z,c] p) (By (BS c6 n t Y tc)):=by
 intro f s i H Q I h;refine isTrue_chain (F1 (ha f s i H _ I h) λv C ⟨x,H1,E,W,q1⟩=>test_link (F1 (hb f C i H1 _ E q1) λu V ⟨y,O,A,m,q2⟩ =>
  F1 (r f V i O x y v u _ A W m q2) λd q ⟨z,a,tb,b,k,e,l⟩=>?_)) N
 subst e;cases b;refine lX ?_;cases k with
 |false =>
  obtain⟨k',F,D⟩:=l;cases F;exact ite_ff ⟨a,tb,D⟩
 |true =>
  refine ite_tt (test_last (F1 (hc f q i a _ tb l) λB s4 ⟨S,K,P,ta,T⟩=>F1 (j f s4 i K y S u B _ P m ta T) λd' s5 ⟨z2,R,w,M,k2,L,G⟩=>?_));subst L;cases M;exact lX ⟨R,w,G⟩
def qi:(E6:Nat)<2 ^ 63:=by rw[qE];decide
def Ja:U5 X (aA .Add) (λx y H Q=>∃i j,x=.str i/\y=.str j/\i.length+j.length<=E6/\Q (.str (i++j)) H):=by intro a s g H x y v u Q I e c h;obtain⟨i,j,rfl,rfl,b,q⟩:=h;obtain⟨t,rfl⟩:=e;obtain⟨d,rfl⟩:=c;exact add_str (λd f=>⟨.str (i++j),H,I.tok _,⟨_,rfl⟩,q⟩) b
def vals1(r:Vals [M] z):∃u,z=[u]/\RelV M u:=by
 cases r with
 |cons b a=>cases a;exact⟨_,rfl,b⟩
def vals2{y:V}(r:Vals [M,y] z):∃u w',z=[u,w']/\RelV M u/\RelV y w':=by
 cases r with
 |cons c a =>
  cases a with
  |cons b d=>cases d;exact⟨_,_,rfl,c,b⟩
def Tz:br X (.builtin "abs") (λxs H Q=>∃i,xs=[.int i]/\Q (.int (if i<0 then -i else i)) H):=by intro a s c H xs d Q I r h;obtain⟨i,rfl,q⟩:=h;obtain⟨u,rfl,t,rfl⟩:=vals1 r;exact call_abs_int λu b=>⟨.int (if i<0 then -i else i),H,I.tok _,⟨_,rfl⟩,q⟩
def Ny:br X (.type "int") (λxs H Q=>(∃i,xs=[.int i]/\Q (.int i) H)\/∃k,xs=[.bl k]/\Q (.int (if k then 1 else 0)) H):=by
 intro a s c H xs d Q I r h;rcases h with ⟨i,rfl,q⟩|⟨k,rfl,q⟩
 obtain⟨u,rfl,t,rfl⟩:=vals1 r;exact call_int_int ⟨.int i,H,I,⟨_,rfl⟩,q⟩;obtain⟨u,rfl,b⟩:=vals1 r;cases b;exact call_int_bool ⟨.int (if k then 1 else 0),H,I.tok _,⟨_,rfl⟩,q⟩
structure wZ(h:Heap)(x dx C:Addr)(mA:Str->Option t2):Prop where
 obj:h.get? x=U (lU C dx)
 ns:h.Ns1 dx mA
 ne:dx≠x
set_option tactic.hygienic true in
def My(n:h.Ns1 e a6):∃od,h.get? e=U od/\∀name,yU name od=U (a6 name):=by
 obtain⟨o,c,p,j,g,m,_,i⟩:=n;refine⟨o,j,λname=>?_⟩;have f:=i name;unfold nsFind findBy at f;rw[<-Array.find?_toList]at f;delta yU;rw[g];dsimp only;split;rename_i y q;rw[q]at f;exact B9 U f
 . rename_i q;rw[q]at f;have a:c.toList.any (·.refKey)=U':=by rw[List.any_eq_false];intro y k;obtain⟨z,t,b⟩:=m y (Array.mem_toList_iff.mp k);simp[DictEntry.refKey,b]
   have l:¬c.toList.any (·.refKey)=Uf:=by rw[a];exact cY
   rw[f6 l];exact B9 U f
def wZ.look{C:Addr}(I:wZ h e B C a6):∃od,yT h e (lU C B) C (U od)/\∀name,yU name od=U (a6 name):=
 let ⟨od,c,d⟩:=My I.ns
 ⟨od,⟨I.obj,rfl,rfl,c⟩,d⟩
section
variable{prog:L9}{w:E1}{K:v9}
def get_map{C:Addr}{Q:t2->v5->Prop}(X:K.In c.heap)(I:wZ c.heap e B C a6)(d:uD K C m=Uf)(E:uF K C=Uf)(g:aY K (.ref C) m=U J)(f:a6 m=U D)(b:NZ D=Uf)(h:Q D {c with toks:=c.toks+1}):
  wpAny (model prog w) A (getAttr (.ref e) m c8) Q q c:=by obtain⟨i,Jff,s⟩:=I.look;exact PySem.W.get_value X Jff (Fq d).1 (PySem.W.findObj_own E g rfl (by rw[s,f])) b h
def SH{C f:Addr}(X:K.In c.heap)(I:wZ c.heap e B C a6)(a:uD K C m=Uf)(d:aY K (.ref C) m=U (U (.ref f)))(b:uu K (.ref f)=Uf)(E:a6 m=J)(h:h8 (.ref f,[.ref e]) c):
  wpAny (model prog w) A (jx (.ref e) m d3) h8 q c:=by obtain⟨s,Jff,g⟩:=I.look;exact PySem.W.method_fn X Jff (Fq a).1 (Fq a).2 d (beq_iff_eq.mp b) (by show(yU m s).map (·.isSome)=U U';rw[g,E];rfl) h
def VL{C:Addr}(X:K.In c.heap)(I:wZ c.heap e B C a6)(hs:aY K (.ref C) "__setattr__" = U (U (.builtin "object.__setattr__")))(p:EY K C=Uf)(j:EK K C m=U J)(o:uF K C=Uf)(l:Er a6 N)(hsz:N.length<=E6)(h:∀h',wZ h' e B C (λy=>if y=m then U D else a6 y)->ow B c.heap h'->b9 () {c with heap:=h',toks:=c.toks+2}):
  wpAny (model prog w) A (setAttr (.ref e) m D) b9 q c:=by
 obtain⟨t,Jff,u⟩:=I.look;refine PySem.W.set_plain X Jff hs (PySem.W.osa_open X Jff p j λb=>?_);obtain⟨v,E,x⟩:=zc o;refine u4 (z6 (u4 (u4 (wpAny_loadPart I.obj (u4 (PySem.W.Looks.here (PySem.W.looks_clsIn X E) ?_))))));rw[x];refine z6 (u4 (z6 (u4 ?_)));refine wpAny_nsSet1 I.ns λh' d s=>?_;obtain⟨z,n,k,g,i,f⟩:=d.count (PySem.Within.cons m D l);refine u4 (wpAny_lookBehind g (by rw[i];exact pastItsLine_dict (B6 f (by rw[Y2];simp[*]))) ?_);exact z6 (h _ ⟨(s.2 _ (jv I.ne)).trans I.obj,d,I.ne⟩ s)
def Sn {R:Result->v5->Prop} (X:K.In c.heap) (s:EJ K e=Uf) (C:aY K (.ref e) "__init__" = U (U (.ref B))) (i:PySem.W.typeIn K (.ref B)=U (.type "function")) (h:codeAny (model prog w) (A.under (.builtin "type.__call__" ⟨.ref e::z,d9⟩)) (.call (.ref B) ⟨.ref ((hz c) + 1)::z,d9⟩) (PySem.W.InitBack ((hz c) + 1) R)
   {c with heap:=(c.heap.push lV).push (lU e (hz c))}) :
  codeAny (model prog w) A (.call (.ref e) ⟨z,d9⟩) R c:=by obtain⟨j,g,d,t,k⟩:=c;exact PySem.W.make_core (PySem.W.makes_of X s) (Fy X C) (λa=>PySem.W.bind_fn X a i) (.inl rfl) h
end
noncomputable def cJ(f:Str)(v:V):List (Str×V)->List (Str×V)
 | []=>[(f,v)]
 |(g,x)::r=>if g=f then(g,v)::r else(g,x)::cJ f v r
theorem vM(f g:Str)(v:V):∀fs:List (Str×V),(cJ f v fs).lookup g=if g=f then U v else fs.lookup g
 | []=>by
  show fw g [(f,v)]=_;by_cases h:g=f;have a:=beq_iff_eq.mpr h;simp only[fw,a,f9 h];have a:=beq_eq_false_iff_ne.mpr h;simp only[fw,a,f6 h]
 |(k,x)::r=>by
  rw[show cJ f v ((k,x)::r)=(if k=f then(k,v)::r else(k,x)::cJ f v r)from rfl];by_cases b:k=f;rw[f9 b];by_cases h:g=k;have a:=beq_iff_eq.mpr h;simp only[fw,a,f9 (h.trans b)];have a:=beq_eq_false_iff_ne.mpr h;simp only[fw,a,f6 (λe:g=f=>h (e.trans b.symm))];rw[f6 b];by_cases h:g=k;have a:=beq_iff_eq.mpr h;simp only[fw,a,f6 (λe:g=f=>b (h.symm.trans e))];have a:=beq_eq_false_iff_ne.mpr h;simp only[fw,a];exact(vM f g v r)
theorem tO(f:Str)(v:V):∀fs:List (Str×V),f∈(cJ f v fs).map (·.1)/\∀g,g∈fs.map (·.1)->g∈(cJ f v fs).map (·.1)
 | []=>⟨by simp[cJ],λg h=>by simp at h⟩
 |(k,x)::r=>by
  obtain⟨b,c⟩:=tO f v r;rw[show cJ f v ((k,x)::r)=(if k=f then(k,v)::r else(k,x)::cJ f v r)from rfl];by_cases a:k=f;rw[f9 a];subst a;exact⟨E5,λg h=>by simpa using h⟩
  . rw[f6 a];refine⟨?_,λg h=>?_⟩;rw[C7];exact C6 _ b
    . rw[C7]at h ⊢;rcases List.mem_cons.mp h with e|e
      exact List.mem_cons.mpr (.inl e);exact C6 _ (c g e)
theorem vN(f:Str)(v:V):∀fs:List (Str×V),(cJ f v fs).length<=fs.length+1
 | []=>by simp[cJ]
 |(k,x)::r=>by
  have:=vN f v r;rw[show cJ f v ((k,x)::r)=(if k=f then(k,v)::r else(k,x)::cJ f v r)from rfl];by_cases a:k=f;rw[f9 a,Y2,Y2];simp[*];rw[f6 a,Y2,Y2];simp[*]
def gA.some_of(r:gA (U M) i0):∃u,i0=U u/\RelV M u:=by
 cases i0 with
 |none=>exact(show False from r).elim
 |some u=>exact⟨u,rfl,r⟩
def gA.none_of(r:gA J i0):i0=J:=by
 cases i0 with
 |none=>rfl
 |some u=>exact(show False from r).elim
def MS(r:RelV M D):NZ D=Uf:=by
 cases M with
 |non=>cases(show D=Ed from r);rfl
 |bl b=>cases(show D=uj b from r);rfl
 |int i=>obtain⟨t,e⟩:=(show ∃t,D=yB i t from r);cases e;rfl
 |str x=>obtain⟨t,e⟩:=(show ∃t,D=yA x t from r);cases e;rfl
 |byt b=>obtain⟨t,e⟩:=(show ∃t,D=Value.bytes b t from r);cases e;rfl
 |flt b=>obtain⟨t,e⟩:=(show ∃t,D=Value.float b t from r);cases e;rfl
 |ref a=>cases(show D=aU a from r);rfl
 |ty n=>cases(show D=yD n from r);rfl
section
variable{w:E1}
def zX{dx:Addr}(c:G5 y w a h)(P:a e=U (.ins B dx d5)):∃b,wZ h e dx B b/\(∀f,gA (d5.lookup f) (b f))/\Er b (d5.map (·.1))/\d5.length<=1000/\a dx=U (.own e):=by
 obtain⟨d,z,ne,g,b,n,r,q⟩:=(show ao y w a h e (.ins B dx d5)from c e _ P);exact⟨b,⟨g,n,ne⟩,r,q,z,d⟩
end
structure uS(K:v9)(C:Addr):Prop where
 pg:uD K C lL=Uf
 hd:uF K C=Uf
 po:EY K C=Uf
 sa:aY K (.ref C) "__setattr__" = U (U (.builtin "object.__setattr__"))
def uS.get(c:uS O e)(f:Str):uD O e f=Uf:=c.pg
def ay(K:v9)(C:Addr)(f:Str):Prop:=aY K (.ref C) f=U J
def ay.a1A(n:ay O e m):EK O e m=U J:=by
 delta EK;rw[show aY O (.ref e) m=U J from n];rfl
structure Con(K:v9)(C:Addr)(f:Str)(v:V)(u:t2):Prop where
 at_:aY K (.ref C) f=U (U u)
 rel:RelV v u
 get:EX K u "__get__" = U J
 cp:PySem.W.copiedNames.contains f=U'
structure Meth(K:v9)(C:Addr)(m:Str)(f:Addr):Prop where
 at_:aY K (.ref C) m=U (U (.ref f))
 fn:uu K (.ref f)=Uf
 kp:gT K (.ref f)=Uf
def JJ{dx:Addr}{Q:t2->v5->Prop}(I:Inv X d n a c)(C:a e=U (.ins B dx d5))(s:uS X.K B)(H:ay X.K B m)(l:d5.lookup m=U M)(h:∀u s',Inv X d n a s'->RelV M u->Q u s'):wpAny (model X.prog X.w) A (getAttr (.ref e) m c8) Q q c:=by
 obtain⟨i,O,r,_,_,_⟩:=zX I.J1 C;obtain⟨u,g,σ⟩:=gA.some_of (by rw[<-l];exact r m);exact get_map I.gF O (s.get m) s.hd H g (MS σ) (h u _ (I.tok _) σ)
def xX{dx:Addr}{g:Addr}(I:Inv X d n a c)(H:a e=U (.ins B dx d5))(σ:uS X.K B)(k:Meth X.K B m g)(l:d5.lookup m=J)(h:h8 (.ref g,[.ref e]) c):wpAny (model X.prog X.w) A (jx (.ref e) m d3) h8 q c:=by
 obtain⟨mA,O,r,_,_,_⟩:=zX I.J1 H;have hn:mA m=J:=gA.none_of (by rw[<-l];exact r m);exact SH I.gF O (σ.get m) k.at_ k.fn hn h
def ID{dx:Addr}(I:Inv X d n a c)(C:a e=U (.ins B dx d5))(s:uS X.K B)(H:ay X.K B m)(G:d5.length<1000)(t:RelV M D)(h:∀s',Inv X d n (upd a e (.ins B dx (cJ m M d5))) s'->b9 () s'):wpAny (model X.prog X.w) A (setAttr (.ref e) m D) b9 q c:=by
 obtain⟨i,O,r,k,_,j⟩:=zX I.J1 C;have p:(d5.map (·.1)).length<=E6:=by rw[C5,qE];exact pd
 refine VL I.gF O s.sa s.po H.a1A s.hd k p λE σ f=>h _ ?_
 have l:∃o,E.get? dx=U o:=let ⟨o,_,_,u,_⟩:=σ.ns;⟨o,u⟩;refine I.write (by rw[C];exact lN) (.inr j) (λb y F z=>(f.2 b F).trans z) l ?_
 refine⟨by rw[J4 O.ne];exact j,?_,O.ne,σ.obj,_,σ.ns,λg=>?_,λg v=>?_⟩;have:=vN m M d5;exact B6 s9 s9;show gA ((cJ m M d5).lookup g) (if g=m then U D else i g);rw[vM];by_cases y:g=m;rw[f9 y,f9 y];exact t;rw[f6 y,f6 y];exact r g;by_cases y:g=m;rw[y];exact(tO m M d5).1;refine(tO m M d5).2 g (k g λz=>v ?_);show(if g=m then U D else i g)=J;rw[f6 y];exact z
def Inv.made{C:Addr}(I:Inv X d n a c):Inv X d n (upd (upd a (hz c) (.own ((hz c)+1))) ((hz c)+1) (.ins C (hz c) []))
  {c with heap:=(c.heap.push lV).push (lU C (hz c))}:=by
 have H:(c.heap.push lV).get? (hz c)=U lV:=W6 c.heap rfl;have g:((c.heap.push lV).push (lU C (hz c))).get? ((hz c)+1)=U (lU C (hz c)):=by
  have:=W6 (c.heap.push lV) (o:=lU C (hz c)) rfl
  rwa [hE]at this
 have s:(c.heap.push lV).Ns (hz c) (λ_=>J):=⟨lV,#[],_,H,rfl,(λe f=>absurd f (λh=>nomatch h)),λ_=>rfl⟩;have σ:=I.laid (o:=.own ((hz c)+1)) (t':=c.toks) (λb u q=>G0 _ q) E7 ⟨_,H⟩;refine σ.laid (λb u q=>G0 _ q) (lQ (hE _ _)) ?_;have ne:(hz c)≠(hz c)+1:=Q1 (uC _);refine⟨by rw[J4 ne,O3],gP _,ne,g,λ_=>J,(Heap.Ns1.of_empty s).at λo q=>G0 _ q,λ_=>lN,λy h=>absurd rfl h⟩
def XO{env:Env}{Q:t2->v5->Prop}(a:aL o m env (eval o env)=eval o env)(h:wpAny (model y a2) A (eval o env) (λE s₁=>wpAny (model y a2) A (getAttr E m Uf) Q q s₁) q c):wpAny (model y a2) A (eval (.Attribute o m p) env) Q q c:=
 Attribute_any_ h (by rw[arm_eval_Attribute,a])
def rn(K:v9)(ta:TE)(f:Str):TE:=λσ H Q=>ta σ H λx H1=>∃a C dx fs v,x=.ref a/\H1 a=U (.ins C dx fs)/\uS K C/\ay K C f/\fs.lookup f=U v/\Q v H1
def YS(K:v9)(ta tv:TE)(f:Str):TS:=λD σ H=>tv σ H λy H1=>ta σ H1 λx H2=>∃a C dx fs,x=.ref a/\H2 a=U (.ins C dx fs)/\uS K C/\ay K C f/\fs.length<1000 /\
 D.nx σ (upd H2 a (.ins C dx (cJ f y fs)))
def tF(g:PE X o t)(r:aL o m X.env (eval o X.env)=eval o X.env):PE X (.Attribute o m p) (rn X.K t m):=by
 intro b s j H Q I h;refine XO r (F1 (g b s j H _ I h) λu y ⟨x,f,e,k,a,C,z,fs,v,D,d,c,n,l,q⟩=>?_);subst D;obtain rfl:=k;exact JJ e d c n l λA w i B=>⟨v,f,i,B,q⟩
def ZE(w:PE X o t)(r:PE X Z Y)(hs:bS Z (U (.Attribute o m R)) p.line X.env=pure U'):PS X (.Assign [.Attribute o m R] Z p) (YS X.K t Y m):=by
 intro b s d H D I h;refine plainObj_wpAny_Assign_Attribute (F1 (r b s d H _ I h) λu j ⟨y,v,f,K,q⟩=>F1 (w b j d v _ f q) λk E ⟨x,B,g,i,a,C,F,fs,G,e,c,n,l,q2⟩=>?_) hs;subst G;obtain rfl:=i;exact ID g e c n l K λA z=>⟨d,_,z,q2⟩
section
variable{H:Hp}{Q:t2->v5->Prop}
inductive oh(K:v9)(H:Hp):V->t2->Prop where
 |non:oh K H .non (.type "NoneType")
 |bl (x:Bool):oh K H (.bl x) (.type "bool")
 |int (i:Int):oh K H (.int i) (.type "int")
 |str (x:Str):oh K H (.str x) (.type "str")
 |flt (x:UInt64):oh K H (.flt x) (.type "float")
 |lst {a:Addr} {xs:List V} (e:H a=U (.lst xs)):oh K H (.ref a) (.type "list")
 |eB {a:Addr} {o:Obj} {xs:List V} (e:H a=U (.eB o (.lst xs))):oh K H (.ref a) (.type "list")
 |tup {a:Addr} {xs:List V} (e:H a=U (.tup xs)):oh K H (.ref a) (.type "tuple")
 |dK {a:Addr} {kvs:List (Key×V)} (e:H a=U (.dK kvs)):oh K H (.ref a) (.type "dict")
 |dT {a:Addr} {kvs:List (List Key×V)} (e:H a=U (.dT kvs)):oh K H (.ref a) (.type "dict")
 |ins {a C dx:Addr} {fs:List (Str×V)} (e:H a=U (.ins C dx fs)) (cl:uS K C) (ha:aY K (.ref C) "__class__" = U (U (.builtin "object.__class__")))
   (hn:EX K (.builtin "object.__class__") "__get__" = U (U (.builtin "getset_descriptor.__get__"))) (htk:NR K (.builtin "object.__class__")=U Uf)
   (hm:Ex K C (.type "object")=U Uf):oh K H (.ref a) (.ref C)
end
structure N7(k:Nat)(A:Z4):Prop where
 hd:A.handled=J
 dp:A.depth+3*k+5<recursionLimit
 un:A.units+16*k+200<R3
def N7.mono{j:Nat}(r:N7 k A)(h:j<=k):N7 j A:=⟨r.hd,by have:=r.dp;lia,by have:=r.un;lia⟩
theorem N7.deeper(r:N7 (k+1) A)(env:Env):N7 k (A.deeper env):=
 ⟨r.hd,by have:=r.dp;show A.depth+1+3*k+5<_;lia,by have:=r.un;show A.units+3+16*k+200<_;lia⟩
def Jw:(A.under (.builtin "type.__call__" ⟨.ref e::z,d9⟩)).depth=A.depth+1:=by first|rfl|simp[Ep]
def Jv:(A.under (.builtin "type.__call__" ⟨.ref e::z,d9⟩)).units=A.units+1:=by first|rfl|simp[Ep]
def N7.make(r:N7 (k+1) A)(C:Addr)(us:List t2)(a:List (Str×t2)):N7 k (A.under (.builtin "type.__call__" ⟨.ref C::us,a⟩)):=
 ⟨r.hd,by have:=r.dp;rw[Jw];lia,by have:=r.un;rw[Jv];lia⟩
theorem N7.depth(r:N7 k A):A.depth<recursionLimit:=by have:=r.dp;lia
theorem N7.units(r:N7 k A):A.units+64<R3:=by have:=r.un;lia
def nA:TA:=λ_ H Q=>Q [] H
def iS(ta:TE)(tr:TA):TA:=λσ H Q=>ta σ H λx H1=>tr σ H1 λxs H2=>Q (x::xs) H2
def qb:PA X [] nA:=λ_ _ _ _ H Q I h=>EW ⟨[],H,I,.nil,h⟩
def iA(e:PE X o t)(f:PA X G S)(hs:autoParam (v7 (o::G) X.env=(U',eval o X.env)::v7 G X.env) t5):PA X (o::G) (iS t S):=by
 intro pos a s b H Q I h;rw[hs];refine zj (F1 (e a s b H _ I h) λu k ⟨x,l,m,i,n⟩=>?_);exact F1 (f pos a k b l _ m n) λq p ⟨j,d,g,c,q2⟩=>⟨x::j,d,g,.cons i c,q2⟩
def Qe(t:TA):TE:=λσ H Q=>t σ H λxs H1=>xs.length<=E6/\∀p,H1 p=J->Q (.ref p) (upd H1 p (.tup xs))
def YE(t:TA):TE:=λσ H Q=>t σ H λxs H1=>xs.length<=E6/\∀p,H1 p=J->Q (.ref p) (upd H1 p (.lst xs))
def LM{x1}(h:PA X G S):PE X (.Tuple G x1 p) (Qe S):=by
 intro pins s σ H Q I hq;refine wpAny_Tuple_spliced (F1 (h p pins s σ H _ I hq) λus s1 ⟨xs,H1,I1,r,z,q⟩=>⟨by rw[<-r.length];exact z,?_⟩);have hf:H1 s1.heap.objs.size=J:=I1.J1.fresh E7;refine⟨.ref s1.heap.objs.size,upd H1 s1.heap.objs.size (.tup xs),I1.laid (t':=s1.toks) (λb u e=>G0 _ e) E7 ?_,rfl,q _ hf⟩;exact⟨z,us,r,⟨_,W6 _ rfl,rfl,_,rfl⟩⟩
def ZP(h:PA X G S):PE X (.List G p) (YE S):=by
 intro pins s σ H Q I hq;refine wpAny_List_spliced (F1 (h p pins s σ H _ I hq) λus s1 ⟨xs,H1,I1,r,z,q⟩=>⟨by rw[<-r.length];exact z,?_⟩);have hf:H1 s1.heap.objs.size=J:=I1.J1.fresh E7;refine⟨.ref s1.heap.objs.size,upd H1 s1.heap.objs.size (.lst xs),I1.laid (t':=s1.toks) (λb u e=>G0 _ e) E7 ?_,rfl,q _ hf⟩;exact⟨z,us,0,r,W6 _ rfl⟩
abbrev Sp:=List V->Hp->VK->XK->Prop
variable{a9:Sp}
abbrev Bi:=List Env->Hp->v5->XK->t2->v5->Prop
variable{a7:Bi}
structure xa(P:L9)(w:E1)(K:v9)(mg:Str->Option t2)(base:Heap)(A:Z4)(outer:List Env)(s:v5)(H:Hp):Prop where
 frames:A.frames=U outer
 mod:Mod K mg base
 bs:∀b o,base.get? b=U o->s.heap.get? b=U o/\H b=J
 sG:base.objs.size<=s.heap.objs.size
 kC:s.heap.FunFrames base outer
 AY:∀b∈px outer,H b=J
 J1:G5 P w H s.heap
 bare:jw s.gens
def CE(outer:List Env)(P:L9)(w:E1)(H:Hp)(s:v5)(Q:VK)(u:t2)(s':v5):Prop:=
 ∃v H',s'.os=s.os/\jw s'.gens/\Un (px outer) [] H H' s.heap s'.heap/\G5 P w H' s'.heap/\RelV v u/\Q v H'
def CR(CX:Bi)(outer:List Env)(P:L9)(w:E1)(H:Hp)(s:v5)(Q:VK)(E:XK)(r:Result)(s':v5):Prop:=
 match r with
 | .ok (.ret u)=>CE outer P w H s Q u s'
 | .ok _=>False
 | .error e=>CX outer H s E e s'
structure bc(P:L9)(w:E1)(K:v9)(mg:Str->Option t2)(base:Heap)(CX:Bi)(k:Nat)(f:Addr)(fd:T5)(ps:List Str)(sp:Sp):Prop where
 len:∀vs H Q E,sp vs H Q E->vs.length=ps.length
 run:∀(A:Z4) (outer:List Env) (s:v5) (H:Hp) (args:Args) (us:List t2) (vs:List V) (Q:VK) (E:XK),N7 k A->xa P w K mg base A outer s H->lJ s fd args (ps.zip us)->Vals vs us->sp vs H Q E ->
  codeAny (model P w) A (.call (.ref f) args) (CR CX outer P w H s Q E) s
def xa.make(e:xa y a2 O a6 h A i3 c a)(C:Addr)(us:List t2)(P:List (Str×t2)):
  xa y a2 O a6 h (A.under (.builtin "type.__call__" ⟨.ref C::us,P⟩)) i3 c a:=⟨by first|exact e.frames|(simpa [Ep,Code.envs,Code.isFrame,pushEnvs]using e.frames),e.mod,e.bs,e.sG,e.kC,e.AY,e.J1,e.bare⟩
def Inv.a0U(I:Inv X d n a c):xa X.prog X.w X.K X.mg X.base X.A X.stack c a:=
 ⟨I.ok.frames,I.ok.mod,I.bs,B6 I.ok.sG I.sz,I.stack,I.GO,I.J1,I.bare⟩
def Inv.after{s':v5}(I:Inv X d n a c)(h:CE X.stack X.prog X.w a c c9 D s'):EP X d n c9 D s':=by obtain⟨v,i,f,H,un,s,r,q⟩:=h;obtain⟨j,g,σ,t,e⟩:=s';obtain rfl:=f;exact⟨v,i,I.call un s H (λb z=>absurd z B3),r,q⟩
def ro(sp:Sp)(dvs:List V)(E:XK)(t:TA):TE:=λσ H Q=>t σ H λvs H1=>sp (vs++dvs) H1 Q E
def mI(C:Addr)(m:Str)(sp:Sp)(dvs:List V)(E:XK)(ta:TE)(t:TA):TE:=λσ H Q=>ta σ H λx H1=>∃a dx fs,x=.ref a/\H1 a=U (.ins C dx fs)/\fs.lookup m=J /\
 t σ H1 λvs H2=>sp (x::(vs++dvs)) H2 Q E
def Uq(C:Addr)(sp:Sp)(dvs:List V)(E:XK)(t:TA):TE:=λσ H Q=>t σ H λvs H1=>∀x dx,H1 x=J->H1 dx=J->dx≠x ->
 sp (.ref x::(vs++dvs)) (upd (upd H1 dx (.own x)) x (.ins C dx [])) (λv H2=>v=.non/\Q (.ref x) H2) E
def Binds(K:v9)(fd:T5)(ps:List Str)(ds:List t2):Prop:=
 ∀(s:v5) (us:List t2),K.In s.heap->(us++ds).length=ps.length->lJ s fd ⟨us,[]⟩ (ps.zip (us++ds))
def Binds.all(h:∀us:List t2,us.length=N.length->bindArgs a8 ⟨us,[]⟩=pure (N.zip us)):Binds O a8 N []:=λs us _ b=>by rw[bV]at b ⊢;exact .of_eq (h us b)
def Passes(CX:Bi)(X:Cx)(E:XK):Prop:=∀(pins:List (Addr×Obj)) (σ:St) (H:Hp) (s:v5) (e:t2) (s':v5),Inv X pins σ H s->CX X.stack H s E e s'->X.xe e s'
section
variable{f C:Addr}
def Ca{H:Hp}{us:List t2}{vs:List V}(F:bc X.prog X.w X.K X.mg X.base a7 k f a8 N a9)(g:N7 k X.A)(l:Binds X.K a8 N z)(hd:Vals r z)(a:Passes a7 X b5)(I:Inv X d n H c)(E:Vals vs us)(h:a9 (vs++r) H c9 b5):wpAny (model X.prog X.w) X.A (call (.ref f) us) (EP X d n c9) X.xe c:=by
 have b:=E.append hd;have i:(us++z).length=N.length:=by rw[<-b.length];exact F.len _ _ _ _ h
 refine wpAny_call (yM (F.run X.A X.stack c H ⟨us,[]⟩ (us++z) (vs++r) c9 b5 g I.a0U (l c us I.gF i) b h) λE j hq=>?_)
 cases E with
 |error e=>exact a d n H c e j I hq
 |ok s =>
  cases s with
  |ret u=>exact I.after hq
  |next=>exact dA hq
  |brk=>exact dA hq
  |cont=>exact dA hq
def Hj(F:bc X.prog X.w X.K X.mg X.base a7 k f a8 N a9)(l:N7 k X.A)(n:Gl X m)(g:X.mg m=U (.ref f))(u:gT X.K (.ref f)=Uf)(t:Binds X.K a8 N z)(hd:Vals r z)(j:Passes a7 X b5)(v:PA X (o::G) S)(b:autoParam ((m==("__debug__" : Str))=U') F8)(i:autoParam (v7 (o::G) X.env=(U',eval o X.env)::v7 G X.env) t5)(c:autoParam ((F9 R (v7 G X.env)).any (·.1)=U') t5):
  PE X (.Call (.Name m p) (o::G) [] R) (ro a9 r b5 S):=by
 intro a s e H Q I h;refine ra (zW I n g ?_ b);refine Fj I.ok.mod.HG u (F1 (v R a s e H _ I h) λB x ⟨y,C,d,E,q⟩=>⟨d.gF,?_⟩) i c;exact Ca F l t hd j d E q
def Hh (M:PE X o t) (c:uS X.K C) (v:Meth X.K C m f) (F:bc X.prog X.w X.K X.mg X.base a7 k f a8 N a9) (E:N7 k X.A) (P:Binds X.K a8 N z) (hd:Vals r z) (B:Passes a7 X b5) (K:PA X (Z::G) S) (d:autoParam (v7 (Z::G) X.env=(U',eval Z X.env)::v7 G X.env) t5) (g:autoParam ((F9 p (v7 G X.env)).any (·.1)=U') t5) (w:autoParam (eval (.Call (.Attribute o m R) (Z::G) [] p) X.env=(do
   let ov <- eval o X.env
   dw R.atName
   let (f,first) <- holding [ov] (jx ov m d3)
   callWith p f first (F9 p (v7 (Z::G) X.env)) (bO p (dX [] X.env)))) t5) :
  PE X (.Call (.Attribute o m R) (Z::G) [] p) (mI C m a9 r b5 t S):=by
 intro b s n H Q I h;refine OO (F1 (M b s n H _ I h) λu W ⟨x,O,A,D,a,Y,fs,L,y,l,q⟩=>?_) w;subst L;obtain rfl:=D;refine xX A y c v l ?_;refine Fj I.ok.mod.HG v.kp (F1 (K p b W n O _ A q) λCX V ⟨j,T,i,e,q2⟩=>⟨i.gF,?_⟩) d g;exact Ca (vs:=.ref a::j) F E P hd B i (.cons rfl e) q2
def Ry (j:PE X o t) (c:uS X.K C) (e:Meth X.K C m f) (F:bc X.prog X.w X.K X.mg X.base a7 k f a8 N a9) (A:N7 k X.A) (v:Binds X.K a8 N z) (hd:Vals r z) (n:Passes a7 X b5) (i:autoParam (eval (.Call (.Attribute o m R) [] [] p) X.env=(do
   let ov <- eval o X.env
   dw R.atName
   let (f,first) <- holding [ov] (jx ov m d3)
   callWith p f first (F9 p (v7 [] X.env)) (bO p (dX [] X.env)))) t5) :
  PE X (.Call (.Attribute o m R) [] [] p) (mI C m a9 r b5 t nA):=by
 intro b s E H Q I h;refine OO (F1 (j b s E H _ I h) λu w ⟨x,D,d,G,a,B,fs,y,g,l,q⟩=>?_) i;subst y;obtain rfl:=G;refine xX d g c e l ?_;exact PySem.W.callWith_K0 d.gF e.kp (Ca (vs:=[.ref a]) F A v hd n d (.cons rfl .nil) q)
structure Mk(K:v9)(C f:Addr):Prop where
 makes:EJ K C=Uf
 init:aY K (.ref C) "__init__" = U (U (.ref f))
 fn:uu K (.ref f)=Uf
 kp:gT K (.ref C)=Uf
def Qx{us:List t2}{vs:List V}(M:Mk X.K C f)(F:bc X.prog X.w X.K X.mg X.base a7 k f a8 N a9)(s:N7 (k+1) X.A)(H:Binds X.K a8 N z)(hd:Vals r z)(l:Passes a7 X b5)(I:Inv X d n a c)(E:Vals vs us)(h:∀x w,a x=J->a w=J->w≠x->a9 (.ref x::(vs++r)) (upd (upd a w (.own x)) x (.ins C w [])) (λv H2=>v=.non/\c9 (.ref x) H2) b5):
  wpAny (model X.prog X.w) X.A (call (.ref C) us) (EP X d n c9) X.xe c:=by
 have hq:=h ((hz c)+1) (hz c) (I.J1.fresh (Nat.le_succ _)) (I.J1.fresh E7) (Q1 (uC _));have b:=Inv.made (C:=C) I;have g:Vals (V.ref ((hz c)+1)::(vs++r)) (aU ((hz c)+1)::(us++z)):=.cons rfl (E.append hd);have p:(aU ((hz c)+1)::us++z).length=N.length:=by have e:=g.length;rw[F.len _ _ _ _ hq]at e;exact e.symm
 refine wpAny_call (Sn I.gF M.makes M.init (beq_iff_eq.mp M.fn) (yM (F.run _ X.stack _ _ ⟨aU ((hz c)+1)::us,[]⟩ (aU ((hz c)+1)::(us++z)) _ _ b5 (s.make C us [])
  (b.a0U.make C us []) (H _ (aU ((hz c)+1)::us) b.gF p) g hq) λE q Q=>?_))
 cases E with
 |error e=>exact l d n _ _ e q b Q
 |ok i =>
  cases i with
  |ret u =>
   obtain⟨v,y,j,o,t,m⟩:=b.after Q;subst t;exact⟨o,⟨V.ref ((hz c)+1),y,j,rfl,m⟩⟩
  |next=>exact dA Q
  |brk=>exact dA Q
  |cont=>exact dA Q
def WE(M:Mk X.K C f)(F:bc X.prog X.w X.K X.mg X.base a7 k f a8 N a9)(l:N7 (k+1) X.A)(n:Gl X m)(g:X.mg m=U (.ref C))(t:Binds X.K a8 N z)(hd:Vals r z)(j:Passes a7 X b5)(u:PA X (o::G) S)(b:autoParam ((m==("__debug__" : Str))=U') F8)(i:autoParam (v7 (o::G) X.env=(U',eval o X.env)::v7 G X.env) t5)(c:autoParam ((F9 R (v7 G X.env)).any (·.1)=U') t5):
  PE X (.Call (.Name m p) (o::G) [] R) (Uq C a9 r b5 S):=by
 intro a s e H Q I h;refine ra (zW I n g ?_ b);refine Fj I.ok.mod.HG M.kp (F1 (u R a s e H _ I h) λx y ⟨v,B,d,E,q⟩=>⟨d.gF,?_⟩) i c;exact Qx M F l t hd j d E q
end
section
variable{fd:T5}{ps ks:List Str}
structure a4g(K:v9)(fd:T5)(ps ks:List Str)(g:List t2->List t2->List t2)(gV:List V->List V->List V):Prop where
 to:∀(s:v5) (us ws:List t2),K.In s.heap->(g us ws).length=ps.length->lJ s fd ⟨us,ks.zip ws⟩ (ps.zip (g us ws))
 rel:∀{vs:List V} {us:List t2} {zs:List V} {ws:List t2},Vals vs us->Vals zs ws->Vals (gV vs zs) (g us ws)
end
structure kK(N P:List Str)(sc:eF):Prop where
 kind:sc.kind=.function
 co:sc.isCoroutine=U'
 gen:sc.isGenerator=U'
 nd:N.Nodup
 pre:N.take P.length=P
 par:∀x∈P,sc.names.lookup x=U .local\/sc.names.lookup x=U .cell
 a0k:∀y∈sc.names,y.2≠.free
theorem Ba{a:Str->Option lK}{x:Str}:∀{binds:List (Str×t2)} {m:Str->Option t2},(∀v,(x,v)∉binds)->bindL a binds m x=m x
 | [],_,_=>rfl
 |(n,v)::r,m,h=>by
  unfold bindL;rw[Ba λw b=>h w (C6 _ b)];split
  . have:x≠n:=by rintro rfl;exact h v D1
    simp[this]
  rfl
theorem Bc{a:Str->Option lK}{x:Str}:∀{binds:List (Str×t2)} {m:Str->Option t2},(∀v,(x,v)∉binds)->bindC a binds m x=m x
 | [],_,_=>rfl
 |(n,v)::r,m,h=>by
  unfold bindC;rw[Bc λw b=>h w (C6 _ b)];split;rfl
  . have:x≠n:=by rintro rfl;exact h v D1
    simp[this]
theorem Bb{a:Str->Option lK}{x:Str}{v:t2}:∀{P:List Str} {vs:List t2} {i:Nat} {m:Str->Option t2},P.Nodup->P[i]? = U x->vs[i]? = U v->a x=U .local ->
  bindL a (P.zip vs) m x=U v
 | [],_,_,_,_,h,_,_=>by simp at h
 |_::_,[],_,_,_,_,h,_=>by simp at h
 |p::P,w::vs,0,m,nd,h1,h2,hk=>by
  simp at h1 h2;subst h1;subst h2;show bindL a ((p,w)::P.zip vs) m p=_;unfold bindL;rw[Ba λv b=>(List.nodup_cons.mp nd).1 (EI b).1,f9 hk];simp
 |p::P,w::vs,i+1,m,nd,h1,h2,hk=>by
  show bindL a ((p,w)::P.zip vs) m x=_;exact Bb (List.nodup_cons.mp nd).2 (by simpa using h1) (by simpa using h2) hk
theorem Be{a:Str->Option lK}{x:Str}{v:t2}:∀{P:List Str} {vs:List t2} {i:Nat} {m:Str->Option t2},P.Nodup->P[i]? = U x->vs[i]? = U v->a x≠U .local ->
  bindC a (P.zip vs) m x=U v
 | [],_,_,_,_,h,_,_=>by simp at h
 |_::_,[],_,_,_,_,h,_=>by simp at h
 |p::P,w::vs,0,m,nd,h1,h2,hk=>by
  simp at h1 h2;subst h1;subst h2;show bindC a ((p,w)::P.zip vs) m p=_;unfold bindC;rw[Bc λv b=>(List.nodup_cons.mp nd).1 (EI b).1,f6 hk];simp
 |p::P,w::vs,i+1,m,nd,h1,h2,hk=>by
  show bindC a ((p,w)::P.zip vs) m x=_;exact Be (List.nodup_cons.mp nd).2 (by simpa using h1) (by simpa using h2) hk
def start(N:List Str)(vs:List V):St:=vs.map U++D3 (N.length-vs.length) J
noncomputable def pQ(CX:Bi)(P:L9)(w:E1)(K:v9)(mg:Str->Option t2)(base:Heap)(N:List Str)(qual:Str)(scope:eF)(f:Addr)(cd:t2)(A:Z4)(outer:List Env)(s:v5)(H:Hp)(E:XK):Cx where
 prog:=P
 w:=w
 K:=K
 mg:=mg
 base:=base
 A:=A.deeper (fq qual scope s.heap.objs.size f cd)
 N:=N
 V4:=s
 D7:=H
 env:=fq qual scope s.heap.objs.size f cd
 outer:=outer
 stack:=fq qual scope s.heap.objs.size f cd::outer
 ex:=[]
 calm:=Uf
 fn:=λ_=>Uf
 pn:=[]
 xe:=λe s'=>wpAny (model P w) (A.deeper (fq qual scope s.heap.objs.size f cd)) (leaving (fq qual scope s.heap.objs.size f cd) e) (λ_ s''=>CX outer H s E e s'') (λe' s''=>CX outer H s E e' s'') s'
def DN(h:e8.names.lookup m=U .cell):∃c,(gO k e8.names []).lookup m=U c:=by exact Option.isSome_iff_exists.mp (OT e8.names k [] (.inl h))
def ML{K:List Str}{s1:v5}(S:kK N K e8)(hd:A.handled=J)(j:xa y a2 O a6 h A i3 c a)(Q:r.length=K.length)(E:Vals r z)(x:InCallC c (hz c) (bindL (fq m e8 (hz c) e D).kindOf (K.zip z) λ_=>J) (gO ((hz c)+1) e8.names []) (bindC (fq m e8 (hz c) e D).kindOf (K.zip z) λ_=>J) s1):
  Inv (pQ a7 y a2 O a6 h N m e8 e D A i3 c a b5) [] (start N r) a s1:=by
 have:K.length<=N.length:=by have:=B9 jA S.pre;rw[jH]at this;lia
 obtain⟨F,R,rfl,G⟩:=x.done;have l:∀b:Addr,b∉(pQ a7 y a2 O a6 h N m e8 e D A i3 c a b5).ex:=λb H=>absurd (show b∈([])from H) B3
 refine⟨⟨j.mod,S.kind,rfl,rfl,T6 _,λP H f F g=>?_,λP o=>?_,λP f _ w=>?_,λ_=>hd,Around.frames_deeper j.frames,.inr ⟨rfl,rfl⟩,λb H=>absurd H (l b),j.bs,j.sG,λb _ _=>l b,λb H=>absurd H (l b),j.kC,j.AY⟩,
  rfl,j.bare,Un.kept G,⟨_,x.toInCall.ns,λi P v F g T=>?_⟩,λP f w=>⟨_,x.cell P f w⟩,j.J1.fresh E7,λP f w=>?_,λp t=>absurd (show p∈([])from t) B3,j.J1.kept G,?_⟩
 exact name_of_addr x.apart (ma F) (ma g)
 . have o:=o;rcases o with o|o
   exact DN o;exact absurd rfl (S.a0k _ (ma o))
 exact Q3 (x.above P f (ma w))
 . have C:i<r.length:=by
     unfold start at g;by_cases C:i<r.length;exact C
     . rw[js (by simpa using C)]at g
       rw[FN]at g;split at g<;>cases g
   have M:r[i]? = U v:=by
    unfold start at g;rw[fZ (by simpa using C),L1]at g
    cases d:r[i]? with
    |none=>rw[d]at g;exact nE g
    |some s=>rw[d]at g;cases g;rfl
   obtain⟨u,I,L⟩:=E.get M;have t:K[i]? = U P:=by rw[<-S.pre,List.getElem?_take_of_lt (Oq s9 s9)];exact F
   have B:K.Nodup:=by rw[<-S.pre];exact S.nd.sublist (List.take_sublist _ _)
   refine⟨u,L,?_⟩;rcases S.par P (oJ t)with k|k
   exact .inl ⟨k,Bb B t I k⟩;obtain⟨f,d⟩:=DN k;refine .inr ⟨.inl k,f,d,?_⟩;have q:=x.cell P f d;rw[Be B t I (by show e8.names.lookup P≠_;rw[k];decide)]at q;exact q
 exact j.J1.fresh (Q3 (x.above P f (ma w)));delta start;show _=N.length;rw[au,C5,rf];simp[*]
def a2f {qual:Str} {params:Arguments} {kV doc pm cdv ct oc:t2} {an od:Option Addr} {osl:Array (Option t2)} {ps:List Str} (lk:O.lookup e=U ⟨oc,od,.func (gR m qual params b7 e8 D kV doc pm an cdv ct),osl⟩) (hcd:yS O cdv qual=Uf) (S:kK N ps e8) (len:∀vs H Q E,a9 vs H Q E->vs.length=ps.length) (hbody:∀(A:Z4) (outer:List Env) (s:v5) (H:Hp) (vs:List V) (Q:VK) (E:XK),N7 k (A.deeper (fq qual e8 s.heap.objs.size e cdv))->a9 vs H Q E ->
   ∃t,pC (pQ a7 y a2 O a6 h N qual e8 e cdv A outer s H E) b7 t/\t {nx:=λ_ H'=>Q .non H',rt:=Q} (start N vs) H) :
  bc y a2 O a6 h a7 (k+1) e (gR m qual params b7 e8 D kV doc pm an cdv ct) ps a9:=by
 refine⟨len,λA outer s H args us vs Q E hr e0 hb r hsp=>?_⟩;have hl:=len _ _ _ _ hsp;have KX:O.In s.heap:=e0.mod.HG.keeps λb o w=>(e0.bs b o w).1;have lim:s.heap.NoLimit:=e0.mod.nolimit.keeps λb o w=>(e0.bs b o w).1
 have hkind:∀P∈ps.zip us,e8.names.lookup P.1=U .local\/(e8.names.lookup P.1=U .cell/\((gO (s.heap.objs.size+1) e8.names []).lookup P.1).isSome=Uf):=λ⟨n,v⟩ hy=>by
  rcases S.par n (EI hy).1 with q|q
  exact .inl q;exact .inr ⟨q,OT _ _ _ (.inl q)⟩
 refine codeAny_call_function hr.depth (KX _ _ lk) rfl S.co S.gen rfl (PySem.W.codeRec_of KX hcd) (hb _ _ _ _ ?_);refine wpAny_newFunctionEnv_cells S.kind hkind λenv he s1 x=>?_;subst he;refine⟨lim.keeps x.toInCall.keep,codeAny_func ?_⟩;obtain⟨t,ht,hq⟩:=hbody A outer s H vs Q E (hr.deeper _) hsp;have I:Inv (pQ a7 y a2 O a6 h N qual e8 e cdv A outer s H E) [] (start N vs) H s1:=ML S hr.hd e0 hl r x;refine bP (ht [] s1 (start N vs) H _ I hq) (λfl s' hs=>?_) λw s' hs=>hs
 have fin:∀{σ':St} {H':Hp} {v:V} {u:t2},Inv (pQ a7 y a2 O a6 h N qual e8 e cdv A outer s H E) [] σ' H' s'->RelV v u->Q v H'->CE outer y a2 H s Q u s':=
  λ{σ' H' v u} Jff rv q=>⟨v,H',Jff.os,Jff.bare,Jff.base,Jff.J1,rv,q⟩
 cases fl with
 |ret u =>
  obtain⟨v,σ',H',Jff,rv,q⟩:=hs;exact fin Jff rv q
 |next =>
  obtain⟨σ',H',Jff,q⟩:=hs;exact fin (v:=V.non) (u:=Ed) Jff rfl q
 |brk =>
  obtain⟨_,_,_,q⟩:=hs;exact dA q
 |cont =>
  obtain⟨_,_,_,q⟩:=hs;exact dA q
section
variable{T:String}
def xm(r:List V->Hp->VK->Prop)(t:TA):TE:=λσ H Q=>t σ H λvs H1=>r vs H1 Q
def Ct{id:String}(w:br X (.builtin id) i4)(x:Gl X m)(f:X.mg m=J)(i:dZ m=U (.builtin id))(y:PA X (o::G) S)(g:autoParam (m ≠ "__name__") F8)(b:autoParam ((m==("__debug__" : Str))=U') F8)(j:autoParam (v7 (o::G) X.env=(U',eval o X.env)::v7 G X.env) t5)(c:autoParam ((F9 R (v7 G X.env)).any (·.1)=U') t5):PE X (.Call (.Name m p) (o::G) [] R) (xm i4 S):=by intro a s d H Q I h;refine ra (gE I x f i ?_ g b);exact PyProof.Rows.callWith_builtin1 (F1 (y R a s d H _ I h) λe n ⟨l,q,u,k,v⟩=>w a n d q l e Q u k v) j c
def LN(w:br X (.type T) i4)(x:Gl X m)(f:X.mg m=J)(i:dZ m=U (.type T))(y:PA X (o::G) S)(g:autoParam (m ≠ "__name__") F8)(b:autoParam ((m==("__debug__" : Str))=U') F8)(j:autoParam (v7 (o::G) X.env=(U',eval o X.env)::v7 G X.env) t5)(c:autoParam ((F9 R (v7 G X.env)).any (·.1)=U') t5):PE X (.Call (.Name m p) (o::G) [] R) (xm i4 S):=by intro a s d H Q I h;refine ra (gE I x f i ?_ g b);exact pG (F1 (y R a s d H _ I h) λe n ⟨l,q,u,k,v⟩=>w a n d q l e Q u k v) j c
end
end L2
namespace HT
open PySem PyProof.Rows
variable{A:Z4}{E:t2->v5->Prop}{s:v5}{b:Addr}{v:t2}{o:Option Int}{a:Array t2}
def lexLt:List Int->List Int->Bool
 | [],[]=>U'
 | [],_::_=>Uf
 |_::_,[]=>U'
 |x::xs,y::ys=>if x=y then lexLt xs ys else decide (x<y)
def JB(x y:Int)(xs ys:List Int):lexLt (x::xs) (y::ys)=if x=y then lexLt xs ys else decide (x<y):=rfl
def Bq:lexLt [] []=U':=rfl
def zU(y:Int)(ys:List Int):lexLt [] (y::ys)=Uf:=rfl
def zV(x:Int)(xs:List Int):lexLt (x::xs) []=U':=rfl
def Ta(A:Z4)(s:v5)(a:Int)(t:Tok)(c:Int)(u:Tok):∃e,SeqAt.EqAt A s (.int a t) (.int c u) e/\(e=Uf↔a=c):=
 ⟨(a==c),SeqAt.EqAt.int_int a t c u,by simp⟩
def QA(A:Z4)(s:v5)(a:Int)(t:Tok)(c:Int)(u:Tok)(prog:L9)(w:E1)(E:t2->v5->Prop)(Q:t2->v5->Prop)(h:Q (.bool (decide (a<c))) s):
  wpAny (model prog w) A (richCompare .Lt (.int a t) (.int c u)) Q E s:=
 (PyProof.Rows.lt_int h)
section
open PySem.SeqAt
open PySem.AutoSeq1 (wpAny_loadPart')
open PySem.MeetsSeq PySem.MeetsSeq2 PySem.MeetsSeq3
def Bk(l b:Addr)(items items2:Array t2)(n n2:Nat)(dd dd2:Option Addr)(sl D6:Array (Option t2))(ns ms:List Int)(hi:du items.toList ns)(hj:du items2.toList ms):
  Meets (Builtin.«tuple.__lt__» ⟨[.ref l,.ref b],[]⟩)
   (λ_ R s=>s.heap.get? l=U {cls:=.type "tuple",dict:=dd,data:=.seq items n,slots:=sl}/\s.heap.get? b=U {cls:=.type "tuple",dict:=dd2,data:=.seq items2 n2,slots:=D6} /\
    R (.ok (.ret (.bool (lexLt ns ms)))) s):=
 .of_wp λprog w A R s h=>by
  obtain⟨hp,g,d,tk,os⟩:=s;obtain⟨hl,hb,h⟩:=h;have f2:=AutoSeq1.sub_tuple_tuple;have z1:items.size=ns.length:=by rw[<-hi.length];simp
  have z2:items2.size=ms.length:=by rw[<-hj.length];simp
  wp_walk using wpAny_loadPart' hl,wpAny_loadPart' hb,wpAny_forIn_list _ (λrest b s'=>b.1=J/\s'=⟨hp,g,d,tk,os⟩/\∃(vs ws:List t2) (ns' ms':List Int),rest=vs.zip ws /\
   du vs ns'/\du ws ms'/\ns'.length+items2.size=ms'.length+items.size/\R (.ok (.ret (.bool (lexLt ns' ms')))) ⟨hp,g,d,tk,os⟩) _
  case turn =>
   rintro⟨y,x⟩ rest b s' ⟨hb',rfl,vs,ws,ns',ms',hz,hvi,hwi,hlen,hR⟩;cases hvi with
   |nil=>rw[List.zip_nil_left]at hz;cases hz
   |cons a t hvi' =>
    cases hwi with
    |nil=>rw[List.zip_nil_right]at hz;cases hz
    |cons c u hwi' =>
     rw[kU]at hz;injection hz with hyx hrest
     injection hyx with hy hx
     subst hy hx;rw[JB]at hR;simp only[Y2]at hlen;obtain⟨e,he,hiff⟩:=Ta A.in1 ⟨hp,g,d,tk,os⟩ a t c u;refine u4 (he prog w _ _ ?_);cases e with
     |true =>
      rw[f9 (hiff.mp rfl)]at hR
      wp_walk
      exact⟨rfl,rfl,_,_,_,_,hrest,hvi',hwi',by omega,hR⟩
     |false =>
      rw[f6 (λq=>absurd (hiff.mpr q) cY)]at hR;have hri:=QA A.in1 ⟨hp,g,d,tk,os⟩ a t c u prog w
      wp_walk using hri
      exact⟨_,rfl,by simpa using hR⟩
  case fin =>
   rintro⟨b1,b2⟩ s' ⟨hb',rfl,vs,ws,ns',ms',hz,hvi,hwi,hlen,hR⟩;simp only at hb';subst hb';have hv:lexLt ns' ms'=decide (items.size<items2.size):=by
    cases hvi with
    |nil =>
     cases hwi with
     |nil =>
      simp only[jD]at hlen;rw[Bq];exact(aM (by simp_all)).symm
     |cons c u hw =>
      simp only[jD,Y2]at hlen;rw[zU];exact(fW (by simp_all)).symm
    |cons a t hv =>
     cases hwi with
     |nil =>
      simp only[jD,Y2]at hlen;rw[zV];exact(aM (by omega)).symm
     |cons c u hw =>
      rw[kU]at hz;cases hz
   rw[hv]at hR
   wp_walk
   exact⟨_,rfl,by simpa [Builtin.Tuple.tupleCompareSizes]using hR⟩
  case h =>
   exact⟨rfl,rfl,items.toList,items2.toList,ns,ms,rfl,hi,hj,by omega,h⟩
end
section
variable{prog:L9}{w:E1}
def Jx{l:Addr}{items:Array t2}{ns ms:List Int}{Q:t2->v5->Prop}(v:gJ s.heap l items)(C:gJ s.heap b a)(r:du items.toList ns)(t:du a.toList ms)(q:A.units<R3)(h:Q (.bool (lexLt ns ms)) s):wpAny (model prog w) A (W5 .Lt (.ref l) (.ref b)) Q E s:=by
 obtain⟨⟨z,B,o,u⟩,m,p,n,j⟩:=id v;obtain⟨⟨k,f,g,i⟩,d,c,y,e⟩:=id C;subst p j c e;exact richCompare_meets_room (op:=.Lt) ⟨_,m,rfl⟩ ⟨_,d,rfl⟩ PySem.F.slot_tuple_lt PySem.F.entry_tuple_lt (PySem.F.args_tuple_lt_2 _ _) (Bk l b items a n y B f u i ns ms r t)
  ⟨m,d,show uj (lexLt ns ms)≠Value.notImplemented/\Q (.bool (lexLt ns ms)) s from⟨(λx=>nomatch x),h⟩⟩ q
def XH{t:Addr}{vs ws:List t2}{Q:t2->v5->Prop}(x:gJ s.heap t vs.toArray)(B:gJ s.heap b ws.toArray)(p:vs≠[])(z:ws=[]->Q (.ref t) s)(y:ws≠[]->Q (.ref s.heap.objs.size) {s with heap:=s.heap.push {cls:=.type "tuple",data:=.seq (vs++ws).toArray}})(hsz:vs.length+ws.length<=E6):wpAny (model prog w) A (aA .Add (.ref t) (.ref b)) Q E s:=by
 obtain⟨⟨l,v,g,q⟩,i,u,n,m⟩:=id x;obtain⟨⟨o,c,k,f⟩,a,d,r,h⟩:=id B;subst u m d h;have e:vs.toArray++ws.toArray=(vs++ws).toArray:=by simp
 by_cases j:ws=[]
 . exact yL ⟨_,i,rfl⟩ ⟨_,a,rfl⟩ ET Ew FK FL (FQ _ _)
     (tuple_addW1 t b vs.toArray ws.toArray n r v c q f (by simpa using p) (by simp[j])) ⟨i,a,z j⟩
 . refine yL ⟨_,i,rfl⟩ ⟨_,a,rfl⟩ ET Ew FK FL (FQ _ _)
     (tuple_addW2 t b vs.toArray ws.toArray n r v c q f (by simpa using p) (by simpa using j) (by rw[V1,V1];exact hsz)) ⟨i,a,?_⟩
   rw[e];exact y j
def N8(n d:Nat):Option Int->Nat
 |none=>d
 |some v=>if v<0 then(v+(n:Int)).toNat else min v.toNat n
def Ij(v:Int)(n d:Nat):(if v<0 then max (v+(n:Int)) 0 else min v (n:Int))=((N8 n d (U v):Nat):Int):=by
 show(if v<0 then max (v+n) 0 else min v n)=(((if v<0 then(v+n).toNat else min v.toNat n)));by_cases a:v<0;simp only[f9 a];simp[*];simp only[f6 a];lia
def Kd(lo a:Option Int)(n:Nat):Pf lo a 1 (n:Int)=(((N8 n 0 lo:Nat):Int),((N8 n n a:Nat):Int)):=by
 refine Prod.ext ?_ ?_
 . cases lo with
   |none=>rfl
   |some v=>exact Ij v n 0
 . cases a with
   |none=>rfl
   |some v=>exact Ij v n n
def IU(i j:Nat):zw (i:Int) (j:Int) 1=j-i:=by delta zw;split<;>lia
def xo{Q:Option Int->v5->Prop}(p:gK v o)(h:Q o s):wpAny (model prog w) A (Builtin.Slice.slicePartIndex v) Q E s:=by
 cases p with
 |none=>exact slicePart_none h
 |int i t=>exact slicePart_int h
def nC{e:t2}{c:Option Int}{n:Nat}{Q:Int×Int×Nat->v5->Prop}(hs:s.heap.IsSliceOf b v e .none)(pl:gK v o)(i:gK e c)(h:Q (((N8 n 0 o:Nat):Int),1,N8 n n c-N8 n 0 o) s):wpAny (model prog w) A (Builtin.Slice.sliceApplied (.ref b) (pure (n:Int))) Q E s:=by
 obtain⟨j,a,g,f⟩:=id hs;refine u4 (u4 (Z1 a f rfl (u4 (Z1 a f rfl (u4 (Z1 a f rfl (z6 ?_)))))));refine u4 (slicePart_none ?_);refine u4 (xo pl (u4 (xo i (u4 (z6 ?_)))));show wpAny _ _ (match Pf o c 1 n with|(o,c)=>pure (o,(1:Int),zw o c 1)) _ _ s;rw[Kd o c n];show wpAny _ _ (pure (((N8 n 0 o):Int),1,zw ((N8 n 0 o)) ((N8 n n c)) 1)) _ _ s;rw[IU];exact z6 h
def Rt(xs:Array t2)(i k:Nat):((D0 k).filterMap λ(m:Nat)=>xs[((i:Int)+(m:Int)*1).toNat]?).toArray=((xs.toList.drop i).take k).toArray:=by
 have e:(λ(m:Nat)=>xs[((i:Int)+m*1).toNat]?)=λm=>xs[i+m]?:=by
  funext m
  have:((i:Int)+m*1).toNat=i+m:=by lia
  rw[this]
 rw[e];have:=pick_run xs i k;rw[List.filterMap_map]at this;have a:((λx=>xs[x]?)∘λx=>i+x)=λm=>xs[i+m]?:=rfl;rw[a]at this;rw[this]
def vG{i:Addr}{j:t2}{t:Option Int}{Q:t2->v5->Prop}(c:gJ s.heap b a)(hs:s.heap.IsSliceOf i v j .none)(pl:gK v o)(p:gK j t)(l:¬(N8 a.size 0 o=0/\N8 a.size a.size t=a.size))(h:Q (.ref s.heap.objs.size) {s with heap:=s.heap.push {cls:=.type "tuple",data:=.seq ((a.toList.drop (N8 a.size 0 o)).take (N8 a.size a.size t-N8 a.size 0 o)).toArray}})(hsz:a.size<=E6):wpAny (model prog w) A (gL (.ref b) (.ref i)) Q E s:=by
 have k:sizeOk (.seq ((a.toList.drop (N8 a.size 0 o)).take (N8 a.size a.size t-N8 a.size 0 o)).toArray):=by
  show((a.toList.drop (N8 a.size 0 o)).take (N8 a.size a.size t-N8 a.size 0 o)).toArray.size<=E6;rw[V1,jH,uB,Fs];exact B6 (ES _ _) (B6 (yC _ _) s9)
 obtain⟨m,g,d,n⟩:=id hs;have e:s.TypeIs (.ref i) "slice":=⟨m,g,d⟩;delta gL;try with_reducible refine fy ?_
 first|refine u4 (z6 ?_)|skip
 refine u4 (wpAny_sequenceKey c.typeIs f5 ?_);refine u4 (mP c.typeIs zz
  (jG zz c.typeIs entry_tuple_getitem ?_ (args_tuple_getitem _ _)))
 show wpAny _ _ (Pg (.ref b) >>= _) _ _ s
 refine u4 (tupleItemsOf_ c ?_);refine u4 (ur e ?_);refine u4 (nC hs pl p ?_);have f:¬((((N8 a.size 0 o):Int)==0&&(1:Int)==1&&(N8 a.size a.size t-N8 a.size 0 o)==a.size)=Uf):=by exact λq=>l ⟨by simp_all,by lia⟩
 show wpAny _ _ (if (((N8 a.size 0 o):Int)==0&&1==1&&(N8 a.size a.size t-N8 a.size 0 o)==a.size)=Uf then _ else _) _ _ s
 rw[f6 f,Rt];first
  |exact u4 (lW (z6 ⟨_,rfl,z6 h⟩) k)
  |exact u4 (lW (u4 (z6 (z6 ⟨_,rfl,z6 h⟩))) k)
  |exact u4 (u4 (lW (z6 (z6 ⟨_,rfl,z6 h⟩)) k))
  |exact u4 (u4 (lW (z6 ⟨_,rfl,z6 h⟩) k))
end
end HT
namespace L2
open PySem PySem.Spec PyProof.Rows
variable{X:Cx}{a:List (Addr×Obj)}{b:St}{H:Hp}{s:v5}{Z:List V}{e:Expr}{Y:TE}{S:List t2}{n:Nat}{R:Pos}{p:Addr}{Q:String}{r:V->Option Int->Option Int->Hp->VK->Prop}{P:Type}{f:t2}{O:V->List V->Hp->VK->Prop}
abbrev TO:=St->Hp->(Option Int->Hp->Prop)->Prop
def PO(X:Cx)(e:Option Expr)(t:TO):Prop:=
 ∀(pins:List (Addr×Obj)) (s:v5) (σ:St) (H:Hp) (Q:Option Int->Hp->Prop),Inv X pins σ H s->t σ H Q ->
  wpAny (model X.prog X.w) X.A (evalPart e X.env) (λu s'=>∃o H',Inv X pins σ H' s'/\gK u o/\Q o H') X.xe s
def GJ:TO:=λ_ H Q=>Q J H
def Um(t:TE):TO:=λσ H Q=>t σ H λx H1=>∃i,x=.int i/\Q (U i) H1
def intsAre_of{ns:List Int}:∀{us:List t2},Vals (ns.map V.int) us->du us ns:=by
 induction ns with
 |nil=>intro us r;rw[qJ]at r;cases r;exact .nil
 |cons n ns b =>
  intro us r;cases r with
  |cons c a =>
   obtain⟨t,e⟩:=c;subst e;exact .cons n t (b a)
def Wx:PO X J GJ:=by exact λa s b H Q I h=>z6 ⟨J,H,I,.none,h⟩
def Ww(h:PE X e Y):PO X (U e) (Um Y):=by
 intro a s d H Q I b;refine F1 (h a s d H _ I b) λu k ⟨x,f,g,c,j⟩=>?_;obtain⟨i,rfl,q⟩:=j;obtain⟨t,rfl⟩:=c;exact⟨U i,f,g,.int i t,q⟩
def vV(X:Cx)(r:V->Option Int->Option Int->Hp->VK->Prop):Prop:=
 ∀(pins:List (Addr×Obj)) (s:v5) (σ:St) (H:Hp) (x:V) (v vl vu:t2) (lo hi:Option Int) (sl:Addr) (Q:VK),Inv X pins σ H s->RelV x v->s.heap.IsSliceOf sl vl vu .none->gK vl lo->gK vu hi->r x lo hi H Q ->
  ∃T id,ui (.type T) "__getitem__" = pure (U (.builtin id))/\s.TypeIs v T/\wpAny (model X.prog X.w) X.A (gL v (.ref sl)) (EP X pins σ Q) X.xe s
def vV.or{c:V->Option Int->Option Int->Hp->VK->Prop}(h:vV X r)(h':vV X c):vV X (λx lo b H Q=>r x lo b H Q\/c x lo b H Q):=by
 intro a s f H x v i e lo b k Q I g j d l q;rcases q with q|q
 exact h a s f H x v i e lo b k Q I g j d l q;exact h' a s f H x v i e lo b k Q I g j d l q
def tSl(r:V->Option Int->Option Int->Hp->VK->Prop)(te:TE)(tl th:TO):TE:=λσ H Q=>te σ H λx H1=>tl σ H1 λl H2=>th σ H2 λu H3=>r x l u H3 Q
def Rx{lo hi:Option Expr}{tl th:TO}{p2:Pos}(F:vV X r)(D:PE X e Y)(n:PO X lo tl)(y:PO X hi th):PE X (.Subscript e (.Slice lo hi J p2) R) (tSl r Y tl th):=by
 intro a s d H Q I h;refine Subscript_ (F1 (D a s d H _ I h) λv o ⟨x,L,t,G,M⟩=>?_);refine wpAny_Slice (F1 (n a o d L _ t M) λg E ⟨l,z,m,B,q2⟩=>F1 (y a E d z _ m q2) λf c ⟨u,i,O,N,k⟩=>?_);refine z6 ?_;have C:Inv X a d i {c with heap:=c.heap.push {cls:=.type "slice",data:=.fields #[g,f,.none]}}:=O.kept λb P q=>G0 _ q;obtain⟨T,w,p,j,K⟩:=F a {c with heap:=c.heap.push {cls:=.type "slice",data:=.fields #[g,f,.none]}} d i x v g f l u (hz c) Q C G (Heap.IsSliceOf.new ..) B N k;exact tail_any j p K (by with_unfolding_all rfl)
def rR(xs:List V)(lo hi:Option Int):List V:=(xs.drop (HT.N8 xs.length 0 lo)).take (HT.N8 xs.length xs.length hi-HT.N8 xs.length 0 lo)
def vS(xs:List V)(lo a:Option Int):(rR xs lo a).length<=xs.length:=by delta rR;rw[jH,uB];exact B6 (ES _ _) (yC _ _)
def a3s(K:v9):V->Option Int->Option Int->Hp->VK->Prop:=λx lo hi H Q=>∃a xs,x=.ref a/\X9 K H a xs /\
 ¬(HT.N8 xs.length 0 lo=0/\HT.N8 xs.length xs.length hi=xs.length)/\∀p,H p=J->Q (.ref p) (upd H p (.tup (rR xs lo hi)))
def YK:vV X (a3s X.K):=by
 intro k s y H x v A w e f B Q I p t l u h;obtain⟨a,d,rfl,n,m,q⟩:=h;cases p;obtain⟨g,r,i,j⟩:=I.tuple n;have c:g.toArray.size=d.length:=by rw[V1];exact r.length.symm
 refine⟨"tuple",_,PyProof.Rows.slot_tuple_getitem.lookup,i.typeIs,?_⟩;refine HT.vG i t l u (by rw[c];exact m) ?_ (by rw[c];exact j);rw[c];refine⟨.ref s.heap.objs.size,_,I.laid (λb z q=>G0 _ q) E7 ?_,rfl,q _ (I.J1.fresh E7)⟩;exact⟨B6 (vS d e f) j,_,(r.drop (HT.N8 d.length 0 e)).take (HT.N8 d.length d.length f-HT.N8 d.length 0 e),yz _ _⟩
def Zc(K:v9):R2:=λx y H Q=>∃a b ns ms,x=.ref a/\y=.ref b/\X9 K H a (ns.map V.int)/\X9 K H b (ms.map V.int)/\Q (.bl (HT.lexLt ns ms)) H
def a0a(f:X.A.units<R3):U5 X (W5 .Lt) (Zc X.K):=by intro d s t H x y v u Q I l k h;obtain⟨a,b,i,r,rfl,rfl,p,n,q⟩:=h;cases l;cases k;obtain⟨o,j,g,_⟩:=I.tuple p;obtain⟨c,e,m,_⟩:=I.tuple n;exact HT.Jx g m (intsAre_of j) (intsAre_of e) f ⟨.bl (HT.lexLt i r),H,I,rfl,q⟩
def a1G(K:v9):R2:=λx y H Q=>∃a b xs ys,x=.ref a/\y=.ref b/\X9 K H a xs/\X9 K H b ys/\xs≠[]/\xs.length+ys.length<=E6 /\
 (ys=[]->Q (.ref a) H)/\(ys≠[]->∀p,H p=J->Q (.ref p) (upd H p (.tup (xs++ys))))
def Vals.vi(r:Vals Z S):S=[]↔Z=[]:=by
 cases r with
 |nil=>simp
 |cons _ _=>simp
def WR:U5 X (aA .Add) (a1G X.K):=by
 intro g s t H x y v u Q I k m h;obtain⟨a,b,B,C,rfl,rfl,r,o,j,f,n,q2⟩:=h;cases k;cases m;obtain⟨p,d,i,_⟩:=I.tuple r;obtain⟨e,c,l,_⟩:=I.tuple o;refine HT.XH i l (λz=>j (d.vi.mp z)) (λz=>⟨.ref a,H,I,rfl,n (c.vi.mp z)⟩) (λz=>?_) (by rw[<-d.length,<-c.length];exact f);refine⟨.ref s.heap.objs.size,_,I.laid (λb A q=>G0 _ q) E7 ?_,rfl,q2 (λw=>z (c.vi.mpr w)) _ (I.J1.fresh E7)⟩;exact⟨by rw[au];exact f,_,d.append c,yz _ _⟩
noncomputable def jd(n:Nat)(i:Int):Option Nat:=if 0<=i then(if i<n then U i.toNat else J)else if -(n:Int)<=i then U (i+n).toNat else J
def aS(xs:List P)(i:Int):Option P:=(jd xs.length i).bind λj=>xs[j]?
def HI{i:Int}{j:Nat}(h:jd n i=U j):seqIndex? i n=U j/\j<n/\-(n:Int)<=i/\i<n:=by
 unfold jd at h;by_cases b:0<=i;rw[f9 b]at h;by_cases a:i<n;rw[f9 a]at h;exact⟨by rw[seqIndex_of b a,(V0 h)],by lia,by lia,a⟩;rw[f6 a]at h;exact nE h;rw[f6 b]at h;by_cases a : -n<=i;rw[f9 a]at h;exact⟨by rw[Eo (Int.not_le.1 s9) a,(V0 h)],by lia,a,by lia⟩;rw[f6 a]at h;exact nE h
def Ar{xs:List P}{i:Int}{v:P}(h:aS xs i=U v):∃j,seqIndex? i xs.length=U j/\xs[j]? = U v/\j<xs.length/\-(xs.length:Int)<=i/\i<xs.length:=by obtain⟨j,e,h⟩:=r4 h;obtain⟨d,b,c,f⟩:=HI e;exact⟨j,d,h,b,c,f⟩
def qA(b:Expr):Prop:=∀o i,subscripted b U' o i=operate [o,i] (gL o i)
def vY(X:Cx)(r:R2):Prop:=
 ∀(value slice:Expr) (pins:List (Addr×Obj)) (s:v5) (σ:St) (H:Hp) (x y:V) (v u:t2) (Q:VK),Inv X pins σ H s->RelV x v->RelV y u->r x y H Q ->
  subscripted slice U' v u=operate [v,u] (gL v u)->wpAny (model X.prog X.w) X.A (subscriptTail value slice v u) (EP X pins σ Q) X.xe s
def Vh(X:Cx)(id:String)(r:V->List V->Hp->VK->Prop):Prop:=
 ∀(pins:List (Addr×Obj)) (s:v5) (σ:St) (H:Hp) (x:V) (xs:List V) (v:t2) (us:List t2) (Q:VK),Inv X pins σ H s->RelV x v->Vals xs us->r x xs H Q ->
  wpAny (model X.prog X.w) X.A (call (.builtin id) (v::us)) (EP X pins σ Q) X.xe s
section
def vY.or{r d:R2}(h:vY X r)(h':vY X d):vY X (λx y H Q=>r x y H Q\/d x y H Q):=by
 intro b a c s f H x y v u Q I g e q i;rcases q with q|q
 exact h b a c s f H x y v u Q I g e q i;exact h' b a c s f H x y v u Q I g e q i
def IX{b:Expr}{tb:TE}{r:R2}(f:vY X r)(m:PE X e Y)(l:PE X b tb)(hs:qA b):PE X (.Subscript e b R) (sx r Y tb):=by exact λc s j H Q I h=>Subscript_ (TC m l I h λv u a x y d g k i q=>f e b c a j d x y v u Q g k i q (hs _ _))
def Zg(K:v9):R2:=λx y H Q=>∃p xs i v,x=.ref p/\y=.int i/\M8 K H p xs/\aS xs i=U v/\Q v H
def Ze(K:v9):R2:=λx y H Q=>∃p xs i v,x=.ref p/\y=.int i/\X9 K H p xs/\aS xs i=U v/\Q v H
def Zf:R2:=λx y H Q=>∃z i c,x=.str z/\y=.int i/\z.length<=E6/\aS z.cps.toList i=U c/\Q (.str ⟨#[c]⟩) H
def Xp:vY X (Zg X.K):=by
 intro e k a s n H x y v u Q I D L h o;obtain⟨p,R,i,z,rfl,rfl,hq,F,q⟩:=h;cases D;obtain⟨t,rfl⟩:=L;obtain⟨l,r,f,O⟩:=I.list hq;obtain⟨j,c,C,P,G,E⟩:=Ar F;obtain⟨w,A,g⟩:=r.get C;have B:=r.length;have:=qi;have b:EP X a n Q w s:=⟨z,H,I,g,q⟩;by_cases m:0<=i
 . have d:i.toNat=j:=by rw[seqIndex_of m E]at c;exact V0 c
   exact item_listR f.isList m r9 (by rw[d];simpa using A) b o
 . have d:(i+l.toArray.size).toNat=j:=by rw[Eo (Int.not_le.1 s9) G]at c;rw[V1,<-B];exact V0 c
   exact OS f.isList.typeIs slot_list_getitem.lookup
    (wpAny_getItem_list_neg f.isList (Int.not_le.1 s9) (by rw[V1]<;>simp_all) r9 (by rw[d];simpa using A) ⟨rfl,b⟩) o
def a0A:vY X (Ze X.K):=by
 intro a c d s C H x y v u Q I g l h n;obtain⟨p,G,i,z,rfl,rfl,hq,k,q⟩:=h;cases g;obtain⟨t,rfl⟩:=l;obtain⟨o,r,e,B⟩:=I.tuple hq;obtain⟨j,m,f,D,F,E⟩:=Ar k;obtain⟨w,A,b⟩:=r.get f;have:=qi;exact OS e.typeIs slot_tuple_getitem.lookup
  (getItem_tuple e r9 r9 (by rw[V1,<-r.length];exact m) (by simpa using A) ⟨rfl,(⟨z,H,I,b,q⟩)⟩) n
def a0C:vY X Zf:=by
 intro a b d s C H x y v u Q I k p h w;obtain⟨z,i,c,rfl,rfl,B,n,q⟩:=h;obtain⟨t,rfl⟩:=k;obtain⟨D,rfl⟩:=p;obtain⟨j,e,g,E,o,l⟩:=Ar n;have f:z.cps.toList.length=z.length:=by simp[Str.length]
 rw[f]at e o l;have:=qi;exact tail_any (typeIs_str s z t) slot_str_getitem.lookup (getItem_str (by have r:decide (i < -(2 ^ 63))=U':=aM r9;have m:decide (i>=2 ^ 63)=U':=aM r9;rw[r,m,Bool.or_false]) (by rw[e];simpa using g) ⟨.str ⟨#[c]⟩,H,I.tok _,⟨_,rfl⟩,q⟩) w
def GY(K:v9):R2:=λx y H Q=>Zg K x y H Q\/Ze K x y H Q\/Zf x y H Q
def Dc:vY X (GY X.K):=Xp.or (a0A.or a0C)
def Ju(a:List t2)(n j:Nat)(u:t2):uh (·.setIfInBounds j u) {cls:=.type "list",data:=.seq a.toArray n}={cls:=.type "list",data:=.seq (a.set j u).toArray n}:=by simp[uh]
theorem Inv.lst(I:Inv X a b H s)(h:H p=U (.lst Z)):
  ∃(c:List t2) (n:Nat),Vals Z c/\s.heap.get? p=U {cls:=.type "list",data:=.seq c.toArray n}/\Z.length<=E6:=by obtain⟨z,c,n,r,e⟩:=I.J1 p _ h;exact⟨c,n,r,e,z⟩
def Inv.a0p{ys:List V}{its':List t2}{c:Nat}{f:Obj->Obj}(I:Inv X a b H s)(h:H p=U (.lst Z))(i:s.heap.get? p=U {cls:=.type "list",data:=.seq S.toArray n})(g:f {cls:=.type "list",data:=.seq S.toArray n}={cls:=.type "list",data:=.seq its'.toArray c})(r:Vals ys its')(hz:ys.length<=E6)(t:Nat):
  Inv X a b (upd H p (.lst ys)) {s with heap:=s.heap.update p f,toks:=t}:=by
 have e:(s.heap.update p f).get? p=U {cls:=.type "list",data:=.seq its'.toArray c}:=by rw[ON f i (by rw[g]<;>rfl),g]
 refine I.write (by rw[h];trivial) (.inl rfl) (λd u j q=>(OR _ _ (jv j)).trans q) ⟨_,e⟩ ?_;exact⟨hz,its',c,r,e⟩
def BB:V->V->V->Hp->(Hp->Prop)->Prop:=λo i v H Q=>∃p xs k j,o=.ref p/\i=.int k/\H p=U (.lst xs)/\jd xs.length k=U j/\Q (upd H p (.lst (xs.set j v)))
def set_list:a1i X BB:=by
 intro a s B H o i v L G u Q I A D C h;obtain⟨p,E,k,j,rfl,rfl,w,y,q⟩:=h;cases A;obtain⟨t,rfl⟩:=D;obtain⟨b,n,r,d,z⟩:=I.lst w;obtain⟨c,K,m,x⟩:=HI y;have e:=r.length;have:=qi;have l:Inv X a B (upd H p (.lst (E.set j v))) {s with heap:=s.heap.update p (uh (·.setIfInBounds j u))}:=
  I.a0p w d (Ju b n j u) (r.set C j) (by rw[NQ];exact z) s.toks
 by_cases g:0<=k
 . have f:k.toNat=j:=by rw[seqIndex_of g x]at c;exact V0 c
   exact PySem.W.ki_setAt d g r9 (by rw[V1,<-e];exact x) (by rw[f];exact⟨_,l,q⟩)
 . have f:(k+b.toArray.size).toNat=j:=by rw[Eo (Int.not_le.1 s9) m]at c;rw[V1,<-e];exact V0 c
   exact PySem.W.ki_setBack d (Int.not_le.1 s9) (by rw[V1,<-e];exact m) r9 (by rw[f];exact⟨_,l,q⟩)
def BU(lo a:Option Int)(n:Nat):(ot lo a J n).1=((HT.N8 n 0 lo:Nat):Int)/\(ot lo a J n).2.1=((HT.N8 n n a:Nat):Int)/\(ot lo a J n).2.2=1:=by
 refine⟨?_,?_,rfl⟩
 . cases lo with
   |none=>simp[ot,HT.N8]
   |some i =>
    simp only[ot,HT.N8,NY];by_cases h:i<0
    . simp only[h]<;>lia
    . simp only[h]<;>lia
 . cases a with
   |none=>simp[ot,HT.N8]
   |some i =>
    simp only[ot,HT.N8,NY];by_cases h:i<0
    . simp only[h]<;>lia
    . simp only[h]<;>lia
def Bl(a:List t2)(lo b:Option Int):slicePick a.toArray lo b J=((a.drop (HT.N8 a.length 0 lo)).take (HT.N8 a.length a.length b-HT.N8 a.length 0 lo)).toArray:=by obtain⟨e,c,d⟩:=BU lo b a.toArray.size;delta slicePick;rw[e,c,d];simp only[sliceRange_one,pick_run]<;>rfl
def Za(K:v9):V->Option Int->Option Int->Hp->VK->Prop:=λx lo hi H Q=>∃a xs,x=.ref a/\M8 K H a xs/\∀p,H p=J->Q (.ref p) (upd H p (.lst (rR xs lo hi)))
def VG:vV X (Za X.K):=by
 intro i s w H x v z u e f A Q I n p j t h;obtain⟨a,c,rfl,k,q⟩:=h;cases n;obtain⟨l,r,g,m⟩:=I.list k;have d:=r.length;refine⟨"list",_,slot_list_getitem.lookup,g.isList.typeIs,?_⟩;refine wpAny_getItem_list_slice g.isList p j t .none B3 ?_ (by rw[V1]<;>simp_all);rw[Bl,<-d];refine⟨.ref s.heap.objs.size,_,I.laid (λb y q=>G0 _ q) E7 ?_,rfl,q _ (I.J1.fresh E7)⟩;exact⟨B6 (vS c e f) m,_,0,(r.drop (HT.N8 c.length 0 e)).take (HT.N8 c.length c.length f-HT.N8 c.length 0 e),W6 _ rfl⟩
def DR:br X (.builtin "len") (λxs H Q=>∃p ys,xs=[.ref p]/\(M8 X.K H p ys\/X9 X.K H p ys)/\Q (.int ys.length) H):=by
 intro e s j H xs k Q I r h;obtain⟨p,ys,rfl,hq,q⟩:=h;obtain⟨u,rfl,g⟩:=vals1 r;cases g;have:=qi;rcases hq with hq|hq
 obtain⟨d,b,c,f⟩:=I.list hq;have a:=b.length;exact Calls.call_len_list c.isList (by simp only[V1]<;>lia) ⟨.int ys.length,H,I.tok _,⟨s.toks+1,by rw[V1,a]⟩,q⟩;obtain⟨d,b,c,f⟩:=I.tuple hq;have a:=b.length;exact len_tuple c (by simp only[V1]<;>lia) ⟨.int ys.length,H,I.tok _,⟨s.toks+1,by rw[V1,a]⟩,q⟩
def DQ:br X (.builtin "len") (λxs H Q=>∃z,xs=[.str z]/\z.length<=E6/\Q (.int z.length) H):=by intro a s d H xs e Q I r h;obtain⟨z,rfl,c,q⟩:=h;obtain⟨u,rfl,t,rfl⟩:=vals1 r;have:=qi;exact len_str r9 ⟨.int z.length,H,I.tok _,⟨_,rfl⟩,q⟩
def br.or{r c:List V->Hp->VK->Prop}(h:br X f r)(h':br X f c):br X f (λxs H Q=>r xs H Q\/c xs H Q):=by
 intro a s b H xs e Q I d q;rcases q with q|q
 exact h a s b H xs e Q I d q;exact h' a s b H xs e Q I d q
def DP:br X (.type "list") (λxs H Q=>∃p ys,xs=[.ref p]/\(M8 X.K H p ys\/X9 X.K H p ys)/\∀l,H l=J->Q (.ref l) (upd H l (.lst ys))):=by
 intro k s A H xs C Q I r h;obtain⟨p,ys,rfl,hq,q⟩:=h;obtain⟨u,rfl,B⟩:=vals1 r;cases B;have m:∀a,Vals ys a->ys.length<=E6->∀c d,(∀b z,s.heap.get? b=U z->c.get? b=U z) ->
   c.get? s.heap.objs.size=U {cls:=.type "list",dict:=J,data:=.seq a.toArray d,slots:=#[]}->EP X k A Q (.ref s.heap.objs.size) {s with heap:=c}:=λa f i c d j e =>
  ⟨.ref s.heap.objs.size,_,I.laid j E7 (show ao X.prog X.w _ c _ (.lst ys)from⟨i,a,d,f,e⟩),rfl,q _ (I.J1.fresh E7)⟩
 rcases hq with hq|hq
 obtain⟨a,f,x,i⟩:=I.list hq;have:=f.length;obtain⟨o,v,y,n,t⟩:=x.isList;exact call_list_seq p (.inl rfl) v y t (λc d j e=>m a f i c d j e) (by simp only[V1]<;>simp_all);obtain⟨a,f,x,i⟩:=I.tuple hq;have:=f.length;obtain⟨o,v,y,n,t⟩:=x;exact call_list_seq p (.inr rfl) v y t (λc d j e=>m a f i c d j e) (by simp only[V1]<;>simp_all)
def Bu:br X (.type "tuple") (λxs H Q=>∃p ys,xs=[.ref p]/\((M8 X.K H p ys/\∀l,H l=J->Q (.ref l) (upd H l (.tup ys)))\/(X9 X.K H p ys/\Q (.ref p) H))):=by
 intro a s k H xs x Q I r h;obtain⟨p,ys,rfl,h⟩:=h;obtain⟨u,rfl,t⟩:=vals1 r;cases t;rcases h with ⟨hq,q⟩|⟨hq,q⟩
 . obtain⟨c,f,g,j⟩:=I.list hq;have:=f.length;refine call_tuple_list g.isList (λd v=>?_) (by simp only[V1]<;>simp_all);have m:Inv X a k H {s with heap:=d}:=I.kept v
   have n:Inv X a k (upd H d.objs.size (.tup ys)) {s with heap:=d.push {cls:=.type "tuple",data:=.seq c.toArray}}:=
    m.laid (λb o e=>G0 _ e) E7 (show ao X.prog X.w _ _ _ (.tup ys)from⟨j,c,f,yz _ _⟩)
   exact⟨.ref d.objs.size,_,n,rfl,q _ (m.J1.fresh E7)⟩
 obtain⟨c,f,g,j⟩:=I.tuple hq;exact call_tuple_same g ⟨.ref p,H,I,rfl,q⟩
def Yq(K:v9)(T:String)(x:V)(H:Hp):Prop:=match x with
 | .str _=>T = "str"
 | .int _=>T = "int"
 | .ref p=>(T = "list"/\∃xs,M8 K H p xs)\/(T = "tuple"/\∃o,K.lookup p=U o/\o.cls=.type "tuple"/\o.dict=J) \/
   (T = "dict"/\((∃kvs,H p=U (.dK kvs))\/∃kvs,H p=U (.dT kvs)))\/(T = "set"/\∃S n,H p=U (.set S n))
 |_=>False
def Kx{x:V}(I:Inv X a b H s)(r:RelV x f)(ty:Yq X.K Q x H):
  s.TypeIs f Q/\∀k,f=.ref k->∃ob,s.heap.get? k=U ob/\ob.dict=J:=by
 cases x with
 |str z =>
  obtain⟨t,rfl⟩:=r;cases(show Q = "str" from ty);exact⟨typeIs_str s z t,λ_ e=>nomatch e⟩
 |int i =>
  obtain⟨t,rfl⟩:=r;cases(show Q = "int" from ty);exact⟨typeIs_int s i t,λ_ e=>nomatch e⟩
 |ref p =>
  cases r;rcases ty with ⟨rfl,q,hq⟩|⟨rfl,o,T,l,v⟩|⟨rfl,T⟩|⟨rfl,S,n,T⟩
  obtain⟨m,_,j,_⟩:=I.list hq;refine⟨j.isList.typeIs,λk e=>?_⟩;cases e;obtain⟨o,n,e,c,v,_⟩:=j;exact⟨o,e,v⟩;refine⟨⟨o,I.gF p o T,l⟩,λk e=>?_⟩;cases e;exact⟨o,I.gF _ o T,v⟩
  . have z:∃o,s.heap.get? p=U o/\o.ExactDict:=by
      rcases T with ⟨g,T⟩|⟨g,T⟩
      obtain⟨_,_,_,_,o,_,_,e,d,_⟩:=I.J1 p _ T;exact⟨o,e,d⟩;obtain⟨_,_,_,_,o,_,_,e,d,_⟩:=I.J1 p _ T;exact⟨o,e,d⟩
    obtain⟨o,e,d⟩:=z;refine⟨⟨o,e,d.1⟩,λk h=>?_⟩;cases h;exact⟨o,e,d.2.1⟩
  obtain⟨o,_,_,_,e,d,_⟩:=I.J1 p _ T;refine⟨⟨o,e,d.1⟩,λk h=>?_⟩;cases h;exact⟨o,e,d.2.1⟩
 |_=>exact dA ty
def YG(K:v9)(T:String)(r:V->List V->Hp->VK->Prop)(to:TE):TE:=λσ H Q=>to σ H λx H1=>Yq K T x H1/\r x [] H1 Q
def GK(K:v9)(T:String)(r:V->List V->Hp->VK->Prop)(to:TE)(t:TA):TE:=λσ H Q=>to σ H λx H1=>Yq K T x H1/\t σ H1 λxs H2=>r x xs H2 Q
variable{T:String}
def ZR{name:Str}{cpos:Pos}(k:PlainAttrs T)(slot:Slot T name Q)(d:typeOf (.builtin Q)=pure (.type "method_descriptor"))(i:Vh X Q O)(j:PE X e Y)(b:autoParam (aL e name X.env (eval e X.env)=eval e X.env) t5)(c:autoParam ((R.endLine==cpos.line)=Uf) t5):PE X (.Call (.Attribute e name R) [] [] cpos) (YG X.K T O Y):=by
 intro a s f H r I h;refine wpAny_Call_method0_late b c (F1 (j a s f H _ I h) λv m ⟨x,p,g,o,t,q⟩=>?_);obtain⟨n,l⟩:=Kx g o t;exact⟨T,Q,k,slot,d,n,l,FJ rfl (PySem.evalArgs_none (i a m f p x [] v [] r g o .nil q))⟩
def xD {o:Expr} {es:List Expr} {t:TA} {name:Str} {cpos:Pos} (u:PlainAttrs T) (slot:Slot T name Q) (i:typeOf (.builtin Q)=pure (.type "method_descriptor")) (C:Vh X Q O) (n:PE X o Y) (M:PA X (e::es) t) (f:autoParam (aL o name X.env (eval o X.env)=eval o X.env) t5) (g:autoParam (((F9 cpos (v7 (e::es) X.env)).all (λx=>!x.1)&&(bO cpos (dX [] X.env)).all (λx=>x.1.isSome)
   && decide ((e::es).length+([]:List aT).length+(if ([]:List aT).isEmpty then 0 else 1)<30))=Uf) t5)
  (d:autoParam ((R.endLine==cpos.line)=Uf) t5) (hs:autoParam (v7 (e::es) X.env=(U',eval e X.env)::v7 es X.env) t5) (c:autoParam ((F9 cpos (v7 es X.env)).any (·.1)=U') t5) :
  PE X (.Call (.Attribute o name R) (e::es) [] cpos) (GK X.K T O Y t):=by
 intro b s j H r I h;refine wpAny_Call_method_late f g d rfl (F1 (n b s j H _ I h) λv y ⟨x,G,k,m,A,L⟩=>?_);obtain⟨F,w⟩:=Kx k m A;refine⟨T,Q,u,slot,i,F,w,?_⟩;have l:=M cpos b y j G _ k L;rw[hs]at l ⊢;refine FJ (by show(U'||(F9 cpos (v7 es X.env)).any (·.1))=U';rw[c]<;>rfl) (OI ?_);exact F1 l λz E ⟨q,D,p,B,q2⟩=>C b E j D x q v z r p m B q2
end
def MtM(X:Cx)(id:String)(r:V->List V->Hp->VK->Prop):Prop:=
 ∀(pins:List (Addr×Obj)) (s:v5) (σ:St) (H:Hp) (x:V) (xs:List V) (v:t2) (us:List t2) (Q:VK),Inv X pins σ H s->RelV x v->Vals xs us->r x xs H Q ->
  wpAny (model X.prog X.w) X.A (call (.builtin id) (v::us)) (EP X pins σ Q) X.xe s
def Vals.one{x:V}(h:Vals [x] S):∃u,S=[u]/\RelV x u:=by
 cases h with
 |cons r t=>cases t;exact⟨_,rfl,r⟩
def Vals.zero:∀{us:List t2},Vals [] us->us=[]
 |_,.nil=>rfl
theorem Vals.reverse{xs:List V}{us:List t2}(h:Vals xs us):Vals xs.reverse us.reverse:=by
 induction h with
 |nil=>exact .nil
 |cons r t a=>rw[zg,zg];exact Vals.append a (.cons r .nil)
def Inv.So{ys:List V}{its':List t2}{f:Array t2->Array t2}{t':Nat}(I:Inv X a b H s)(d:H p=U (.lst Z))(e:s.heap.get? p=U {cls:=.type "list",data:=.seq S.toArray n})(g:f S.toArray=its'.toArray)(c:Vals ys its')(hz:ys.length<=E6):
  Inv X a b (upd H p (.lst ys)) {s with heap:=s.heap.update p (uh f),toks:=t'}:=by
 have q:=PySem.IsL.update e f;rw[g]at q;refine I.write (by rw[d];exact trivial) (.inl rfl) (λi u h σ=>(OR s.heap (uh f) (jv h)).trans σ) ⟨_,q⟩ ?_;exact⟨hz,its',_,c,q⟩
def Inv.a0r(I:Inv X a b H s)(σ:Vals Z S)(hz:Z.length<=E6):
  Inv X a b (upd H s.heap.objs.size (.lst Z)) {s with heap:=s.heap.push {cls:=.type "list",data:=.seq S.toArray},toks:=n}:=
 I.laid (λ_ _ q=>G0 _ q) E7 ⟨hz,S,0,σ,W6 _ rfl⟩
theorem Inv.fresh(I:Inv X a b H s):H (hz s)=J:=I.J1.fresh E7
def Inv.Jy(I:Inv X a b H s)(l:H p=U (.lst Z)):Z.length<=E6/\∃(σ:List t2) (n:Nat),Vals Z σ/\Z.length=σ.length/\s.heap.get? p=U {cls:=.type "list",data:=.seq σ.toArray n}:=by obtain⟨z,σ,n,r,e⟩:=I.J1 p _ l;exact⟨z,σ,n,r,r.length,e⟩
def RV(h:n<=E6):FP n=U':=by exact aM z9
def zF:V->List V->Hp->VK->Prop:=λx vs H Q=>∃l xs y,x=.ref l/\vs=[y]/\H l=U (.lst xs)/\xs.length<E6/\Q .non (upd H l (.lst (xs++[y])))
def AJ:MtM X "list.append" zF:=by
 intro c s k H x j v p Q I f d h;obtain⟨l,o,y,rfl,rfl,b,i,q⟩:=h;cases f;obtain⟨u,rfl,g⟩:=d.one;obtain⟨z,a,n,r,m,e⟩:=I.Jy b;refine lM F.slot_list_append ⟨_,e,rfl⟩ F.entry_list_append (F.args_list_append_2 _ _) (PySem.list_append l a.toArray n u (by rw[V1];simp_all)) ⟨e,?_⟩;refine⟨.non,_,I.So b e B3 (r.append (.cons g .nil)) ?_,rfl,q⟩;rw[au,FA];exact s9
def Ha:V->List V->Hp->VK->Prop:=λx vs H Q=>∃l b xs zs,x=.ref l/\vs=[.ref b]/\H l=U (.lst xs)/\H b=U (.lst zs)/\xs.length+zs.length<=E6/\Q .non (upd H l (.lst (xs++zs)))
def Mr:MtM X "list.extend" Ha:=by
 intro g s E H x C v G Q I k w h;obtain⟨l,b,L,A,rfl,rfl,i,j,B,q⟩:=h;cases k;obtain⟨u,rfl,o⟩:=w.one;cases o;obtain⟨z,c,n,r,D,e⟩:=I.Jy i;obtain⟨K,a,m,t,y,p⟩:=I.Jy j;have f:c.toArray.size+a.toArray.size<=E6:=by rw[V1,V1];simp_all
 have d:¬(!c.toArray.isEmpty&&FP (c.toArray.size+a.toArray.size))=Uf:=by rw[RV f,Bool.and_false];exact cY
 refine lM F.slot_list_extend ⟨_,e,rfl⟩ F.entry_list_extend (F.args_list_extend_2 _ _)
  (AutoSeq1.list_extend_list_list_0 l c.toArray n b a.toArray m d (by rw[V1];exact xJ) (qX s9)) ⟨e,p,?_⟩
 refine⟨.non,_,I.So i e B3 (r.append t) ?_,rfl,q⟩;rw[au];omega
def Cg:V->List V->Hp->VK->Prop:=λx vs H Q=>∃l xs,x=.ref l/\vs=[]/\H l=U (.lst xs)/\Q .non (upd H l (.lst xs.reverse))
def Jq:MtM X "list.reverse" Cg:=by
 intro d s k H x j v o Q I g f h;obtain⟨l,m,rfl,rfl,c,q⟩:=h;cases g;have b:=f.zero;subst b;obtain⟨z,a,n,r,i,e⟩:=I.Jy c;refine lM F.slot_list_reverse ⟨_,e,rfl⟩ F.entry_list_reverse (F.args_list_reverse_1 _) (AutoSeq1.list_reverse_list_0 l a.toArray n (by rw[V1];simp_all)) ⟨e,?_⟩;refine⟨.non,_,I.So c e B3 r.reverse ?_,rfl,q⟩;rw[Fp];omega
section
variable{prog:L9}{w:E1}
end
end L2
namespace Att
open PySem PySem.W PySem.Calls PyProof.Rows
variable{P:Params}{h:Heap}{l:OpenLaw}
def xR:∀(ns:List Int) (vs:List t2),WellAll P h vs (ns.map WData.int)->du vs ns:=by
 intro ns;induction ns with
 |nil =>
  intro vs w;cases w;exact .nil
 |cons n ns c =>
  intro vs w;cases w with
  |cons a b =>
   cases a;exact .cons _ _ (c _ b)
def Lb{n:Nat}(o:l.most=U n){args:List WData}{b:List t2}(c:l.row.toRowW.claim.pre args=Uf)(j:WellAll P h b args):
  ∃a vs ns,b=[aU a]/\args=[WData.list (ns.map WData.int)]/\h.get? a=U {cls:=.type "list",data:=.seq vs.toArray}/\du vs ns/\ns.length<=n:=by
 obtain⟨d,r,rfl,x,s⟩:=hasAllW_cons ((pre_splitW c).1);obtain rfl:=hasAllW_nil s;obtain⟨y,rfl,u⟩:=hasW_list x;obtain⟨ns,rfl⟩:=items_int u;have e:ns.length<=n:=by
  have i:(WTm.not (.lt (.lit (.int n)) (.len (.arg 0)))).holds [] {args:=[.list (ns.map .int)]}=Uf:=by have i:=(holds_andW ((pre_splitW c).2)).1;rw[o]at i;exact i
  have g:=condW_of i (w_not (w_lt w_lit (w_len_list (w_arg rfl))));refine jF λq=>?_
  first
   |(rw[fW t]at g;exact absurd g f5)
   |(simp at g;lia)
 cases j with
 |cons v w =>
  cases w;cases v with
  |list p f=>exact⟨_,_,ns,rfl,rfl,p,xR ns _ f,e⟩
def LG(l:OpenLaw)(args:List WData):l.row.toRowW.claim.post args (.bool Uf) args=Uf:=
 postW_of
  (show WShape.has [] (.bool Uf) .bool=Uf by first|rfl|decide|simp[WShape.has])
  (show(WTm.eq .res (.lit (.bool Uf))).value [] {args:=args,res:=U (.bool Uf),after:=args}=U (.bool (Uf==Uf))from w_eq_bool (w_res rfl) w_lit) rfl
def GC {n:Nat} {q:L9} {b:List Str} {z:(Str->Option t2)->Heap->Prop} {A:E1->Heap->Prop} {d:DefRec} (K:l.most=U n) (p:d.params.defaults=[]) (call:∀(w:E1) (V4 s₁:v5) (mg k:Str->Option t2) (fa:Addr) (o:Obj) (u j e:t2) (a:Addr) (vs:List t2) (ns:List Int),
   Ground q b [] z w V4 mg k s₁.heap->A w s₁.heap ->
   s₁.heap.get? fa=U o->o.data=.func (docDef d.name d.params d.body d.scope u j e)->s₁.heap.CodeRec j d.name->mg d.name=U (.ref fa) ->
   s₁.heap.get? a=U {cls:=.type "list",data:=.seq vs.toArray}->du vs ns->ns.length<=n->s₁.gens = #[] ->
   codeAny (model l.prog w) lI (.call (.ref fa) ⟨[.ref a],[]⟩) (λr s'=>r=.ok (.ret (.bool Uf))/\OldK s₁.heap s'.heap/\s'.os=s₁.os/\jw s'.gens) s₁) :
  WalkO q b z A l.row.toRowW d [] (λf vs=>Ec f vs):=by
 intro w V4 s₁ mg k G Y fa o u j e O kV B I s hD m F y x N g v M t H;obtain rfl:=Dflts.none hD p;obtain rfl:=Dflts.noKw hD;obtain⟨a,vs,ns,rfl,rfl,h,c,i⟩:=Lb K g t;refine enter_call (yM (call w V4 s₁ mg k fa o u j e a vs ns G Y B (fd_plain I) s m h c i F) λr s' hq=>?_);obtain⟨rfl,C,D,L⟩:=hq;exact⟨.inl ⟨.bool Uf,.bool Uf,[],rfl,λ_=>rfl,.bool Uf,LG l _,λ_=>⟨List.Pairwise.nil,λ_ E=>(nomatch E)⟩⟩,C,D,L⟩
section
variable{prog:L9}{w:E1}{K:Frag}
def ledger(h:Heap)(L d:Addr):List (Addr×Obj):=(D0 h.objs.size).filterMap λa=>if a=L\/a=d then J else(h.get? a).map λo=>(a,o)
end
end Att
namespace L2
open PySem PySem.Spec PyProof.Rows
variable{c:Cx}{H q e8:Hp}{z T c7 e9 i8 i9 j0:Addr}{m c8:Nat}{e o b7:Expr}{I:Bool}{p A c5:Pos}{g:v9}{O j6:List Addr}{G b9:TE}{y a0:Str}{B:v5}{D:St}{Z:List Expr}{L:Z4}{M:TA}{N:List V}{Q d6:List Str}{S:List p9}{Y c6:t2->v5->Prop}{a1 i0:Int}{a2:V}{a7:Heap}{a8:TT}{b5:L9}{b6 i7:t2}{b8:Array t2}{c9:List (Addr×Obj)}{d3:Type}{d5:T5}{d8:eF}{d9:XK}{g8:p9}{i5:E1}{i6:Bi}{j2:List t2}{j3:Stmt}{j4:TI}{j5:TG}{j7:List (Str×V)}{j8:Option Addr}{j9:R2}{k8:String}{k9:Option t2->v5->Prop}{l5:p9->Option (List p9)}{l7:TS}{m3:Sem Bool}{m4:List (List Key×V)}{m5:HO}{m6:Env}{m7:Result->v5->Prop}{m8:vU}{m9:List V->Hp->VK->Prop}{n0:List Stmt}{n8:List Key}{n9:List (Str×Addr)}{o0:CmpOp}{o1:List Int}{o2:Str->Option t2}{o3:Array (Option t2)}{o5:List (Key×V)}{o6:Option V}{o7:Option Obj}{o8:Option (Option V)}{p5:Int->Int->V}{p6:Int->Int->p9}{p7:Addr->List Key->Prop}{p8:List (List Key)}
def Ks(h:du j2 o1):Vals (o1.map V.int) j2:=by
 induction h with
 |nil=>exact .nil
 |cons n t _ i=>exact .cons ⟨t,rfl⟩ i
def TM(H:Hp):Prop:=∀b,H b=J\/∃o xs,H b=U (.eB o (.lst xs))
def Su{mb:Str->Option t2}{sp:Sp}(KX:g.In B.heap)(hns:B.heap.Ns aq o2)(hb:B.heap.Ns builtinsNs mb)(hbb:∀y:Str,y ≠ "__name__"->mb y=dZ y)(hlim:B.heap.NoLimit)(hg:B.gens = #[])(ha:B.heap.get? T=U {cls:=.type "list",data:=.seq j2.toArray})(hi:du j2 o1)(hl:o1.length<=E6)(hr:N7 m lI)(F:∀base:Heap,g.In base->base.Ns aq o2->bc b5 i5 g o2 base i6 m z d5 [y] sp)(hbind:∀(s:v5) (u:t2),lJ s d5 ⟨[u],[]⟩ [(y,u)])(hsp:∀H:Hp,TM H->M8 g H T (o1.map V.int)->sp [.ref T] H (λv _=>v=.bl Uf) λ_ _ _=>False)(hCX:∀H e s',i6 [] H B (λ_ _ _=>False) e s'->False):
  codeAny (model b5 i5) lI (.call (.ref z) ⟨[.ref T],[]⟩) (λr s'=>r=.ok (.ret (.bool Uf))/\OldK B.heap s'.heap/\s'.os=B.os/\jw s'.gens) B:=by
 have rv:=Ks hi;have core:∀H:Hp,TM H->M8 g H T (o1.map V.int)->G5 b5 i5 H B.heap->(∀b,H b≠J->b=T)->(H T≠J->g.lookup T=J) ->
   codeAny (model b5 i5) lI (.call (.ref z) ⟨[.ref T],[]⟩) (λr s'=>r=.ok (.ret (.bool Uf))/\OldK B.heap s'.heap/\s'.os=B.os/\jw s'.gens) B:=by
  intro H hO hS J1 hA hK;have base_of:∀{b:Addr} {o:Obj},B.heap.get? b=U o->H b=J->(tQ B.heap H).get? b=U o:=λe n=>SF e n
  have noA:∀{b:Addr} {o:Obj} {es:Array DictEntry} {ep:Nat},B.heap.get? b=U o->o.data=.dict es ep->H b=J:=λ{b o es ep} e d=>by
   cases q:H b with
   |none=>rfl
   |some u =>
    have e':=hA b (by rw[q];simp);subst e';rw[ha]at e;cases e;cases d
  have nsK:∀{b:Addr} {P:Str->Option t2},B.heap.Ns b P->(tQ B.heap H).Ns b P:=λ{b P} ⟨o,es,ep,e,d,r⟩=>⟨o,es,ep,base_of e (noA e d),d,r⟩
  have hKb:=λb o e=>base_of (KX b o e) (by
   cases q:H b with
   |none=>rfl
   |some u =>
    have e':=hA b (by rw[q];simp)
    subst e';rw[hK (by rw[q];simp)]at e;exact nE e)
  have hM:Mod g o2 (tQ B.heap H):=⟨hKb,nsK hns,⟨mb,nsK hb,hbb⟩,let ⟨mc,h1,h2⟩:=hlim;⟨mc,nsK h1,h2⟩⟩;have e0:xa b5 i5 g o2 (tQ B.heap H) lI [] B H:=⟨rfl,hM,λb o e=>WY e,lQ (MR _ _),trivial,λb hb=>absurd (show b∈([])from hb) B3,J1,.of_eq hg⟩;refine yM ((F _ hKb (nsK hns)).run lI [] B H ⟨[.ref T],[]⟩ [.ref T] [.ref T] _ _ hr e0 (hbind B (.ref T)) (.cons rfl .nil) (hsp H hO hS)) λr s' h=>?_
  cases r with
  |error e=>exact(hCX H e s' h).elim
  |ok fl =>
   cases fl with
   |next=>exact dA h
   |brk=>exact dA h
   |cont=>exact dA h
   |ret u =>
    obtain⟨v,H',os,bare,un,hok',r',q⟩:=h;subst q;obtain rfl:=r';refine⟨rfl,OldK.of_keep λb o e=>?_,os,bare⟩
    cases q:H b with
    |none=>exact un.keep b o e q (by intro w;exact absurd (show b∈([])from w) B3) B3
    |some u =>
     rcases hO b with w|⟨ob,xs,w⟩
     rw[q]at w;exact nS w;have z2:=un.mq b ob _ w;obtain⟨e1,_⟩:=J1 b _ w;obtain⟨e2,_⟩:=hok' b _ z2;rw[e]at e1;cases e1;exact e2
 cases hk:g.lookup T with
 |some o =>
  have e:=KX T o hk;rw[ha]at e;cases e;refine core (λ_=>J) (λ_=>.inl rfl) (.inr ⟨_,j2.toArray,_,hk,rfl,rfl,rfl,by rw[V1,hi.length];exact hl,by simpa using rv⟩) (λb u w=>by have z':=w;exact nE z') (λb w=>absurd rfl w) λw=>absurd rfl w
 |none =>
  refine core (λb=>if b=T then U (.eB {cls:=.type "list",data:=.seq j2.toArray} (.lst (o1.map V.int)))else J) (λb=>?_) (.inl (.inr ⟨{cls:=.type "list",data:=.seq j2.toArray},f9 rfl⟩)) (λb u w=>?_) (λb w=>?_) λ_=>hk;by_cases hb:b=T;exact .inr ⟨_,_,f9 hb⟩;exact .inl (f6 hb);by_cases hb:b=T;have z':=(f9 hb).symm.trans w;cases z';subst hb;exact⟨ha,by rw[C5];exact hl,j2,_,rv,ha⟩;have z':=(f6 hb).symm.trans w;exact nE z';by_cases hb:b=T;exact hb;exact absurd (f6 hb) w
def Vt {l:EH} {n k:Nat} {R:(Str->Option t2)->Heap->Prop} {D:E1->Heap->Prop} {d:DefRec} {K:Params->v9} {CX:E1->Bi} {sp:E1->Sp} {x:Str} (E:l.most=U n) (z:n<=E6) (y:d.params.defaults=[]) (N:N7 k lI) (O:∀(w:E1) (h:Heap),D w h->(K w.params).In h) (F:∀(w:E1) (mg:Str->Option t2) (fa:Addr) (h:Heap),(K w.params).In h->h.Ns aq mg->mg d.name=U (.ref fa) ->
   ∃fd:T5,(∀(s:v5) (u:t2),lJ s fd ⟨[u],[]⟩ [(x,u)]) /\
    ∀base:Heap,(K w.params).In base->base.Ns aq mg->bc l.prog w (K w.params) mg base (CX w) k fa fd [x] (sp w))
  (r:∀(w:E1) (H:Hp) (a:Addr) (ns:List Int),ns.length<=n->TM H->M8 (K w.params) H a (ns.map V.int)->sp w [.ref a] H (λv _=>v=.bl Uf) λ_ _ _=>False)
  (A:∀(w:E1) (H:Hp) (s:v5) (e:t2) (s':v5),CX w [] H s (λ_ _ _=>False) e s'->False) :
  PySem.W.WalkO b5 Q R D l.row.toRowW d [] (λf vs=>Ec f vs):=by
 refine Att.GC E y λw B p mg mb fa o pm cd q a vs ns G Y ho Z S t m i c P=>?_;have C:=O w _ Y;obtain⟨fd,X,I⟩:=F w mg fa _ C G.T.g t;exact Su C G.T.g G.T.b G.T.builtins G.T.nolimit P m i (B6 c z) N I X (λH L M=>r w H a ns c L M) λH e s'=>A w H p e s'
def inClass(s:Stmt)(j:Nat):Stmt:=match s with
 | .ClassDef _ _ _ body _ _ _ _ _ _ _=>body.getD j (.Pass ⟨0,0,0,0⟩)
 |_=>.Pass ⟨0,0,0,0⟩
def iK(s:Stmt):Arguments:=match s with
 | .FunctionDef _ a _ _ _ _ _ _ _ _=>a
 |_=>{posonlyargs:=[],args:=[],vararg:=J,kwonlyargs:=[],kw_defaults:=[],kwarg:=J,defaults:=[]}
def cj(s:Stmt):List Stmt:=match s with
 | .FunctionDef _ _ b _ _ _ _ _ _ _=>b
 |_=>[]
def M3(s:Stmt):eF:=match s with
 | .FunctionDef _ _ _ _ _ _ sc _ _ _=>sc
 |_=>{kind:=.function,names:=[],isGenerator:=U',isCoroutine:=U'}
abbrev sS:Bi:=λ_ _ _ _ _ _=>False
abbrev E0:XK:=λ_ _ _=>False
def fK:Passes sS c E0:=λ_ _ _ _ _ _ _ h=>h.elim
structure uN(K:v9)(x qual:Str)(st:Stmt)(f:Addr)(fd:T5):Prop where
 ex:∃(oc:t2) (od:Option Addr) (kV doc pm:t2) (an:Option Addr) (cdv ct:t2) (osl:Array (Option t2)),
  fd=gR x qual (iK st) (cj st) (M3 st) .none kV doc pm an cdv ct/\K.lookup f=U ⟨oc,od,.func fd,osl⟩/\yS K cdv qual=Uf
 kp:gT K (.ref f)=Uf
section
variable{w:E1}{K:v9}{mg:Str->Option t2}
def uN.ok {sp:Sp} (F:uN K y a0 j3 z d5) (S:kK Q d6 (M3 j3)) (len:∀vs H P E,sp vs H P E->vs.length=d6.length) (c:∀(b:t2) (A:Z4) (outer:List Env) (s:v5) (H:Hp) (vs:List V) (P:VK) (E:XK),N7 m (A.deeper (fq a0 (M3 j3) (hz s) z b))->sp vs H P E ->
   ∃t,pC (pQ sS b5 w K mg a7 Q a0 (M3 j3) z b A outer s H E).AI (cj j3) t/\t {nx:=λ_ H'=>P .non H',rt:=P} (start Q vs) H):bc b5 w K mg a7 sS (m+1) z d5 d6 sp:=by
 obtain⟨u,p,kV,n,v,o,b,r,j,rfl,l,i⟩:=F.ex;refine a2f l i S len λA outer s H vs P E x g=>?_;obtain⟨t,h,q⟩:=c b A outer s H vs P E x g;exact⟨t,h.AI,q⟩
def uN.binds(F:uN K y a0 j3 z d5)(h:∀(kV b i:t2) (e:Option Addr) (c ct:t2) (us:List t2),us.length=Q.length->bindArgs (gR y a0 (iK j3) (cj j3) (M3 j3) .none kV b i e c ct) ⟨us,[]⟩=pure (Q.zip us)):Binds K d5 Q []:=by obtain⟨l,m,kV,b,i,e,c,ct,j,rfl,n,k⟩:=F.ex;exact .all (h kV b i e c ct)
def a0N{h:Option Addr}{d i b ct:t2}(l:K.lookup z=U ⟨b6,j8,.func (gR y a0 (iK j3) (cj j3) (M3 j3) .none i7 d i h b ct),o3⟩)(c:yS K b a0=Uf)(k:gT K (.ref z)=Uf):uN K y a0 j3 z (gR y a0 (iK j3) (cj j3) (M3 j3) .none i7 d i h b ct):=⟨⟨b6,j8,i7,d,i,h,b,ct,o3,rfl,l,c⟩,k⟩
end
def pv(i:Nat){x:Str}(b:autoParam (c.N[i]? = U x) t5)(X:Vc c.env.scope x:=by first|exact Or.inl rfl|exact Or.inr (Or.inl rfl)|exact Or.inr (Or.inr rfl))(hd:autoParam ((x==("__debug__" : Str))=U') F8)(a:autoParam ((x==("__classdict__" : Str))=U') F8):PE c (.Name x p) (P7 i):=ZK b X hd a
def u9(H H':Hp):Prop:=∀b o,H b=U o->H' b=U o
def u9.refl(H:Hp):u9 H H:=λ_ _ h=>h
def u9.trans{d:Hp}(a:u9 H d)(b:u9 d q):u9 H q:=λc o h=>b c o (a c o h)
def u9.free(e:u9 H q)(h:q z=Option.none):H z=Option.none:=by
 cases l:H z with
 |none=>rfl
 |some o =>
  rw[e z o l]at h;exact nS h
def u9.seq(e:u9 H q)(h:M8 g H z N):M8 g q z N:=by
 rcases h with (h|⟨o,h⟩)|h
 exact .inl (.inl (e _ _ h));exact .inl (.inr ⟨o,e _ _ h⟩);exact .inr h
section
variable{κ:Type}[DecidableEq κ]
noncomputable def iQ(kvs:List (κ×V))(k:κ):Option V:=(kvs.find? λkv=>decide (kv.1=k)).map (·.2)
noncomputable def putK(kvs:List (κ×V))(k:κ)(v:V):List (κ×V):=
 if (kvs.any λkv=>decide (kv.1=k))=Uf then kvs.map (λkv=>if kv.1=k then(kv.1,v)else kv)else kvs++[(k,v)]
def we{p:κ×V}{r:List (κ×V)}{k:κ}(e:p.1=k):iQ (p::r) k=U p.2:=by simp[iQ,e]
def wg{p:κ×V}{r:List (κ×V)}{k:κ}(e:¬p.1=k):iQ (p::r) k=iQ r k:=by simp[iQ,e]
theorem gA.getD{o:Option V}{u:Option t2}{d:V}{d':t2}(r:gA o u)(a:RelV d d'):RelV (o.getD d) (u.getD d'):=by
 cases o with
 |none=>cases u with
  |none=>exact a
  |some _=>exact(show False from r).elim
 |some _=>cases u with
  |none=>exact(show False from r).elim
  |some _=>exact r
def KV.val{a:List (κ×V)}{vs:List (κ×t2)}(r:KV a vs)(k:κ):gA (iQ a k) (qB vs k):=by
 induction r with
 |nil=>exact lN
 | @cons p q j d h t i =>
  obtain⟨f,g⟩:=h;by_cases e:p.1=k
  . have c:=f.symm.trans e;have b:qB (q::d) k=U q.2:=by simp[qB,c]
    rw[we e,b];exact g
  . have c:¬q.1=k:=λz=>e (f.trans z)
    have b:qB (q::d) k=qB d k:=by simp[qB,c]
    rw[wg e,b];exact i
theorem KV.any{a:List (κ×V)}{vs:List (κ×t2)}(r:KV a vs)(k:κ):(a.any λkv=>decide (kv.1=k))=vs.any λkv=>decide (kv.1=k):=by
 induction r with
 |nil=>rfl
 |cons h t b=>simp_all
theorem KV.length{a:List (κ×V)}{vs:List (κ×t2)}(r:KV a vs):a.length=vs.length:=Paired.length r
end
def JF{k:Key}(r:RelV (kV k) b6):(aH b5 i5).is k b6=Uf:=by
 cases k with
 |inl i=>obtain⟨t,e⟩:=(show ∃t,b6=yB i t from r);subst e;exact Gw b5 i5 i t
 |inr x=>obtain⟨t,e⟩:=(show ∃t,b6=yA x t from r);subst e;exact Gv b5 i5 x t
def AS:∀{ks:List Key} {us:List t2},Vals (ks.map kV) us->ItemsAre (aH b5 i5) ks us:=by
 intro l_;induction l_ with
 |nil =>
  intro _ r;rw[qJ]at r;cases r;exact .nil
 |cons k ks ih_ =>
  intro _ r;cases r with
  |cons h t=>exact .cons (JF h) (ih_ t)
abbrev KT(H:Hp):List (List Key×V)->List (List Key×Addr×t2)->Prop:=Paired λp q=>p.1=q.1/\H q.2.1=U (.tup (p.1.map kV))/\RelV p.2 q.2.2
def KT.val{xs:List (List Key×Addr×t2)}(r:KT H m4 xs)(k:List Key):gA (iQ m4 k) ((atKey xs k).map (·.2)):=by
 induction r with
 |nil=>exact lN
 | @cons p q j d h t i =>
  obtain⟨f,_,g⟩:=h;by_cases e:p.1=k
  . have c:=f.symm.trans e;have b:atKey (q::d) k=U q.2:=by simp[atKey,c]
    rw[we e,b];exact g
  . have c:¬q.1=k:=λz=>e (f.trans z)
    have b:atKey (q::d) k=atKey d k:=by simp[atKey,c]
    rw[wg e,b];exact i
section
variable{w:E1}
def UA(ok:G5 b5 w H a7)(e:Rd H z m5):ao b5 w H a7 z m5:=e.ok ok
def BI(ok:G5 b5 w H a7)(e:Rd H z (.dK o5)):o5.length<=E6/\(z==qD)=U'/\∃vs,KV o5 vs/\a7.DictOf (aH b5 w) z vs:=
 show ao b5 w H a7 z (.dK o5)from UA ok e
def CT(ok:G5 b5 w H a7)(e:H z=U (.tup (n8.map kV))):(om (aH b5 w)).is a7 n8 z:=by
 obtain⟨_,b,r,o,c,f,n,d⟩:=(show ao b5 w H a7 z (.tup (n8.map kV))from ok z _ e);exact⟨o,b.toArray,n,c,f,d,by simpa using AS r⟩
def BH(ok:G5 b5 w H a7)(e:Rd H z (.dT m4)):m4.length<=E6/\(z==qD)=U' /\
  ∃xs,KT H m4 xs/\a7.DictOfH (om (aH b5 w)) z xs:=by
 obtain⟨P,y,xs,r,o,g,f,d,j,k,i,n⟩:=(show ao b5 w H a7 z (.dT m4)from UA ok e);refine⟨P,y,xs,r,o,g,f,d,j,k,i,λx c=>?_,n⟩
 have all:∀{l:List (List Key×V)} {m:List (List Key×Addr×t2)},KT H l m->∀x∈m,(om (aH b5 w)).is a7 x.1 x.2.1:=by
  intro l m q;induction q with
  |nil=>intro x c;exact nomatch c
  | @cons p q v u hq t s =>
   intro x c;rcases List.mem_cons.mp c with e|c
   subst e;exact CT ok (by rw[<-hq.1];exact hq.2.1);exact s x c
 exact all r x c
end
def xb(H:Hp)(a:Addr)(y:V)(r:Option V):Prop:=
 (∃kvs k,Rd H a (.dK kvs)/\y=kV k/\r=iQ kvs k)\/∃kvs k b,Rd H a (.dT kvs)/\y=.ref b/\H b=U (.tup (k.map kV))/\r=iQ kvs k
def a1l(H:Hp)(a:Addr)(y v:V)(H':Hp):Prop:=
 (∃kvs k,H a=U (.dK kvs)/\y=kV k/\kvs.length<E6/\H'=upd H a (.dK (putK kvs k v))) \/
 ∃kvs k b,H a=U (.dT kvs)/\y=.ref b/\H b=U (.tup (k.map kV))/\kvs.length<E6/\H'=upd H a (.dT (putK kvs k v))
def xb.t{a b:Addr}{c:List (List Key×V)}{k:List Key}(e:H a=U (.dT c))(d:H b=U (.tup (k.map kV))):xb H a (.ref b) (iQ c k):=.inr ⟨c,k,b,.inl e,rfl,d,rfl⟩
def a1l.t{a b:Addr}{c:List (List Key×V)}{k:List Key}{v:V}(e:H a=U (.dT c))(f:H b=U (.tup (k.map kV)))(d:c.length<E6):
  a1l H a (.ref b) v (upd H a (.dT (putK c k v))):=.inr ⟨c,k,b,e,rfl,f,d,rfl⟩
def Inv.big(I:Inv c c9 D H B):qD<(hz B):=by exact qI f5 ((I.mod.glob.keeps I.bk).lt)
def Np{v:V}(t:L.units+1<R3)(I:Inv c c9 D H B)(g:xb H z a2 (U v))(o:RelV a2 b6)(h:∀w' s',Inv c c9 D H s'->RelV v w'->c6 w' s'):
  wpAny (model c.prog c.w) L (gL (.ref z) b6) c6 Y B:=by
 rcases g with ⟨j,k,e,n,l⟩|⟨j,k,b,e,n,r,l⟩
 subst n;obtain⟨s,x,σ,X,m⟩:=BI I.J1 e;obtain⟨w',f,d⟩:=gA.some_of (by rw[l];exact X.val k);exact wpAny_getItem_of (JF o) m.mapOf f (h w' _ (I.tok _) d);subst n;cases(show b6=aU b from o);obtain⟨s,x,C,X,m⟩:=BH I.J1 e;obtain⟨w',f,d⟩:=gA.some_of (by rw[l];exact X.val k);obtain⟨p,q,i⟩:=Option.map_eq_some_iff.mp f;refine wpAny_getItem_heap (tupleKind_room_in1 t) (CT I.J1 r) m q ?_;rw[i];exact h w' _ (I.tok _) d
def TN(i:Expr):Prop:=∀ov iv,subscripted i U' ov iv=operate [ov,iv] (gL ov iv)
def VA{id:String}(k:ui (.type k8) "__getitem__" = pure (U (.builtin id)))(hs:TN o)(h:wpAny (model b5 i5) L (eval e m6) (λA s₁=>wpAny (model b5 i5) L (eval o m6) (λi s₂=>s₂.TypeIs A k8/\wpAny (model b5 i5) L (gL A i) c6 Y s₂) Y s₁) Y B):
  wpAny (model b5 i5) L (eval (.Subscript e o p) m6) c6 Y B:=by
 refine Subscript_ (bP h (λA s₁ g=>bP g (λi s₂ c=>?_) λ_ _ x=>x) λ_ _ x=>x)
 obtain⟨j,c⟩:=c;refine u4 ?_;refine u4 (wpAny_specialOf j k ?_);have w:wpAny (model b5 i5) L (subscripted o U' A i) (λr d=>wpAny (model b5 i5) L (letTemporaryGo e A r >>= λ_=>pure r) c6 Y d) Y s₂:=by rw[hs A i];exact wpAny_operating (bP c (λr d f=>u4 (wpAny_letTemporaryGo (z6 f))) λ_ _ x=>x)
 first
  |exact z6 (u4 w)
  |exact u4 (z6 (u4 w))
  |exact u4 w
def GA(I:Inv c c9 D H B)(g:xb H z a2 o6):B.TypeIs (.ref z) "dict":=by
 rcases g with ⟨X,k,e,_,_⟩|⟨X,k,b,e,_,_,_⟩
 obtain⟨_,_,i,_,d⟩:=BI I.J1 e;exact d.typeIs;obtain⟨_,_,h,_,d⟩:=BH I.J1 e;exact d.typeIs
def Ur(td ty:TE):TE:=λσ H Q=>td σ H λx H1=>ty σ H1 λy H2=>∃a v,x=.ref a/\xb H2 a y (U v)/\Q v H2
def WH(l:c.A.units+1<R3)(A:PE c o G)(f:PE c e b9)(hs:TN e):PE c (.Subscript o e p) (Ur G b9):=by
 intro b s i H Q I h;refine VA PySem.F.slot_dict_getitem.lookup hs (F1 (A b s i H _ I h) λu n ⟨x,t,w,q,r⟩=>F1 (f b n i t _ w r) λB D ⟨y,j,d,k,a,v,z,g,q2⟩=>?_);subst z;obtain rfl:=q;exact⟨GA d g,Np l d g k λE C m X=>⟨v,j,m,X,q2⟩⟩
structure M1(X:Cx)(o:Expr)(m:Str)(apos:Pos)(e:Expr)(cpos:Pos):Prop where
 base:aL o m X.env (eval o X.env)=eval o X.env
 few:((F9 cpos (v7 [e] X.env)).all (λx=>!x.1)&&(bO cpos (dX [] X.env)).all (λx=>x.1.isSome)
  && decide (([e]:List Expr).length+([]:List aT).length+(if ([]:List aT).isEmpty then 0 else 1)<30))=Uf
 line:(apos.endLine==cpos.line)=Uf
 trees:F9 cpos (v7 [e] X.env)=[(U',eval e X.env)]
structure M2(X:Cx)(o:Expr)(m:Str)(apos:Pos)(e f:Expr)(cpos:Pos):Prop where
 base:aL o m X.env (eval o X.env)=eval o X.env
 few:((F9 cpos (v7 [e,f] X.env)).all (λx=>!x.1)&&(bO cpos (dX [] X.env)).all (λx=>x.1.isSome)
  && decide (([e,f]:List Expr).length+([]:List aT).length+(if ([]:List aT).isEmpty then 0 else 1)<30))=Uf
 line:(apos.endLine==cpos.line)=Uf
 trees:F9 cpos (v7 [e,f] X.env)=[(U',eval e X.env),(U',eval f X.env)]
def IsD(H:Hp)(a:Addr):Prop:=(∃kvs,Rd H a (.dK kvs))\/∃kvs,Rd H a (.dT kvs)
def a0E(I:Inv c c9 D H B)(d:IsD H z):
  B.TypeIs (.ref z) "dict"/\(∀b,aU z=.ref b->∃ob,B.heap.get? b=U ob/\ob.dict=J)/\(z==qD)=U':=by
 rcases d with ⟨i,e⟩|⟨i,e⟩
 obtain⟨_,g,k,_,X⟩:=BI I.J1 e;refine⟨X.typeIs,λb q=>?_,g⟩;cases q;obtain⟨ob,_,_,f,h,_⟩:=X;exact⟨ob,f,h.2.1⟩;obtain⟨_,g,l,_,X⟩:=BH I.J1 e;refine⟨X.typeIs,λb q=>?_,g⟩;cases q;obtain⟨ob,_,_,f,h,_⟩:=X;exact⟨ob,f,h.2.1⟩
def a0X{d:V}(t:L.units+1<R3)(I:Inv c c9 D H B)(g:xb H z a2 o6)(p:RelV a2 b6)(n:RelV d i7)(h:∀w' s',Inv c c9 D H s'->RelV (o6.getD d) w'->c6 w' s'):
  wpAny (model c.prog c.w) L (call (.builtin "dict.get") [.ref z,b6,i7]) c6 Y B:=by
 rcases g with ⟨j,k,e,m,l⟩|⟨j,k,b,e,m,q,l⟩
 subst m;obtain⟨σ,i,x,X,f⟩:=BI I.J1 e;refine call_meetsIn Fz f.typeIs OQ (OX _ _ _) (meets_dict_get_default (aH c.prog c.w) z (JF p) i i7) ⟨_,f.mapOf,h _ _ (I.tok _) ?_⟩;rw[l];exact(X.val k).getD n;subst m;cases(show b6=aU b from p);obtain⟨σ,i,v,X,f⟩:=BH I.J1 e;refine call_meetsIn Fz f.typeIs OQ (OX _ _ _) (meetsH_dict_get_default (om (aH c.prog c.w)) z b i i7) ⟨tupleKind_room_in1 t,k,v,CT I.J1 q,f,h _ _ (I.tok _) ?_⟩;rw[l];exact(X.val k).getD n
def KI(td ty tx:TE):TE:=λσ H Q=>td σ H λx H1=>∃a,x=.ref a/\IsD H1 a/\ty σ H1 λy H2=>tx σ H2 λz H3=>∃o,xb H3 a y o/\Q (o.getD z) H3
def RB{tx:TE}(r:c.A.units+1<R3)(F:PE c o G)(E:PE c e b9)(C:PE c b7 tx)(m:M2 c o "get" p e b7 A):PE c (.Call (.Attribute o "get" p) [e,b7] [] A) (KI G b9 tx):=by
 intro b s X H Q I h;refine wpAny_Call_method m.base m.few m.line PySem.F.plainAttrs_dict Fz PySem.F.type_dict_get (F1 (F b s X H _ I h) λu v ⟨x,O,j,K,a,P,d,N⟩=>?_)
 subst P;obtain rfl:=K;obtain⟨k,D,_⟩:=a0E j d;refine⟨k,D,?_⟩;rw[m.trees];refine FJ rfl (OI (zj (F1 (E b v X O _ j N) λS L ⟨y,n,l,f,q2⟩ =>
  zj (F1 (C b L X n _ l q2) λV T ⟨z,w,t,B,W,g,q⟩=>EW ?_))))
 exact a0X r t g f B λY R M i=>⟨_,w,M,i,q⟩
def JV(env:Env):∀(names:List (Str×lK)) (a:List (Str×Addr)),(∀y∈names,y.2=.free->∃c,env.cells.lookup y.1=U c)->(∀x c,a.lookup x=U c->env.cells.lookup x=U c) ->
  ∃cl,(forIn names a λy (cs:List (Str×Addr))=>if (y.2==.free)=Uf then(do let c <- cellOf env y.1;pure (lS ((y.1,c)::cs)))else pure (lS cs):Sem (List (Str×Addr)))=pure cl /\
   (∀x c,cl.lookup x=U c->env.cells.lookup x=U c)/\(∀y∈names,y.2=.free->(cl.lookup y.1).isSome=Uf)/\(∀x,(a.lookup x).isSome=Uf->(cl.lookup x).isSome=Uf):=by
 intro l_;induction l_ with
 |nil =>
  intro a _ ha;exact⟨a,by simp only[List.forIn_nil],ha,(λ_ h=>nomatch h),(λ_ h=>h)⟩
 |cons a_ r ih_ =>
  obtain⟨n,k⟩:=a_;intro a h ha;have s:=λy b=>h y (C6 _ b);by_cases o:k=.free
  . subst o;obtain⟨c,q⟩:=h (n,.free) D1 rfl;have i:∀x c',((n,c)::a).lookup x=U c'->env.cells.lookup x=U c':=λx c' e=>by
     rw[oB]at e;cases d:x==n with
     |true =>
      rw[d]at e;cases e;rw[eq_of_beq d];exact q
     |false =>
      rw[d]at e;exact ha x c' e
    obtain⟨cl,l,p,j,m⟩:=ih_ ((n,c)::a) s i;have t:=m;refine⟨cl,?_,p,λy b f=>?_,λx d=>t x ?_⟩
    . rw[NP];have v:cellOf env n=pure c:=by delta cellOf;rw[q]
      simp only[v];exact l
    . rcases List.mem_cons.mp b with rfl|b
      exact t n B3;exact j y b f
    . rw[oB];cases x==n<;>simp[d]
  . obtain⟨cl,l,p,j,m⟩:=ih_ a s ha;refine⟨cl,?_,p,λy b f=>?_,m⟩
    . rw[NP];have u:(k==hC)=U':=by simpa using o
      simp only[u];exact l
    . rcases List.mem_cons.mp b with rfl|b
      exact absurd f o;exact j y b f
def JU(h:∀y∈d8.names,y.2=.free->∃c,m6.cells.lookup y.1=U c):
  ∃cl,closureFor d8 m6=pure cl/\(∀x c,cl.lookup x=U c->m6.cells.lookup x=U c)/\(∀y∈d8.names,y.2=.free->(cl.lookup y.1).isSome=Uf):=by
 obtain⟨cl,d,f,b,_⟩:=JV m6 d8.names [] h (λx c e=>by simp at e);refine⟨cl,?_,f,b⟩;show((forIn d8.names [] λy a=>if (y.2==.free)=Uf then(do let c <- cellOf m6 y.1;pure (lS ((y.1,c)::a)))else pure (lS a):Sem (List (Str×Addr))) >>= pure)=_;rw[d];rfl
theorem nH{env:Env}:∀{names:List (Str×lK)} {x:Str},
  ((names.map λ(n,k)=>if (k==hC&&env.scope.kind==.function&&env.kindOf n==U .cell)then(n,bT)else(n,k)).lookup x=U .cell \/
   (names.map λ(n,k)=>if (k==hC&&env.scope.kind==.function&&env.kindOf n==U .cell)then(n,bT)else(n,k)).lookup x=U .free) ->
  (x,hC)∈names\/(x,bT)∈names
 | [],_,h=>by simp at h
 |(n,k)::r,x,h=>by
  by_cases f:(x==n)=Uf
  . have e:=eq_of_beq f;subst e;by_cases b:k=.free;subst b;exact .inl D1
    . right;have i:(k==hC)=U':=by simpa using b
      simp only[C7,i,Ez,lZ,if_false,oB,beq_self_eq_true]at h
      simp_all
  . have c:(x==n)=U':=by simpa using f
    refine((@nH env r x) ?_).imp (C6 _) (C6 _);rw[C7]at h;have d:∀(g:lK) l,fw x ((n,g)::l)=fw x l:=λg l=>by rw[oB,c]
    by_cases a:(k==hC&&env.scope.kind==.function&&env.kindOf n==U .cell)=Uf;have e:(if (k==hC&&env.scope.kind==.function&&env.kindOf n==U .cell)=Uf then(n,bT)else(n,k))=(n,bT):=f9 a;simp only[e,d]at h;exact h;have e:(if (k==hC&&env.scope.kind==.function&&env.kindOf n==U .cell)=Uf then(n,bT)else(n,k))=(n,k):=f6 a;simp only[e,d]at h;exact h
noncomputable def W8(X:Cx)(bs nb:List Str)(scope:eF)(cl:List (Str×Addr))(C:Addr)(fp:List Addr)(s:v5)(H:Hp)(pins:List (Addr×Obj)):Cx where
 prog:=X.prog
 w:=X.w
 K:=X.K
 mg:=X.mg
 base:=X.base
 A:=X.A
 N:=bs++nb
 V4:=s
 D7:=H
 env:=uf scope cl C X.env
 outer:=X.stack
 stack:=X.stack
 ex:=fp
 fn:=λy=>decide (scope.names.lookup y=U .cell)
 calm:=X.calm
 pn:=X.pn++pins
 xe:=λ_ _=>False
structure jX(X:Cx)(bs nb:List Str)(scope:eF):Prop where
 kind:scope.kind=.function
 names:∀y∈scope.names,y.2=.local->scope.names.lookup y.1=U .local
 ag:∀y∈scope.names,y.2=.free->X.env.scope.names.lookup y.1=U .cell\/X.env.scope.names.lookup y.1=U .free
 apart:∀x∈nb,∀y∈scope.names,y.1=x->y.2≠.local/\y.2≠.cell
 len:nb.length=X.N.length
 nms:∀(j:Nat) (x:Str),nb[j]? = U x->X.N[j]? = U x\/∀y∈scope.names,y.1≠x
noncomputable def gH(N nb:List Str)(fsc sc:eF):Bool:=
 (decide (nb.length=N.length)&&(nb.zip N).all λp=>decide (p.1=p.2)||sc.names.all λy=>!decide (y.1=p.1))&&(decide (sc.kind=.function)&&(sc.names.all λy=>!decide (y.2=.local)||decide (sc.names.lookup y.1=U .local)) &&
  (sc.names.all λy=>!decide (y.2=.free)||(decide (fsc.names.lookup y.1=U .cell)||decide (fsc.names.lookup y.1=U .free)))&&nb.all λx=>sc.names.all λy=>!decide (y.1=x)||!decide (y.2=.local\/y.2=.cell))
def yq(h:gH c.N d6 c.env.scope d8=Uf):jX c Q d6 d8:=by
 unfold gH at h;simp only[qV,List.all_eq_true,NO,Of,qW,decide_eq_false_iff_not]at h;obtain⟨⟨g,m⟩,⟨⟨o,n⟩,l⟩,i⟩:=h;refine⟨o,λy a e=>?_,λy a e=>?_,λx d y a f=>?_,g,λj x b=>?_⟩
 . rcases n y a with q|q
   exact absurd e q;exact q
 . rcases l y a with q|q
   exact absurd e q;exact q
 . rcases i x d y a with q|q
   exact absurd f q;exact⟨λz=>q (.inl z),λz=>q (.inr z)⟩
 . have:=(List.getElem?_eq_some_iff.mp b).1;have X:c.N[j]? = U (c.N[j]'r9):=L3 _;have k:(d6.zip c.N)[j]? = U (x,c.N[j]'r9):=List.getElem?_zip_eq_some.mpr ⟨b,X⟩;rcases m _ (oJ k)with q|q
   left;rw[X];exact B9 U q.symm;right;exact q
set_option tactic.hygienic true in
def a2l(lo:Nat)(P:Str->Addr->Prop):∀(names:List (Str×lK)) (h:Heap) (d:List (Str×Addr)) (D:Str->Prop),lo<=h.objs.size ->
  (∀x c,d.lookup x=U c->c<h.objs.size/\((P x c/\¬D x)\/(D x/\lo<=c/\h.IsCell c J)))->(∀x y c,d.lookup x=U c->d.lookup y=U c->x=y)->(∀x,D x->(d.lookup x).isSome=Uf) ->
  (∀x c,(gO h.objs.size names d).lookup x=U c->(P x c/\¬(D x\/(x,bT)∈names))\/((D x\/(x,bT)∈names)/\lo<=c/\(qC h names).IsCell c J)) /\
  (∀x y c,(gO h.objs.size names d).lookup x=U c->(gO h.objs.size names d).lookup y=U c->x=y)/\(∀x,(D x\/(x,bT)∈names)\/(d.lookup x).isSome=Uf->((gO h.objs.size names d).lookup x).isSome=Uf):=by
 intro l_;induction l_ with
 |nil =>
  intro h d D hlo h1 h2 h3;refine⟨λx c e=>?_,h2,λx f=>?_⟩
  . rcases(h1 x c e).2 with ⟨u,v⟩|⟨u,v,B⟩
    exact .inl ⟨u,λz=>z.elim v B3⟩;exact .inr ⟨.inl u,v,B⟩
  . rcases f with (f|f)|f
    exact h3 x f;simp at f;exact f
 |cons a_ r ih_ =>
  obtain⟨n,k⟩:=a_;intro h d D hlo h1 h2 h3;unfold qC gO;by_cases w:k=.cell
  . subst w;have l:∀x,((n,h.objs.size)::d).lookup x=if x=n then U h.objs.size else d.lookup x:=λx=>by
     rw[oB];by_cases c:x=n;subst c;simp
     . have:(x==n)=U':=by simpa using c
       rw[this,f6 c]
    have sz:(h.push {cls:=.type "cell",data:=.cell J}).objs.size=h.objs.size+1:=hE ..;obtain⟨s,m,p⟩:=ih_ (h.push {cls:=.type "cell",data:=.cell J}) ((n,h.objs.size)::d) (λx=>D x\/x=n) (by omega) (λx c e=>by
      rw[l]at e;split at e;rename_i f;cases e;exact⟨by simp,.inr ⟨.inr f,hlo,_,W6 _ rfl,rfl⟩⟩
      . rename_i f;obtain⟨z,q⟩:=h1 x c e;refine⟨by rw[sz];exact qY z,?_⟩
        rcases q with ⟨t,q2⟩|⟨t,q2,E⟩
        exact .inl ⟨t,λy=>y.elim q2 f⟩
        . exact .inr ⟨.inl t,q2,E.keeps λb o e=>G0 _ e⟩) (λx y c i g=>by
      rw[l]at i g;split at i;split at g;rename_i a b;rw[a,b];cases i;exact absurd (h1 y _ g).1 (U9 _)
      . split at g;cases g;exact absurd (h1 x _ i).1 (U9 _)
        . exact h2 x y c i g) (λx f=>by
      rw[l];split;rfl
      . rename_i C;exact h3 x (f.resolve_right C))
    rw[sz]at s m p;have j:∀x,((D x\/x=n)\/(x,bT)∈r)↔(D x\/(x,bT)∈(n,bT)::r):=λx=>by
     rw[T8];constructor;rintro((z|z)|z);exact .inl z;exact .inr (.inl (by rw[z]));exact .inr (.inr z);rintro(z|z|z);exact .inl (.inl z);exact .inl (.inr (B9 Prod.fst z));exact .inr z
    refine⟨λx c e=>?_,m,λx f=>p x ?_⟩;rw[<-j];exact s x c e;rw[<-j]at f;refine f.imp id λz=>?_;rw[l];split;rfl;exact z
  . have A:(k==bT)=U':=by simpa using w
    simp only[A];obtain⟨s,m,p⟩:=ih_ h d D hlo h1 h2 h3;have j:∀x,(x,bT)∈r↔(x,bT)∈(n,k)::r:=λx=>by rw[T8];exact⟨.inr,λz=>z.resolve_left λy=>w (B9 Prod.snd y).symm⟩
    refine⟨λx c e=>?_,m,λx f=>p x ?_⟩;rw[<-j];exact s x c e;rw[<-j]at f;exact f
structure TQ(X:Cx)(scope:eF)(cl:List (Str×Addr))(n:Nat):Prop where
 c1:∀x c,cl.lookup x=U c->(X.env.cells.lookup x=U c/\¬(x,bT)∈scope.names)\/((x,bT)∈scope.names/\n<=c)
 c2:∀x,(x,hC)∈scope.names\/(x,bT)∈scope.names->(cl.lookup x).isSome=Uf
 c3:∀x y c,cl.lookup x=U c->cl.lookup y=U c->x=y
def a1a(I:Inv c c9 D H B)(σ:jX c Q d6 d8)(L:TQ c d8 n9 (hz B))(g:(hz B)<=z)(f:∀b∈O,mz c c9 H b)(d:∀b∈O,b<(hz B)):(W8 c Q d6 d8 n9 z O B H c9).Ok where
 mod:=I.ok.mod
 kind:=σ.kind
 glob:=I.ok.glob
 blt:=I.ok.blt
 above:=g
 inj:=L.c3
 has:=λx j=>by exact Option.isSome_iff_exists.mp (L.c2 x (nH j))
 Ik:=λx X h e=>by
  rcases L.c1 x X e with C|C
  exact absurd (ma (oE h)) C.2;exact C.2
 hd:=I.ok.hd
 frames:=I.ok.frames
 KQ:=.inl rfl
 UQ:=λb a=>⟨Q1 (M5 (d b a) g),λx X e=>(L.c1 x X e).elim (λC=>(f b a).2.2.2.2.1 x X C.1) λC=>ar (M5 (d b a) C.2)⟩
 bs:=I.bs
 sG:=B6 I.ok.sG I.sz
 wG:=λb o e a=>by
  rcases(f b a).2.2.2.1 with C|C
  exact I.ok.wG b o e C;exact absurd (M5 (F6 e) (B6 I.ok.sG C)) (U9 _)
 Aj:=λb a i=>by
  rcases List.mem_cons.mp (I.tj b i)with C|C
  exact(f b a).2.1 C;exact(f b a).2.2.1 C
 kC:=I.stack
 AY:=I.GO
def fT(bs:List Str)(σ:St):St:=D3 bs.length J++σ
def XJ{t':Nat}(I:Inv c c9 D H B)(bs:jX c Q d6 d8)(L:TQ c d8 n9 (hz B))(E:∀x X,n9.lookup x=U X->(hz B)<=X->a7.IsCell X J)(C:(hz B)<=z)(hf:∀b∈O,mz c c9 H b)(P:∀b∈O,b<(hz B))(k:∀b u,B.heap.get? b=U u->a7.get? b=U u)(hn:a7.Ns z o2):Inv (W8 c Q d6 d8 n9 z O B H c9) [] (fT Q D) H {B with heap:=a7,toks:=t'}:=by
 refine⟨a1a I bs L C hf P,rfl,I.bare,Un.kept k,⟨o2,hn,λi x v S y f=>?_⟩,λx X e=>?_,I.J1.fresh C,λx X e=>(L.c1 x X e).elim (λσ=>I.ji x X σ.1) λσ=>I.J1.fresh σ.2,λp Z=>?_,I.J1.kept k,?_⟩
 . have q:(Q++d6)[i]? = U x:=S;unfold fT at y;by_cases A:i<Q.length;rw[fZ (by simpa using A),FN,f9 A]at y;cases y
   . rw[js (by simpa using A),rf]at y;rw[js (by simpa using A)]at q
     have h:=oJ q;have m:(x,hC)∈d8.names:=by
      rcases f with f|f
      exfalso;obtain⟨⟨n,F⟩,G,j⟩:=mem_map.mp (ma f);by_cases a:(F==hC&&c.env.scope.kind==.function&&c.env.kindOf n==U .cell)=Uf;simp only[a]at j;cases j;simp only[a]at j;cases j;exact(bs.apart x h (x,.local) G rfl).1 rfl;exact(nH f).resolve_right λσ=>(bs.apart x h _ σ rfl).2 rfl
     have W:Vc c.env.scope x:=.inr (bs.ag _ m rfl);obtain⟨m0,_,Y⟩:=I.loc;obtain⟨u,r,l⟩:=Y _ x v ((bs.nms _ x q).resolve_right λσ=>σ _ m rfl) y W
     refine⟨u,r,?_⟩;have N:(W8 c Q d6 d8 n9 z O B H c9).env.kindOf x=U .cell\/(W8 c Q d6 d8 n9 z O B H c9).env.kindOf x=U .free:=by
      rcases f with f|f
      exfalso;obtain⟨⟨n,F⟩,G,j⟩:=mem_map.mp (ma f);by_cases a:(F==hC&&c.env.scope.kind==.function&&c.env.kindOf n==U .cell)=Uf;simp only[a]at j;cases j;simp only[a]at j;cases j;exact(bs.apart x h (x,.local) G rfl).1 rfl;exact f
     rcases l with ⟨hk,_⟩|⟨_,X,T,t⟩
     . exfalso;have g:c.env.scope.names.lookup x=U .local:=hk;rcases bs.ag _ m rfl with σ | σ
       rw[show c.env.scope.names.lookup x=U .cell from σ]at g;cases g;rw[show c.env.scope.names.lookup x=U .free from σ]at g;cases g
     . obtain⟨R,w⟩:=Option.isSome_iff_exists.mp (L.c2 _ (.inl m));have:R=X:=by
        rcases L.c1 _ _ w with σ | σ
        exact V0 (σ.1.symm.trans T);exact absurd rfl (bs.apart x h _ σ.1 rfl).2
       subst this;obtain⟨o,M,s⟩:=t;exact .inr ⟨N,R,w,o,k _ _ M,s⟩
 . rcases L.c1 x X e with σ | σ
   obtain⟨v,o,M,s⟩:=I.cell x X σ.1;exact⟨v,o,k _ _ M,s⟩;exact⟨_,E x X e σ.2⟩
 . have K:p∈c.pn++c9:=by simpa [W8]using Z
   obtain⟨e,n,ne,V,d⟩:=I.pin p K;refine⟨k _ _ e,n,Q1 (M5 (F6 e) C),λσ=>?_,d⟩
   rcases List.mem_cons.mp (I.tj _ σ)with σ | σ
   exact ne σ;exact V σ
 delta fT;show _=(Q++d6).length;rw[au,au,rf,I.len,bs.len]
def Inv.Iy{o:HO}(I:Inv c c9 D H B)(i:H z=J)(g:z≠c.env.locals)(t:z∈c.ex\/c.V4.heap.objs.size<=z)(j:∀x X,c.env.cells.lookup x=U X->X≠z)(r:∀p∈c.pn++c9,p.1≠z)(new:ao c.prog c.w (upd H z o) B.heap z o):Inv c c9 D (upd H z o) B:=by
 have a:∀b u,H b=U u->upd H z o b=U u:=λb u e=>by rw[J4 (ai e i)];exact e
 have:=I.step (d':=B.drawn) (t':=B.toks) (ch:=[z]) (λb f=>?_) (λb d _ _ _ e _=>e) (λb d _ _ _ e _=>⟨d.slots,e⟩) (λb d l e n=>?_) (λb d _ e=>⟨d,e⟩)
  (λb h e=>a b _ e) (λb d u e=>a b _ e) (λb v e=>⟨#[],by rw[a b _ e];simp⟩) (λm k=>k) (λb u e=>?_) I.bare
 exact this
 . have e:b=z:=by simpa using f
   subst e;exact⟨t,g,j,r⟩
 rw[J4 (by simpa using l)];exact n;by_cases f:b=z;subst f;rw[O3]at e;cases e;exact new;rw[J4 f]at e;exact(I.J1 b u e).wo (λ_ _ _ q=>q) (λX q=>a X _ q) λX h q=>a X _ q
def Au(X:Cx)(ifs:List Expr)(t:TT):Prop:=
 ∀(pins:List (Addr×Obj)) (s:v5) (σ:St) (H:Hp) (Q:Bool->Hp->Prop) (E:t2->v5->Prop),(∀e s',X.xe e s'->E e s')->Inv X pins σ H s->t σ H Q ->
  wpAny (model X.prog X.w) X.A (forIn ifs Uf λc r=>if r=Uf then do let ok <- isTrue c X.env (eval c X.env);pure (lS ok)else pure (lS r)) (TP X pins σ Q) E s
def xl:TT:=λ_ H Q=>Q Uf H
def wA:Au c [] xl:=λ_ _ _ H _ _ _ I h=>wpAny_tests_nil ⟨H,I,h⟩
def Rr(h:PT c e a8):Au c [e] a8:=λa s b H Q E d I q=>wpAny_tests_one (bP (h a s b H Q I q) (λ_ _ z=>z) d)
section
variable{prog:L9}{w:E1}
def GB (I:Nat->v5->Prop) (turn:∀n B,I n B->wpAny (model prog w) L (oi b6) (λr s₁=>match r with
   |none=>m7 (.ok .next) s₁
   |some v=>wpAny (model prog w) L (EL b7 b6 v) (λ_ V4=>wpAny (model prog w) L (assign b7 m6 v) (λ_ s₂ =>
     wpAny (model prog w) L (forIn Z Uf λc r=>if r=Uf then do let ok <- isTrue c m6 (eval c m6);pure (lS ok)else pure (lS r)) (λok s₃ =>
      if ok=Uf then wpAny (model prog w) L (eval e m6) (λx i =>
       wpAny (model prog w) L (call (.builtin "list.append") [i7,x]) (λ_ f=>∃m,m<n/\I m f) (ju (model prog w) L m6 λA s'=>m7 (.error A) s') i) (ju (model prog w) L m6 λA s'=>m7 (.error A) s') s₃
      else ∃m,m<n/\I m s₃) (ju (model prog w) L m6 λA s'=>m7 (.error A) s') s₂) (ju (model prog w) L m6 λA s'=>m7 (.error A) s') V4) (ju (model prog w) L m6 λA s'=>m7 (.error A) s') s₁) (ju (model prog w) L m6 λA s'=>m7 (.error A) s') B)
  (n:Nat) (h:I n B) :
  codeAny (model prog w) L (.compLoop (.ListComp e [⟨b7,o,Z,0⟩] d8 c5) 0 b6 i7 m6) m7 B:=by
 refine codeAny_loop rfl I (λn B y=>?_) n h;refine wpAny_noted ?_;refine u4 (yO (u4 (bP (turn n B y) (λr s₁ d=>?_) λ_ _ b=>b)))
 cases r with
 |none=>exact z6 d
 |some v =>
  refine u4 (bP d (λ_ V4 j=>?_) λ_ _ b=>b);refine u4 (bP j (λ_ s₂ q=>u4 (bP q (λok s₃ g=>?_) λ_ _ b=>b)) λ_ _ b=>b)
  cases ok with
  |false=>exact z6 ⟨rfl,g⟩
  |true =>
   exact u4 (u4 (bP g (λx i l=>u4 (bP l (λ_ f u=>z6 (z6 ⟨rfl,u⟩)) λ_ _ b=>b)) λ_ _ b=>b))
end
def jN(n:Nat)(g:TG):Prop:=∀x σ H Q,g x σ H Q->g x σ H λσ2 H2=>Q σ2 H2/\σ2.length=σ.length/\∀j,n<=j->σ2[j]? = σ[j]?
def BK(n:Nat)(g:vU):Prop:=∀x σ H Q,g x σ H Q->g x σ H λσ2 H2=>Q σ2 H2/\σ2.length=σ.length/\∀j,n<=j->σ2[j]? = σ[j]?
def MU(h:autoParam (c8<m) F8):jN m (aJ c8):=λx b H Q q=>⟨q,by simp,λj a=>by rw[hH (Q1 (M5 s9 s9))]⟩
def MT:BK m JM:=λx a H Q q=>⟨q.1,q.2,rfl,λ_ _=>rfl⟩
def xW(o:BK m m8)(h:autoParam (c8<m) F8):BK m (rH (aJ c8) m8):=λx f H Q q=>by
 obtain⟨v,r,e,q⟩:=q;refine⟨v,r,e,?_⟩;have n:∀d:St,(d.length=(f.set c8 (U v)).length/\∀j,m<=j->d[j]? = (f.set c8 (U v))[j]?)->d.length=f.length/\∀j,m<=j->d[j]? = f[j]?:=λd ⟨a,b⟩=>by
  refine⟨by simpa using a,λj k=>?_⟩;have:=b j k
  rwa [hH (Q1 (M5 s9 s9))]at this
 have l:(λd g=>Q d g/\d.length=(f.set c8 (U v)).length/\∀j,m<=j->d[j]? = (f.set c8 (U v))[j]?)=λd g=>Q d g/\d.length=f.length/\∀j,m<=j->d[j]? = f[j]?:=by
  funext d g
  apply propext;constructor;rintro⟨a,b⟩;exact⟨a,n d b⟩;rintro⟨a,b,c⟩;refine⟨a,by simpa using b,λj k=>?_⟩;rw[hH (Q1 (M5 s9 s9))];exact c j k
 rw[<-l];exact(o r (f.set c8 (U v)) H Q q)
def SG(h:BK c8 m8):jN c8 (Af g m m8):=λx d H Q q=>by obtain⟨a,b,e,c,f,q⟩:=q;exact⟨a,b,e,c,f,h b d H Q q⟩
def a2o(Jff:It)(bs:List Str)(g:TG)(tt:TT)(te:TE)(σ:St)(Q:VK)(H1:Hp):Prop:=∃(n:Nat) (W:Nat->List V->Hp->Prop),n<=E6/\W 0 [] H1/\∀i ys H,W i ys H ->
 ((Jff.stop i H/\∀p,H p=J->Q (.ref p) (upd H p (.lst ys)))\/(Jff.go i H/\i<n/\∀x H',Jff.Ub i H x H'->g x (fT bs σ) H' λσ2 H2=>tt σ2 H2 λb H3=>if b=Uf then te σ2 H3 (λy H4=>W (i+1) (ys++[y]) H4)else W (i+1) ys H3))
def gW(bs:List Str)(wi:TI)(g:TG)(tt:TT)(te:TE):TE:=λσ H Q=>wi σ H λJff H1=>a2o Jff bs g tt te σ Q H1
def Vals.snoc(r:Vals N j2)(h:RelV a2 b6):Vals (N++[a2]) (j2++[b6]):=r.append (.cons h .nil)
def Vl{M:Model}{Q:Env->v5->Prop}(g:Q (newEnv d8 (hz B) z (gO ((hz B)+1) d8.names n9) y J .none (U m6) T) {B with heap:=qC (B.heap.push {cls:=.type "dict",data:=.dict #[]}) d8.names}):
  wpAny M L (newFunctionEnv d8 z n9 [] y J .none (U m6) T) Q Y B:=by
 simp only[newFunctionEnv,Option.isSome_some,U7];refine u4 (wpAny_alloc ?_);refine u4 (wpAny_layCells _ (λe c d=>by rfl) _ _ _ _ ?_);rw[show({B with heap:=B.heap.push {cls:=.type "dict",data:=.dict #[]}}:v5).heap.objs.size=(hz B)+1 from hE ..];refine u4 ?_;exact z6 (z6 g)
def GF{F:Expr}{use:Option (t2->Sem Unit)}(hc:c.calm=Uf)(B:jX c Q d6 d8)(hi:PI c b7 F j4)(go:jN Q.length j5)(hg:∀cl C fp s H pins,PG (W8 c Q d6 d8 cl C fp s H pins) b7 j5)(ht:∀cl C fp s H pins,Au (W8 c Q d6 d8 cl C fp s H pins) Z a8)(he:∀cl C fp s H pins,PE (W8 c Q d6 d8 cl C fp s H pins) e G)(hs:∀x,ee F c.env x=pure x)(pins:List (Addr×Obj))(s:v5)(σ:St)(H:Hp)(g:VK)(I:Inv c pins σ H s)(h:gW Q j4 j5 a8 G σ H g)(hfin:∀(D C:Addr) (s':v5) (H':Hp) (f:Flow),Inv c pins σ H' s'->g (.ref D) H'->mz c pins H' C->(∃m,s'.heap.Ns C m)->ue (model c.prog c.w) c.A c.xe use Y (.ref D) C (.ok f) s'):
  wpAny (model c.prog c.w) c.A (comprehension (.ListComp e [⟨b7,F,Z,0⟩] d8 p) d8 c.env (firstIterPos [⟨b7,F,Z,0⟩] p) (newList []) (firstAsync [⟨b7,F,Z,0⟩]) (firstIter [⟨b7,F,Z,0⟩] c.env) use) Y c.xe s:=by
 obtain⟨cl0,hcl,c1,c2⟩:=JU (λy hy hf=>I.ok.has y.1 (B.ag y hy hf));refine wpAny_comprehension_free rfl hs hcl B.kind B.names (F1 (hi pins s σ H _ I h) λv s1 h1=>F1 h1 λitv a h2=>?_)
 obtain⟨it,fp,tn,Jff,H2,R,M,T,st2,f2,n,W,hn,w0,turn⟩:=h2;subst R;have hlt:∀b∈fp,b<a.heap.objs.size:=λb l=>by obtain⟨o,R,_⟩:=T.obj _ _ st2 b l;exact F6 R
 refine lW (Vl ?_);generalize hH2:a.heap.push {cls:=.type "list",dict:=J,data:=.seq ([]).toArray}=E;have hCs:E.objs.size=a.heap.objs.size+1:=by rw[<-hH2,hE]
 have hDC:a.heap.objs.size≠E.objs.size:=by rw[hCs];exact Q1 (uC _)
 have t:a.heap.objs.size<=E.objs.size:=by rw[hCs];exact Nat.le_succ _
 have sz3:(E.push {cls:=.type "dict",data:=.dict #[]}).objs.size=E.objs.size+1:=hE ..;obtain⟨f1,f3,f4⟩:=a2l a.heap.objs.size (λx X=>c.env.cells.lookup x=U X) d8.names (E.push {cls:=.type "dict",data:=.dict #[]}) cl0 (λ_=>False) r9
  (λx X R=>⟨by obtain⟨v,q⟩:=M.cell x X (c1 x X R);rw[sz3];exact qY (M5 q.lt t),.inl ⟨c1 x X R,λz=>z⟩⟩) (λx y X e1 e2=>M.ok.inj x y X (c1 x X e1) (c1 y X e2)) λx z=>z.elim
 rw[sz3]at f1 f3 f4;generalize hcl':gO (E.objs.size+1) d8.names cl0=cl at f1 f3 f4 ⊢;have P:(qC (E.push {cls:=.type "dict",data:=.dict #[]}) d8.names).Ns E.objs.size (λ_=>J):=(Heap.Ns.new E (.type "dict")).keeps (pushCells_keeps _ _);have old0:∀b o,E.get? b=U o->(qC (E.push {cls:=.type "dict",data:=.dict #[]}) d8.names).get? b=U o:=λb o R=>pushCells_keeps _ _ b o (G0 _ R);generalize qC (E.push {cls:=.type "dict",data:=.dict #[]}) d8.names=h₁ at f1 P old0 ⊢;have old:=λb o R=>old0 b o (hH2▸G0 _ R);have hacc:=old0 _ _ (hH2▸W6 _ rfl);have hDn:=λb l=>Q1 (hlt b l);have L:TQ c d8 cl a.heap.objs.size:=⟨λx X R=>(f1 x X R).imp (λz=>⟨z.1,λy=>z.2 (.inr y)⟩) λz=>⟨z.1.resolve_left λy=>y,z.2.1⟩,λx z=>f4 x (z.elim (λz=>.inr (c2 _ z rfl)) λz=>.inl (.inr z)),f3⟩
 have nD:∀x X,cl.lookup x=U X->X≠a.heap.objs.size:=λx X R z=>by
  rcases f1 x X R with ⟨y,_⟩|⟨_,_,o,y,yd⟩
  obtain⟨v,q⟩:=M.cell x X y;exact absurd q.lt (by rw[z];exact U9 _);rw[z,hacc]at y;cases y;cases yd
 have J0:=XJ (t':=a.toks) M B L (λx X R z=>(f1 x X R).elim (λy=>by obtain⟨v,q⟩:=M.cell x X y.1;exact absurd q.lt (Nat.not_lt.mpr z)) λy=>y.2.2) t f2 hlt old P
 generalize A:W8 c Q d6 d8 cl E.objs.size fp a H2 pins=O at J0;have fpB:∀{H':Hp} {pl:List (Addr×Obj)},(∀b∈fp,H' b=J)->(∀w∈pl,w.1∉fp)->∀b∈fp,mz O pl H' b:=λ{H' pl} hz N b l=>by
  subst A;refine⟨hz b l,Q1 (M5 (hlt b l) t),J0.ok.Aj b l,.inl l,J0.ok.UQ b l |>.2,λw hq=>?_⟩
  rcases List.mem_append.mp hq with z|z
  exact(f2 b l).2.2.2.2.2 w z;intro R;exact N w z (R▸l)
 have Dfs:a.heap.objs.size∉O.fs:=λl=>by
  subst A;rcases List.mem_cons.mp (M.tj _ l)with z|z
  exact absurd M.lt (by rw[<-z];exact U9 _);exact M.RY E7 z
 have Dcell:∀x X,c.env.cells.lookup x=U X->X≠a.heap.objs.size:=λx X R z=>by obtain⟨v,q⟩:=M.cell x X R;exact absurd q.lt (by rw[z];exact U9 _)
 have Dpin:=λw N=>Q1 (F6 (M.pin w N).1);have Dloc:a.heap.objs.size≠O.env.locals:=λz=>hDC (z.trans (B9 (·.env.locals) A).symm)
 have pinD:∀{σ':St} {H':Hp} {s':v5} {o:Obj},Inv O [] σ' H' s'->s'.heap.get? a.heap.objs.size=U o->H' a.heap.objs.size=J->(∀v,o.data≠.cell v)->Inv O [(a.heap.objs.size,o)] σ' H' s':=λ{σ' H' s' o} I' R hz hd =>
  I'.kx λw N=>by
   have ep:w=(a.heap.objs.size,o):=by simpa using N
   subst ep;exact⟨R,hz,Dloc,Dfs,hd⟩
 have loop:∀s₃:v5,s₃={a with heap:=h₁,toks:=a.toks} ->
   codeAny (model c.prog c.w) c.A (.compLoop (.ListComp e [⟨b7,F,Z,0⟩] d8 p) 0 (.ref it) (.ref a.heap.objs.size) (uf d8 cl E.objs.size c.env))
    (ue (model c.prog c.w) c.A c.xe use Y (.ref a.heap.objs.size) E.objs.size) s₃:=by
  rintro s₃ rfl;refine GB (λk s'=>∃(i:Nat) (ys:List V) (S:List t2) (z:Nat) (H':Hp),k=n-i+1/\i<=n/\S.length<=i/\Vals ys S/\Inv O [(a.heap.objs.size,{cls:=.type "list",data:=.seq S.toArray z})] (fT Q σ) H' s'/\tn i s'.heap/\(∀b∈fp,H' b=J)/\W i ys H') ?_ (n-0+1)
   ⟨0,[],[],0,H2,rfl,gP _,T6 _,.nil,pinD J0 hacc (M.J1.fresh E7) (λv z=>by cases z),T.keep _ _ _ st2 λb _ o R=>old b o R,λb l=>(f2 b l).1,w0⟩
  rintro k s3 ⟨i,ys,S,z,H3,rfl,hin,hul,rv,I3,st3,fr3,w3⟩;have npl:∀w∈([(a.heap.objs.size,{cls:=.type "list",data:=.seq S.toArray z})]:List (Addr×Obj)),w.1∉fp:=λw N hm=>by
   have ep:w=(a.heap.objs.size,{cls:=.type "list",data:=.seq S.toArray z}):=by simpa using N
   subst ep;exact hDn _ hm rfl
  have eP:=(B9 (·.prog) A).symm;have eW:=(B9 (·.w) A).symm;have eK:=(B9 (·.K) A).symm;have eA:=(B9 (·.A) A).symm;have eC:=(B9 (·.calm) A).symm.trans hc;rcases turn i ys H3 w3 with ⟨stop,fin⟩|⟨gon,hlt',step⟩
  . have hd:=T.done O eP eW eK eC i _ s3 (fT Q σ) H3 (ju (model c.prog c.w) c.A (uf d8 cl E.objs.size c.env) λR s'=>ue (model c.prog c.w) c.A c.xe use Y (.ref a.heap.objs.size) E.objs.size (.error R) s') I3 (fpB fr3 npl) st3 stop;rw[eA]at hd;refine F1 hd λr s4 ⟨hr,I4⟩=>?_
    subst hr;obtain⟨m,hm,_⟩:=I4.loc;have pD:=I4.pin (a.heap.objs.size,{cls:=.type "list",data:=.seq S.toArray z}) (K6 _ (mem_singleton.mpr rfl));have hCl:O.env.locals=E.objs.size:=(B9 (·.env.locals) A).symm;have I5:Inv c pins σ H3 s4:=by
     have hun:Un (px c.stack) fp H2 H3 a.heap s4.heap:=by have z:=I4.base;rw[<-A]at z;exact z
     exact M.a2n (I4.os.trans (B9 (·.V4.os) A).symm) hun ((B9 (λK:Cx=>G5 K.prog K.w H3 s4.heap) A).mpr I4.J1) I4.bare λb l=>⟨(f2 b l).2.2.2.1,(f2 b l).2.1,(f2 b l).2.2.2.2.1,(f2 b l).2.2.2.2.2⟩
    have hys:ys.length<=E6:=by rw[rv.length];lia
    refine hfin a.heap.objs.size E.objs.size s4 _ _ (I5.Iy (o:=.lst ys) pD.2.1 (ar M.lt) (.inr M.sz) Dcell Dpin ⟨hys,S,z,rv,pD.1⟩) (fin _ pD.2.1) ⟨?_,ar (M5 M.lt t),M.RY t,.inr (B6 M.sz t),λx X R q=>?_,λw N q=>?_⟩ ⟨m,(hCl▸hm)⟩;rw[J4 (jv hDC)];exact(hCl▸I4.free);obtain⟨v,q2⟩:=M.cell x X R;exact absurd (M5 q2.lt (by rw[q];exact t)) (U9 _);exact absurd (M5 (F6 (M.pin w N).1) (by rw[q];exact t)) (U9 _)
  . have hd:=T.item O eP eW eK eC i _ s3 (fT Q σ) H3 (ju (model c.prog c.w) c.A (uf d8 cl E.objs.size c.env) λR s'=>ue (model c.prog c.w) c.A c.xe use Y (.ref a.heap.objs.size) E.objs.size (.error R) s') I3 (fpB fr3 npl) st3 gon;rw[eA]at hd;refine F1 hd λr s4 ⟨u,hr,h4⟩=>?_;subst hr;refine F1 h4 λ_ s5 ⟨x,H5,I5,r5,y5,st5,fr5⟩=>?_;have hxe:=λR s' q=>(congrFun (congrFun (B9 (·.xe) A) R) s').mpr q;have eE:=(B9 (·.env) A).symm;have w6:=(A▸hg _ _ _ _ _ _) _ s5 (fT Q σ) H5 x u _ (I5.pinned (fpB fr5 npl) (T.obj _ _ st5)) r5 (go x (fT Q σ) H5 _ (step x H5 y5));rw[eP,eW,eA,eE]at w6;refine bP w6 (λ_ s6 ⟨σ6,H6,I6,q6,l6,e6⟩=>?_) λ_ _ q=>(hxe _ _ q).elim;have w7:=(A▸ht _ _ _ _ _ _) _ s6 σ6 H6 _ (ju (model c.prog c.w) c.A (uf d8 cl E.objs.size c.env) λR s'=>ue (model c.prog c.w) c.A c.xe use Y (.ref a.heap.objs.size) E.objs.size (.error R) s') (λ_ _ q=>(hxe _ _ q).elim) I6 q6;rw[eP,eW,eA,eE]at w7;refine F1 w7 λok s7 ⟨H7,I7,q7⟩=>?_
    have weak:∀{pl:List (Addr×Obj)} {H':Hp} {s':v5},Inv O pl σ6 H' s'->Inv O pl (fT Q σ) H' s':=λ{pl H' s'} I'=>I'.weak l6.symm λj v hj=>by
     by_cases hjn:j<Q.length;unfold fT at hj;rw[fZ (by simpa using hjn),FN,f9 hjn]at hj;cases hj;rw[e6 j (jF hjn)];exact hj
    have unp:∀{σ':St} {H':Hp} {s':v5},Inv O ([(a.heap.objs.size,({cls:=.type "list",data:=.seq S.toArray z}))]++tE fp s5.heap) σ' H' s' ->
      (∀b∈fp,∀o,s5.heap.get? b=U o->s'.heap.get? b=U o)/\(∀b∈fp,H' b=J)/\s'.heap.get? a.heap.objs.size=U {cls:=.type "list",data:=.seq S.toArray z}/\H' a.heap.objs.size=J:=λ{σ' H' s'} I'=>by
     refine⟨λb l o R=>(I'.pin (b,o) (K6 _ (K6 _ (mL l R)))).1,λb l=>?_,?_,?_⟩;obtain⟨o,R,d⟩:=T.obj _ _ st5 b l;exact(I'.pin (b,o) (K6 _ (K6 _ (mL l R)))).2.1;exact(I'.pin (a.heap.objs.size,{cls:=.type "list",data:=.seq S.toArray z}) (K6 _ (T9 _ (mem_singleton.mpr rfl)))).1;exact(I'.pin (a.heap.objs.size,{cls:=.type "list",data:=.seq S.toArray z}) (K6 _ (T9 _ (mem_singleton.mpr rfl)))).2.1
    cases ok with
    |false =>
     obtain⟨k1,k2,k3,k4⟩:=unp I7;refine⟨n-(i+1)+1,NX (OH _ _ hlt'),i+1,ys,S,z,H7,rfl,hlt',qX s9,rv,pinD (weak (I7.kx λw N=>nomatch N)) k3 k4 (λv q=>by cases q),T.keep _ _ _ st5 k1,k2,?_⟩;simpa using q7
    |true =>
     have q7':G σ6 H7 λy H4=>W (i+1) (ys++[y]) H4:=by simpa using q7
     have w8:=(A▸he _ _ _ _ _ _) _ s7 σ6 H7 _ I7 q7';rw[eP,eW,eA,eE]at w8;refine bP w8 (λuy s8 ⟨y,H8,I8,r8,q8⟩=>?_) λ_ _ q=>(hxe _ _ q).elim;obtain⟨k1,k2,k3,k4⟩:=unp I8;refine append_at k3 λh9 sb9 g9=>?_;have I8':Inv O [] (fT Q σ) H8 s8:=weak (I8.kx λw N=>nomatch N)
     have ePn:O.pn=c.pn++pins:=(B9 (·.pn) A).symm;have eCl:O.env.cells=cl:=(B9 (·.env.cells) A).symm;have I9:Inv O [] (fT Q σ) H8 {s8 with heap:=h9}:=I8'.turned (λb o l R=>sb9.extBut b o l R) k4 Dloc (.inr (by rw[((B9 (·.V4) A).symm)];exact T6 _))
      (λx X R=>nD x X (by rw[<-eCl];exact R)) (λw N=>Dpin w (by rw[ePn]at N;simpa using N))
     refine⟨n-(i+1)+1,NX (OH _ _ hlt'),i+1,ys++[y],S++[uy],z+1,H8,rfl,hlt',by rw[au,FA];simp[*],rv.snoc r8,pinD I9 ?_ k4 (λv q=>by cases q),T.keep _ _ _ st5 λb l o R=>?_,k2,q8⟩;rw[g9,List.push_toArray];exact sb9.extBut b o (hDn b l) (k1 b l o R)
 exact codeAny_compStart_list (loop _ rfl) (T.self _ 0 _ _ _ (T.keep _ _ _ st2 λb _ o R=>old b o R) (loop _ rfl))
def Hi(r:c.calm=Uf)(B:jX c Q d6 d8)(v:PI c o b7 j4)(A:jN Q.length j5)(n:∀cl C fp s H pins,PG (W8 c Q d6 d8 cl C fp s H pins) o j5)(F:∀cl C fp s H pins,Au (W8 c Q d6 d8 cl C fp s H pins) Z a8)(y:∀cl C fp s H pins,PE (W8 c Q d6 d8 cl C fp s H pins) e G)(hs:autoParam (∀x,ee b7 c.env x=pure x) W0):PE c (.ListComp e [⟨o,b7,Z,0⟩] d8 p) (gW Q j4 j5 a8 G):=by
 intro pins s l H d I h;refine GF r B v A n F y hs pins s l H d I h λD C k E f u q X ⟨m,z⟩=>⟨m,z,λw t=>?_⟩;exact⟨.ref D,E,u.turned (λb a i j=>t.extBut b a i j) X.1 X.2.1 X.2.2.2.1 X.2.2.2.2.1 X.2.2.2.2.2,rfl,q⟩
def zH(hN:c.N.Nodup)(L:c.N[m]? = U y)(hx:Loc c.env.scope y)(hc:c.calm=Uf)(B:jX c Q d6 d8)(hi:PI c o b7 j4)(go:jN Q.length j5)(S:∀cl C fp s H pins,PG (W8 c Q d6 d8 cl C fp s H pins) o j5)(ht:∀cl C fp s H pins,Au (W8 c Q d6 d8 cl C fp s H pins) Z a8)(W:∀cl C fp s H pins,PE (W8 c Q d6 d8 cl C fp s H pins) e G)(g:autoParam (bS (.ListComp e [⟨o,b7,Z,0⟩] d8 p) (U (.Name y c5)) A.line c.env=pure Uf) t5)(hf:autoParam (c.fn y=Uf\/c.env.scope.names.lookup y=U .local) di)(hs:autoParam (∀y,ee b7 c.env y=pure y) W0):PS c (.Assign [.Name y c5] (.ListComp e [⟨o,b7,Z,0⟩] d8 p) A) (iT (gW Q j4 j5 a8 G) (aJ m)):=by
 intro pins s u H D I h;rw[exec_Assign_Name_used _ _ _ _ g];refine u4 (yO ?_);refine u4 (u4 (F1 (GF hc B hi go S ht W hs pins s u H _ I h λK C s' X f O q d ⟨i,a⟩=>?_) λ_ s' t=>z6 (z6 t)))
 obtain⟨n,es,ep,Y,P,hr⟩:=id a;have R:Inv c ((C,n)::pins) u X s':=O.kx λk l=>by
  rcases List.mem_cons.mp l with rfl|l
  exact⟨Y,d.1,d.2.1,d.2.2.1,λv z=>by rw[P]at z;cases z⟩;exact O.pin k (K6 _ l)
 refine F1 (Hg hN L hx hf ((C,n)::pins) s' u X (.ref K) (.ref K) D.nx R rfl q) λ_ V ⟨x,E,F,q3⟩=>?_;have M:=F.pin (C,n) (K6 _ D1);refine⟨i,⟨n,es,ep,M.1,P,hr⟩,λh'' sb=>⟨x,E,?_,q3⟩⟩;exact(F.kx λk l=>F.pin k (K6 _ (C6 _ l))).turned (λb r T j=>sb.extBut b r T j) M.2.1 d.2.1 d.2.2.2.1 d.2.2.2.2.1 d.2.2.2.2.2
section
variable{prog:L9}{w:E1}
def mF(kd:Bool)(h:Heap)(i l:Addr)(k:Nat):Prop:=match kd with
 |true=>h.IsTupleIter i l k
 |false=>h.IsListIter i l k
def sL(kd:Bool)(h:Heap)(i l:Addr)(k:Nat)(xs:Array t2):Prop:=match kd with
 |true=>h.IsTupleIter i l k/\h.IsTuple l xs
 |false=>h.IsListIter i l k/\h.IsList l xs
theorem mF.at{h':Heap}{i:Addr}(x:mF I a7 i z m)(e:∀o,a7.get? i=U o->h'.get? i=U o):mF I h' i z m:=by
 cases I;exact Heap.IsListIter.at (show a7.IsListIter i z m from x) e;exact Heap.IsTupleIter.at (show a7.IsTupleIter i z m from x) e
def mF.obj(x:mF I a7 z T m):∃o,a7.get? z=U o/\∀v,o.data≠.cell v:=by
 cases I;obtain⟨o,e,_,d⟩:=(show a7.IsListIter z T m from x);exact⟨o,e,λv a=>by rw[d]at a;cases a⟩;obtain⟨o,e,_,d⟩:=(show a7.IsTupleIter z T m from x);exact⟨o,e,λv a=>by rw[d]at a;cases a⟩
def sL.kept{h':Heap}(x:sL I a7 z T m b8)(e:∀b o,b=z\/b=T->a7.get? b=U o->h'.get? b=U o):sL I h' z T m b8:=by
 cases I;obtain⟨x,⟨o,c,r⟩⟩:=(show a7.IsListIter z T m/\a7.IsList T b8 from x);exact⟨x.at λo q=>e z o (.inl rfl) q,⟨o,e T o (.inr rfl) c,r⟩⟩;obtain⟨x,⟨o,c,r⟩⟩:=(show a7.IsTupleIter z T m/\a7.IsTuple T b8 from x);exact⟨x.at λo q=>e z o (.inl rfl) q,⟨o,e T o (.inr rfl) c,r⟩⟩
def Jo(a:B.heap.IsTupleIter z T m)(e:B.heap.IsTuple T b8)(h:b8[m]? = U b6)(f:∀h',h'.IsTupleIter z T (m+1)->ow z B.heap h'->c6 b6 {B with heap:=h'}):wpAny (model prog w) L (zv (.ref z)) c6 Y B:=by
 obtain⟨j,c,g,b⟩:=id a;obtain⟨k,d,_,n,dt⟩:=e;refine u4 (mP a.typeIs zx
  (jG zx a.typeIs Pk ?_ (Pm _)))
 show wpAny _ _ (field (.ref z) 0 >>= _) _ _ B;refine u4 (Z1 c b rfl ?_);refine u4 (Z1 c b rfl ?_);refine u4 (fB d dt ?_);simp only[fY,h];refine u4 (wpAny_setField c b E5 (z6 ⟨b6,rfl,z6 (f _ ?_ (Ow ..))⟩));refine⟨_,ON _ c (Obj.isFreed_of_fields (Oo b _)),(Obj.cls_mapFields ..).trans g,?_⟩;rw[Oo b];rfl
def Mp(j:L.handled=J)(a:B.heap.IsTupleIter z T m)(h:B.heap.IsTuple T b8)(l:b8[m]? = J)(k:∀h' e,Heap.ExtBut z B.heap h'->(∃o,h'.get? e=U o/\o.cls=.type "StopIteration")->Y (.ref e) {B with heap:=h'}):wpAny (model prog w) L (zv (.ref z)) c6 Y B:=by
 obtain⟨A,d,p,c⟩:=id a;obtain⟨q,g,_,n,dt⟩:=h;refine u4 (mP a.typeIs zx
  (jG zx a.typeIs Pk ?_ (Pm _)))
 show wpAny _ _ (field (.ref z) 0 >>= _) _ _ B;refine u4 (Z1 d c rfl ?_);refine u4 (Z1 d c rfl ?_);refine u4 (fB g dt ?_);simp only[fY,l];refine u4 (lO (u4 (wpAny_setField d c E5 ?_)));refine u4 ?_;refine u4 (lW ?_ (by size_fits));refine u4 (wpAny_of_eq (by rfl) ?_);refine lW ?_ (by size_fits);refine u4 (wpAny_handled ?_);rw[j];refine wpAny_throw (k _ _ (λb o f e=>?_) ⟨_,W6 _ rfl,rfl⟩);exact G0 _ (G0 _ ((Ow ..).extBut b o f e))
def mK{x:t2}(h:sL I B.heap z T m b8)(f:T≠z)(e:b8[m]? = U x)(d:∀h',mF I h' z T (m+1)->ow z B.heap h'->c6 x {B with heap:=h'}):wpAny (model prog w) L (zv (.ref z)) c6 Y B:=by
 cases I;exact FI h.1 h.2 e λh' b a=>d h' b a;exact Jo h.1 h.2 e λh' b a=>d h' b a
def pa(b:L.handled=J)(h:sL I B.heap z T m b8)(d:b8[m]? = J)(c:∀h' e,Heap.ExtBut z B.heap h'->(∃o,h'.get? e=U o/\o.cls=.type "StopIteration")->Y (.ref e) {B with heap:=h'}):wpAny (model prog w) L (zv (.ref z)) c6 Y B:=by
 cases I;exact OM b h.1 h.2 d c;exact Mp b h.1 h.2 d c
def Kl {k2:Bool} {ys:Array t2} {a b:t2} (D:gN z T c7 e9 i8 i9 j0) (hz:IsZip B.heap z T c7 .none) (r:U6 B.heap T (.ref e9) (.ref i8)) (v:U6 B.heap c7 a b) (h1:sL I B.heap e9 i9 m b8) (V:sL k2 B.heap i8 j0 m ys) (hx:b8[m]? = U b6) (X:ys[m]? = U i7) (hQ:∀h',IsZip h' z T c7 (Z3 B.heap.objs.size)->U6 h' c7 b6 i7->mF I h' e9 i9 (m + 1)->mF k2 h' i8 j0 (m + 1)->U6 h' B.heap.objs.size b6 i7 ->
   (∀c o,c≠z->c≠c7->c≠e9->c≠i8->B.heap.get? c=U o->h'.get? c=U o)->k9 (U (.ref B.heap.objs.size)) {B with heap:=h'}) :
  wpAny (model prog w) L (oi (.ref z)) k9 Y B:=by
 have O:B.TypeIs (.ref z) "zip":=⟨_,hz,rfl⟩;refine u4 (qK (mP O lR (jG lR O zb ?_ (zf _))));show wpAny _ _ (field (.ref z) 2 >>= _) _ _ _;refine u4 (Z1 hz rfl rfl ?_);refine u4 (Z1 hz rfl rfl (u4 (fB r rfl ?_)));refine u4 ?_;refine u4 (Z1 hz rfl rfl (z6 ?_));refine u4 (lO (u4 (Z1 hz rfl rfl (u4 (oG hz E5 λg1 z1 i=>?_)))));refine u4 ?_;refine u4 (u4 (yN ?_));refine u4 (mK (h1.kept λc o l e=>i.extBut c o (by rcases l with rfl|rfl;exact D.i1z;exact D.l1z) e) D.l1i1 hx λg2 p1 C=>z6 ?_);have G:=C.extBut _ _ D.TOi1 (i.extBut _ _ D.TOz v);refine u4 (fB G rfl (u4 (Fw G λg3 t3 g=>?_)))
 refine u4 (wpAny_letGo (z6 ?_));refine u4 (u4 (yN ?_));have q2:=V.kept λc o l e=>by
  have Z:c≠z:=by rcases l with rfl|rfl;exact D.i2z;exact D.l2z
  have n2:c≠e9:=by rcases l with rfl|rfl;exact D.i12.symm;exact D.l2i1
  have W:c≠c7:=by rcases l with rfl|rfl;exact D.TOi2.symm;exact D.l2TO
  exact g.extBut c o W (C.extBut c o n2 (i.extBut c o Z e))
 refine u4 (mK q2 D.l2i2 X λg4 E h=>z6 ?_);have N:=h.extBut _ _ D.TOi2 t3;refine u4 (fB N rfl (u4 (Fw N λf q j=>?_)))
 replace q:U6 f c7 b6 i7:=q;refine u4 (wpAny_letGo (z6 (z6 (u4 (fB q rfl (u4 (wpAny_newTuple ?_)))))));have sz:f.objs.size=B.heap.objs.size:=by rw[j.1,h.1,g.1,C.1,i.1]
 have M:=j.extBut _ _ D.TOz.symm (h.extBut _ _ D.i2z.symm (g.extBut _ _ D.TOz.symm (C.extBut _ _ D.i1z.symm z1)));have k5:∀c o,c≠z->c≠c7->c≠e9->c≠i8->B.heap.get? c=U o->f.get? c=U o:=λc o d n u t e =>
  j.extBut _ _ n (h.extBut _ _ t (g.extBut _ _ n (C.extBut _ _ u (i.extBut _ _ d e))))
 refine u4 ?_;have s:IsZip (f.push {cls:=.type "tuple",data:=.seq #[b6,i7]}) z T c7 .ellipsis:=G0 _ M;refine u4 (oG s E5 λg7 z7 P=>?_);refine oG z7 E5 λK R S=>?_;have p:∀c o,c≠z->f.get? c=U o->K.get? c=U o:=λc o d e=>S.extBut _ _ d (P.extBut _ _ d (G0 _ e));have A:=ar (F6 M);have H:=S.extBut _ _ A (P.extBut _ _ A (W6 _ rfl));rw[sz]at R H;refine z6 ⟨_,rfl,z6 ?_⟩;rw[sz];exact hQ K R (p _ _ D.TOz q) ((p1.at λo e=>j.extBut _ _ D.TOi1.symm (h.extBut _ _ D.i12 (g.extBut _ _ D.TOi1.symm e))).at λo e=>p _ o D.i1z e) ((E.at λo e=>j.extBut _ _ D.TOi2.symm e).at λo e=>p _ o D.i2z e) H λc o d n u t e=>p c o d (k5 c o d n u t e)
def Pw{k2:Bool}{S:Addr}{ys:Array t2}(A:L.handled=J)(D:gN z c7 e9 i8 i9 j0 S)(hz:IsZip B.heap z c7 e9 .none)(u:U6 B.heap c7 (.ref i8) (.ref i9))(s:U6 B.heap e9 b6 i7)(h1:sL I B.heap i8 j0 m b8)(V:sL k2 B.heap i9 S m ys)(n:b8[m]? = J\/ys[m]? = J)(hQ:∀h',(∀c o,c≠z->c≠e9->c≠i8->c≠i9->B.heap.get? c=U o->h'.get? c=U o)->k9 J {B with heap:=h'}):
  wpAny (model prog w) L (oi (.ref z)) k9 Y B:=by
 have N:B.TypeIs (.ref z) "zip":=⟨_,hz,rfl⟩;refine u4 (qK (mP N lR (jG lR N zb ?_ (zf _))));have p:∀g e,(∀c o,c≠z->c≠e9->c≠i8->c≠i9->B.heap.get? c=U o->g.get? c=U o)->(∃o,g.get? e=U o/\o.cls=.type "StopIteration") ->
   wpAny (model prog w) L (do if <- isInstance (.ref e) (.type "StopIteration")then pure J else throw (.ref e)) k9 Y {B with heap:=g}:=λg e hk ⟨o,ho,f⟩ =>
  u4 (ER ⟨o,ho,f⟩ Ey (z6 (hQ _ hk)))
 show wpAny _ _ (field (.ref z) 2 >>= _) _ _ _;refine u4 (Z1 hz rfl rfl ?_);refine u4 (Z1 hz rfl rfl (u4 (fB u rfl ?_)));refine u4 ?_;refine u4 (Z1 hz rfl rfl (z6 ?_));refine u4 (lO (u4 (Z1 hz rfl rfl (u4 (oG hz E5 λg1 H r=>?_)))));refine u4 ?_;refine u4 (u4 (yN ?_));have M:=h1.kept λc o f e=>r.extBut c o (by rcases f with rfl|rfl;exact D.i1z;exact D.l1z) e
 cases hx:b8[m]? with
 |none =>
  refine u4 (pa A M hx λZ e i v=>?_)
  obtain⟨t,d,l⟩:=v;have O:=i _ _ D.i1z.symm H;have ne:e≠z:=λq=>by subst q;rw[O]at d;lia
  refine oG O E5 λT _ j=>p T e (λc o P _ y _ q=>j.extBut _ _ P (i _ _ y (r.extBut _ _ P q))) ⟨t,j.extBut _ _ ne d,l⟩
 |some x =>
  have hy:ys[m]? = J:=by
   rcases n with h|h
   rw[hx]at h;exact nS h;exact h
  refine u4 (mK M D.l1i1 hx λZ p1 i=>z6 ?_);have C:=i.extBut _ _ D.TOi1 (r.extBut _ _ D.TOz s);refine u4 (fB C rfl (u4 (Fw C λT t3 j=>?_)))
  refine u4 (wpAny_letGo (z6 ?_));refine u4 (u4 (yN ?_));have q2:=V.kept λc o f e=>by
   have n1:c≠z:=by rcases f with rfl|rfl;exact D.i2z;exact D.l2z
   have n2:c≠i8:=by rcases f with rfl|rfl;exact D.i12.symm;exact D.l2i1
   have E:c≠e9:=by rcases f with rfl|rfl;exact D.TOi2.symm;exact D.l2TO
   exact j.extBut c o E (i.extBut c o n2 (r.extBut c o n1 e))
  refine u4 (pa A q2 hy λg4 e K v=>?_)
  obtain⟨t,d,l⟩:=v;have G:=K _ _ D.i2z.symm (j.extBut _ _ D.TOz.symm (i.extBut _ _ D.i1z.symm H));have ne:e≠z:=λq=>by subst q;rw[G]at d;cases d;simp at l
  refine oG G E5 λW _ R=>p W e (λc o P X y c4 q=>R.extBut _ _ P (K _ _ c4 (j.extBut _ _ X (i.extBut _ _ y (r.extBut _ _ P q))))) ⟨t,R.extBut _ _ ne d,l⟩
end
def NF(K:v9)(H:Hp)(a:Addr)(xs:List V):Prop:=M8 K H a xs\/X9 K H a xs
def NF.ne(I:Inv c c9 D H B)(h:NF c.K H z N)(f:mz c c9 H T):z≠T:=by
 have d:∀{u:HO},Rd H z u->z≠T:=λ{u} r=>by
  rcases r with r|⟨o,r⟩
  exact ai r f.1;exact ai r f.1
 have X:∀{o:Obj},c.K.lookup z=U o->z≠T:=λ{o} e i=>by
  have g:=I.ok.mod.HG z o e;rcases f.2.2.2.1 with q|q
  exact I.ok.wG z o g (i▸q);exact absurd (M5 (F6 g) (B6 I.ok.sG (by simp_all))) (U9 _)
 rcases h with (r|⟨o,_,_,e,_⟩)|(r|⟨o,_,_,e,_⟩)
 exact d r;exact X e;exact d r;exact X e
def Hq{ys:Array t2}(f:a7.IsList z b8)(g:a7.IsTuple z ys):False:=by
 obtain⟨o,e,c,_⟩:=f;obtain⟨i,b,d,_⟩:=g;lia
def Inv.Qs{ys:List V}(I:Inv c c9 D H B)(h:NF c.K H z N)(h':NF c.K H z ys):N=ys:=by
 rcases h with h|h<;>rcases h' with h'|h'
 exact I.wH h h';obtain⟨_,_,p,_⟩:=I.list h;obtain⟨_,_,q,_⟩:=I.tuple h';exact(Hq p.isList q).elim;obtain⟨_,_,p,_⟩:=I.list h';obtain⟨_,_,q,_⟩:=I.tuple h;exact(Hq p.isList q).elim;exact I.AA h h'
def Inv.uW{ch:List Addr}(I:Inv c c9 D H B)(k:∀b o,b∉ch->B.heap.get? b=U o->a7.get? b=U o)(f:∀b∈ch,mz c c9 H b):Inv c c9 D H {B with heap:=a7,toks:=m}:=by
 have d:∀b u,H b=U u->b∉ch:=λb u e z=>by rw[(f b z).1]at e;exact nE e
 refine I.step (λb j=>?_) (λb o _ _ a e _=>k b o a e) (λb o _ _ a e _=>⟨o.slots,k b o a e⟩) (λ_ _ _ _ n=>n)
  (λb o a e=>⟨o,k b o a e⟩) (λ_ _ e=>e) (λ_ _ _ e=>e) (λb A e=>⟨#[],by rw[e];simp⟩) (λg i=>?_) (λb u e=>?_) I.bare
 obtain⟨_,x,_,p,l,h⟩:=f b j;exact⟨p,x,l,h⟩;obtain⟨o,y,w,t,r⟩:=i;exact⟨o,y,w,k _ o (λz=>(f _ z).2.1 rfl) t,r⟩
 . refine(I.J1 b u e).wo (λX v a q=>k X v ?_ q) (λ_ q=>q) λ_ _ q=>q
   rcases a with z|z
   rw[z];exact d b u e;exact d X _ z
def gm(kd:Bool)(K:v9)(H:Hp)(a:Addr)(xs:List V):Prop:=match kd with
 |true=>X9 K H a xs
 |false=>M8 K H a xs
def gm.x(h:gm I g H z N):NF g H z N:=by
 cases I;exact .inl h;exact .inr h
def Inv.GP(X:Inv c c9 D H B)(h:gm I c.K H T N)(it:mF I B.heap z T m):∃b:List t2,Vals N b/\sL I B.heap z T m b.toArray:=by
 cases I;obtain⟨b,d,p,e⟩:=X.list h;exact⟨b,d,it,p.isList⟩;obtain⟨b,d,p,e⟩:=X.tuple h;exact⟨b,d,it,p⟩
def Itz(k1 k2:Bool)(K:v9)(a b:Addr):It:=
 ⟨λi H=>∃xs ys x y,gm k1 K H a xs/\gm k2 K H b ys/\xs[i]? = U x/\ys[i]? = U y,
  λi H v H'=>∃p,v=.ref p/\H p=J/\∃x y,H'=upd H p (.tup [x,y])/\∀xs ys,gm k1 K H a xs->gm k2 K H b ys->xs[i]? = U x/\ys[i]? = U y,
  λi H=>∃xs ys,gm k1 K H a xs/\gm k2 K H b ys/\(xs.length<=i\/ys.length<=i)⟩
structure Vb(k1 k2:Bool)(z TI TO i1 i2 a b:Addr)(i:Nat)(h:Heap):Prop where
 hz:IsZip h z TI TO .none
 AW:U6 h TI (.ref i1) (.ref i2)
 HP:∃x y,U6 h TO x y
 h1:mF k1 h i1 a i
 h2:mF k2 h i2 b i
structure a1f(z TI TO i1 i2:Addr):Prop where
 TIz:TI≠z
 TOz:TO≠z
 i1z:i1≠z
 i2z:i2≠z
 TITO:TI≠TO
 TIi1:TI≠i1
 TIi2:TI≠i2
 TOi1:TO≠i1
 TOi2:TO≠i2
 i12:i1≠i2
def gm.inj{ys:List V}(X:Inv c c9 D H B)(h:gm I c.K H z N)(h':gm I c.K H z ys):N=ys:=X.Qs h.x h'.x
def PU{k2:Bool}(D:a1f z T c7 e9 i8):
  Turn b5 i5 g (.Tuple Z m p) (Itz I k2 g i9 j0) [z,T,c7,e9,i8] z (λi h=>Vb I k2 z T c7 e9 i8 i9 j0 i h) where
 mem:=E5
 obj:=λi h d c f=>by
  have P:c=z\/c=T\/c=c7\/c=e9\/c=i8:=by simpa using f
  rcases P with rfl|rfl|rfl|rfl|rfl
  exact⟨_,d.hz,λv q=>by cases q⟩;exact⟨_,d.AW,λv q=>by cases q⟩;obtain⟨x,y,e⟩:=d.HP;exact⟨_,e,λv q=>by cases q⟩;exact d.h1.obj;exact d.h2.obj
 keep:=λi h L d C=>by obtain⟨x,y,e⟩:=d.HP;exact⟨C z E5 _ d.hz,C T E5 _ d.AW,⟨x,y,C c7 E5 _ e⟩,d.h1.at λo q=>C e9 E5 o q,d.h2.at λo q=>C i8 E5 o q⟩
 item:=by
  intro X S V hK f i j s Q H E a l d R;subst S V hK;obtain⟨xs,ys,x,y,r,K,ex,ey⟩:=R;obtain⟨us,rx,ox⟩:=a.GP r d.h1;obtain⟨vs,w,Y⟩:=a.GP K d.h2;obtain⟨u,hu,ru⟩:=rx.get ex;obtain⟨v,hv,rvv⟩:=w.get ey;obtain⟨x0,y0,B⟩:=d.HP;have A:=l z E5;have t:=l c7 E5;have G:=l e9 E5;have M:=l i8 E5;have ZA:gN z T c7 e9 i8 i9 j0:=⟨D.TIz,D.TOz,D.i1z,D.i2z,D.TITO,D.TIi1,D.TIi2,D.TOi1,D.TOi2,D.i12,r.x.ne a A,r.x.ne a t,r.x.ne a G,r.x.ne a M,K.x.ne a A,K.x.ne a t,K.x.ne a G,K.x.ne a M⟩;refine Kl ZA d.hz d.AW B ox Y (by simpa using hu) (by simpa using hv) λL g1 g2 g3 g4 g5 O=>?_
  have hT:=a.J1.fresh E7;have I1:Inv X j Q H {s with heap:=L}:=a.uW (ch:=[z,c7,e9,i8]) (λc o f e=>O c o (λq=>f (by simp[q])) (λq=>f (by simp[q])) (λq=>f (by simp[q])) (λq=>f (by simp[q])) e)
   (λc f=>l c (by
    have P:c=z\/c=c7\/c=e9\/c=i8:=by simpa using f
    rcases P with rfl|rfl|rfl|rfl<;>simp))
  have I2:Inv X j Q (upd H s.heap.objs.size (.tup [x,y])) {s with heap:=L}:=I1.Iy hT (ar a.lt) (.inr a.sz)
   (λn c e q=>by obtain⟨vv,q2⟩:=a.cell n c e;exact absurd q2.lt (by rw[q];exact U9 _))
   (λk hp q=>absurd (F6 (a.pin k hp).1) (by rw[q];exact U9 _))
   ⟨by show 2<=E6;rw[qE];decide,[u,v],.cons ru (.cons rvv .nil),⟨_,g5,rfl,_,rfl⟩⟩
  refine⟨_,rfl,wpAny_letOwnedTupleGo_zip g1 λh2 z2 N=>?_⟩
  have uz:∀c,c∈[z,T,c7,e9,i8]->(upd H s.heap.objs.size (.tup [x,y])) c=J:=λc f=>by
   have hlt:c<s.heap.objs.size:=by
    have P:c=z\/c=T\/c=c7\/c=e9\/c=i8:=by simpa using f
    rcases P with rfl|rfl|rfl|rfl|rfl
    exact(F6 d.hz);exact F6 d.AW;exact F6 B;obtain⟨o,e,_⟩:=d.h1.obj;exact F6 e;obtain⟨o,e,_⟩:=d.h2.obj;exact F6 e
   rw[J4 (Q1 hlt)];exact(l c f).1
  have I3:Inv X j Q (upd H s.heap.objs.size (.tup [x,y])) {s with heap:=h2}:=Inv.turned (s:={s with heap:=L}) I2 (λc o f e=>N.extBut c o f e) (uz z E5) A.2.1 A.2.2.2.1 A.2.2.2.2.1 A.2.2.2.2.2;refine⟨.ref s.heap.objs.size,_,I3,rfl,⟨_,rfl,hT,x,y,rfl,λxs' ys' b hy'=>?_⟩,⟨z2,N.extBut _ _ D.TIz (O _ _ D.TIz D.TITO D.TIi1 D.TIi2 d.AW),⟨_,_,N.extBut _ _ D.TOz g2⟩,?_,?_⟩,uz⟩;rw[b.inj a r,hy'.inj a K];exact⟨ex,ey⟩;exact g3.at λo q=>N.extBut _ _ D.i1z q;exact g4.at λo q=>N.extBut _ _ D.i2z q
 done:=by
  intro X S V hK f i j s Q H E a l d R;subst S V hK;obtain⟨xs,ys,r,K,F⟩:=R;obtain⟨us,rx,ox⟩:=a.GP r d.h1;obtain⟨vs,w,Y⟩:=a.GP K d.h2;obtain⟨x0,y0,B⟩:=d.HP;have A:=l z E5;have t:=l c7 E5;have G:=l e9 E5;have M:=l i8 E5;have ZA:gN z T c7 e9 i8 i9 j0:=⟨D.TIz,D.TOz,D.i1z,D.i2z,D.TITO,D.TIi1,D.TIi2,D.TOi1,D.TOi2,D.i12,r.x.ne a A,r.x.ne a t,r.x.ne a G,r.x.ne a M,K.x.ne a A,K.x.ne a t,K.x.ne a G,K.x.ne a M⟩;have:=rx.length;have:=w.length;refine Pw (a.ok.hd f) ZA d.hz d.AW B ox Y ?_ λL O=>⟨rfl,?_⟩
  . rcases F with q|q
    exact .inl (by simp;simp_all);exact .inr (by simp;simp_all)
  . exact a.uW (ch:=[z,c7,e9,i8]) (λc o f e=>O c o (λq=>f (by simp[q])) (λq=>f (by simp[q])) (λq=>f (by simp[q])) (λq=>f (by simp[q])) e)
      (λc f=>l c (by
       have P:c=z\/c=c7\/c=e9\/c=i8:=by simpa using f
       rcases P with rfl|rfl|rfl|rfl<;>simp))
 self:=λ_ _ _ _ _ d h=>EO d.hz h
set_option tactic.hygienic true
set_option tactic.hygienic false
def ExcAt(e C dx:Addr)(h:Heap):Prop:=∃vs,h.get? e=U {cls:=.ref C,dict:=U dx,data:=.fields vs}
def BL(e C:Addr)(dx:Option Addr)(h:Heap):Prop:=∃t,h.get? e=U {cls:=.ref C,dict:=dx,data:=.fields #[.ref t,.none,.none,.none,.bool U',.none]}
def BL.keep{h':Heap}(x:BL z T j8 a7)(k:∀o,a7.get? z=U o->h'.get? z=U o):BL z T j8 h':=let ⟨t,q⟩:=x;⟨t,k _ q⟩
def JQ(C:Addr)(fld:Str)(d:p9):p9:=.dict [(.tuple [.int (C:Nat),.str fld],d)]
def ExcAt.keep{h':Heap}(x:ExcAt z T c7 a7)(k:∀o,a7.get? z=U o->h'.get? z=U o):ExcAt z T c7 h':=let ⟨b,q⟩:=x;⟨b,k _ q⟩
structure uQ(K:v9)(C:Addr):Prop where
 ga:aY K (.ref C) "__getattribute__" = U (U (.builtin "BaseException.__getattribute__"))
 gt:aY K (.ref C) "__getattr__" = U J
 hd:uF K C=Uf
 be:Ex K C (.type "BaseException")=U Uf
 cl:aY K (.ref C) "__class__" = U (U (.builtin "object.__class__"))
 cg:EX K (.builtin "object.__class__") "__get__" = U (U (.builtin "getset_descriptor.__get__"))
 ct:NR K (.builtin "object.__class__")=U Uf
 ob:Ex K C (.type "object")=U Uf
 n1:oy K (.ref C) (.type "tuple")=U U'
 n2:oy K (.ref C) (.type "list")=U U'
 n3:oy K (.ref C) (.type "bool")=U U'
 n4:oy K (.ref C) (.type "int")=U U'
 n5:oy K (.ref C) (.type "str")=U U'
def jj(n:String):Prop:=n = "tuple"\/n = "list"\/n = "bool"\/n = "int"\/n = "str"
theorem uQ.jj(T:uQ g z)(h:L2.jj k8):oy g (.ref z) (.type k8)=U U':=by
 rcases h with rfl|rfl|rfl|rfl|rfl
 exact T.n1;exact T.n2;exact T.n3;exact T.n4;exact T.n5
section
variable{prog:L9}{w:E1}{K:v9}
def Ng{ox:Obj}{a:Tok}(A:uQ K T)(X:K.In B.heap)(I:yT B.heap z ox T o7)(b:EG K T o7 "__class__" = U (.bind (.builtin "getset_descriptor.__get__") (.builtin "object.__class__")))(h:m7 (.ok (.ret (.ref T))) B):
  codeAny (model prog w) L (.call (.builtin "BaseException.__getattribute__") ⟨[.ref z,.str "__class__" a],[]⟩) m7 B:=by
 obtain⟨c,g,d,t,e⟩:=B;refine codeAny_call_builtin F.excAttr_ValueError.ga.plain F.entry_bexc_ga ?_;refine u4 ?_;refine u4 ((I.type (M:=model prog w)).at ((PySem.W.looks_mroIn (M:=model prog w) X A.be).at ?_));repeat (first|wp_step)
 refine wpAny_loadPart_at I.at_ ?_;rw[I.cls];refine z6 (u4 ((PySem.W.looks_find (M:=model prog w) X I b).at ?_));repeat (any_goals (first|assumption|wp_step))
 refine PySem.W.class_get X I A.ob ?_;repeat (any_goals (first|assumption|wp_step))
def XB{ox:Obj}{c:Tok}{a:Bool}(A:uQ K T)(X:K.In B.heap)(E:yT B.heap z ox T o7)(e:EG K T o7 "__class__" = U (.bind (.builtin "getset_descriptor.__get__") (.builtin "object.__class__")))(h:c6 (.ref T) B):
  wpAny (model prog w) L (getAttrBy (.ref z) (.str "__class__" c) I a) c6 Y B:=by
 obtain⟨i,g,d,t,f⟩:=B;have:=F.excAttr_ValueError.ga.bind (.ref z);have:(a&&onTheHeap (Value.builtin "BaseException.__getattribute__"))=U':=by cases a<;>rfl
 refine fy (u4 ((E.type (M:=model prog w)).at (u4 ((Fy (M:=model prog w) X A.ga).at ?_))));repeat (any_goals (first|assumption|(with_reducible refine(Fy (M:=model prog w) X A.gt).at ?_)|wp_step))
 refine Ng A X E e ?_;exact z6 h
def Nf{ox:Obj}{o:Obj}(A:uQ K T)(X:K.In B.heap)(I:yT B.heap z ox T (U o))(h:k9 (U (.ref T)) {B with toks:=B.toks+1}):wpAny (model prog w) L (getAttr? (.ref z) "__class__") k9 Y B:=by
 have a:EG K T (U o) "__class__" = U (.bind (.builtin "getset_descriptor.__get__") (.builtin "object.__class__")):=PySem.W.findObj_data (by obtain⟨c,b,_⟩:=zc A.hd;rw[b];rfl) A.cl A.cg A.ct;refine u4 (wpAny_mkText (u4 (qK (XB A X I a ?_))));exact z6 h
set_option tactic.hygienic true in
def Sv(C:uQ K T):PySem.W.KitX K (.ref z) (.ref T) (λh=>ExcAt z T c7 h/\∃o,h.get? c7=U o) where
 ty:=λ_ _ _ I=>by obtain⟨⟨r,d⟩,_⟩:=I;exact(PySem.W.Looks.ld d).andThen .now
 it:=λ_ _ X _=>by
  obtain⟨i,a,_⟩:=zc C.hd;unfold PySem.W.clsIn at a;split at a;rename_i p l c b f;exact λy A x t k q=>u4 (wpAny_loadPart (k _ _ (X _ _ f)) (z6 q));exact nE a
 ne:=λh v u s n w X g=>by
  obtain⟨i,a,_⟩:=zc C.hd;refine Bool.eq_false_iff.mpr λq=>?_;have e:=Value.ref.inj (beq_iff_eq.mp q);subst e;unfold PySem.W.clsIn at a;split at a;rename_i p l c b f;cases((X _ _ f).symm.trans g);exact nE a
 ca:=λX I k=>by obtain⟨⟨r,d⟩,o,m⟩:=I;exact Nf C X ⟨d,rfl,rfl,m⟩ k
end
noncomputable def qk(kd:Bool)(l:Addr):Obj:=match kd with
 |true=>{cls:=.type "tuple_iterator",data:=.fields #[.ref l,.int 0 0]}
 |false=>{cls:=.type "list_iterator",data:=.fields #[.ref l,.int 0 0]}
def kJ(kd:Bool)(h:Heap)(l:Addr)(xs:Array t2):Prop:=match kd with
 |true=>h.IsTuple l xs
 |false=>h.IsList l xs
theorem kJ.push(x:kJ I a7 z b8)(o:Obj):kJ I (a7.push o) z b8:=by
 cases I;exact Heap.IsList.push (show a7.IsList z b8 from x) o;exact Heap.IsTuple.push (show a7.IsTuple z b8 from x) o
def mF.new(e:a7.get? z=U (qk I T)):mF I a7 z T 0:=by
 cases I;exact⟨_,e,rfl,rfl⟩;exact⟨_,e,rfl,rfl⟩
def vn(x:kJ I B.heap z b8)(b:c6 (.ref (hz B)) {B with heap:=B.heap.push (qk I z)}):wpAny (model b5 i5) L (pyIter (.ref z)) c6 Y B:=by
 cases I;exact EV (show B.heap.IsList z b8 from x) b;exact wpAny_pyIter_tuple (show B.heap.IsTuple z b8 from x) b
abbrev Ua(k1:Bool)(h:Heap)(a:Addr):Heap:=h.push (qk k1 a)
abbrev TZ(k1 k2:Bool)(h:Heap)(a b:Addr):Heap:=(Ua k1 h a).push (qk k2 b)
noncomputable abbrev TY(k1 k2:Bool)(h:Heap)(a b:Addr):Heap:=(TZ k1 k2 h a b).push {cls:=.type "tuple",data:=.seq #[.ref h.objs.size,.ref (Ua k1 h a).objs.size]}
noncomputable abbrev TV(k1 k2:Bool)(h:Heap)(a b:Addr):Heap:=(TY k1 k2 h a b).push {cls:=.type "tuple",data:=.seq #[.none,.none]}
noncomputable abbrev GD(k1 k2:Bool)(h:Heap)(a b:Addr):Heap:=(TV k1 k2 h a b).push {cls:=.type "zip",data:=.fields #[.none,.bool U',.bool U',.ref (TZ k1 k2 h a b).objs.size,.ref (TY k1 k2 h a b).objs.size]}
def Jt(c k2:Bool)(a b:Addr)(xs ys:Array t2):
  Meets (Builtin.«zip.__new__» ⟨[.type "zip",.ref a,.ref b],[]⟩) (λ_ R s=>kJ c s.heap a xs/\kJ k2 s.heap b ys /\
   R (.ok (.ret (.ref (TV c k2 s.heap a b).objs.size))) {s with heap:=GD c k2 s.heap a b}):=
 .of_wp λe w A R s h=>by
  obtain⟨m,g,d,k,j⟩:=s;obtain⟨f,i,h⟩:=h;have:=sub_zip;have l:kJ k2 (Shared.heap ⟨m.push (qk c a),g,d,k,j⟩) b ys:=kJ.push i _
  wp_walk using vn f,vn l
  exact⟨_,rfl,h⟩
section
variable{prog:L9}{w:E1}
def Nv {k2:Bool} {ys:Array t2} (p:kJ I B.heap z b8) (q:kJ k2 B.heap T ys) (h:∀h',Vb I k2 ((hz B) + 4) ((hz B) + 2) ((hz B) + 3) (hz B) ((hz B) + 1) z T 0 h' ->
   (∀c o,B.heap.get? c=U o->h'.get? c=U o)->c6 (.ref ((hz B)+4)) {B with heap:=h'}) :
  wpAny (model prog w) L (call (.type "zip") [.ref z,.ref T]) c6 Y B:=by
 refine callType_new F.called_zip f5 (F.typeCall_zip_2 _ _) (F.newCall_zip_2 _ _) (λobj=>F.args_object_init_3 obj _ _) F.entry_zip_new (Jt I k2 z T b8 ys) ⟨p,q,?_⟩
 have g:(Ua I B.heap z).objs.size=(hz B)+1:=hE ..;have f:(TZ I k2 B.heap z T).objs.size=(hz B)+2:=by rw[hE,g]
 have i:(TY I k2 B.heap z T).objs.size=(hz B)+3:=by rw[hE,f]
 have j:(TV I k2 B.heap z T).objs.size=(hz B)+4:=by rw[hE,i]
 have e:(GD I k2 B.heap z T).get? (TV I k2 B.heap z T).objs.size=U _:=W6 _ rfl;have l:(GD I k2 B.heap z T).get? (TY I k2 B.heap z T).objs.size=U _:=G0 _ (W6 _ rfl);have k:(GD I k2 B.heap z T).get? (TZ I k2 B.heap z T).objs.size=U _:=G0 _ (G0 _ (W6 _ rfl));have n:(qk k2 T).isFreed=U':=by cases k2<;>rfl
 have t:(qk I z).isFreed=U':=by cases I<;>rfl
 have m:(GD I k2 B.heap z T).get? (Ua I B.heap z).objs.size=U _:=G0 _ (G0 _ (G0 _ (W6 _ n)));have r:(GD I k2 B.heap z T).get? (hz B)=U _:=G0 _ (G0 _ (G0 _ (G0 _ (W6 _ t))));rw[f,i,j]at e;rw[g,f]at k;rw[i]at l;rw[g]at m;rw[j];exact⟨⟨_,e,rfl⟩,h _ ⟨e,k,⟨_,_,l⟩,.new r,.new m⟩ λc o x =>
  G0 _ (G0 _ (G0 _ (G0 _ (G0 _ x))))⟩
end
def Px(n:Nat):a1f (n+4) (n+2) (n+3) n (n+1):=by constructor<;>(show @Ne Nat _ _)<;>simp[*]
def Inv.bH(X:Inv c c9 D H B)(h:gm I c.K H z N):∃b:List t2,kJ I B.heap z b.toArray:=by
 cases I;obtain⟨b,_,p,_⟩:=X.list h;exact⟨b,p.isList⟩;obtain⟨b,_,p,_⟩:=X.tuple h;exact⟨b,p⟩
section
variable{Q:VK}
end
theorem BO:∀{bs:List Bool} {us:List t2},Vals (bs.map V.bl) us->us=bs.map uj
 | [],_,.nil=>rfl
 |b::r,_,.cons h t=>by rw[BO t];cases h;rfl
theorem pY:∀(bs:List Bool) (d:Bool),(D0 bs.length).all (λi=>bs.getD i d)=bs.all id
 | [],_=>rfl
 |b::r,d=>by rw[Y2,OP,List.all_cons,List.all_map,List.all_cons];have:=pY r d;simp only[List.getD_cons_zero,Function.comp_def,List.getD_cons_succ,id];rw[this]
def Tx:br c (.builtin "all") (λxs H Q=>∃(p:Addr) (bs:List Bool),xs=[.ref p]/\M8 c.K H p (bs.map V.bl)/\c.A.handled=J/\Q (.bl (bs.all id)) H):=by
 intro X s w H xs M Q I r h;obtain⟨p,bs,rfl,hq,C,q⟩:=h;obtain⟨u,rfl,t⟩:=vals1 r;cases t;obtain⟨a,D,j,L⟩:=I.list hq;have k:=BO D;refine call_all_walk (EV j.isList ?_);have lt:p<s.heap.objs.size:=by obtain⟨o,e,_⟩:=j.isList;exact F6 e
 refine⟨s.heap.objs.size,_,_,_,_,_,λi=>bs.getD i U',rfl,Walks.list (A:=c.A.in1) C s.heap.objs.size p (Q1 lt) a.toArray,⟨⟨_,W6 _ rfl,rfl,rfl⟩,j.isList.push _⟩,?_,λF G B=>?_⟩
 . intro i v s' l E x d;have e:(bs.map uj)[i]? = U v:=by rw[<-k];simpa using x
   rw[L1]at e;cases eb:bs[i]? with
   |none=>rw[eb]at e;exact nE e
   |some b =>
    rw[eb]at e;cases e;have:bs.getD i U'=b:=by rw[aN,eb];rfl
    have g:l b s':=by rw[<-this];exact d
    exact lX g
 . have m:a.toArray.size=bs.length:=by rw[k];simp
   rw[m,pY];refine⟨.bl (bs.all id),H,?_,rfl,q⟩;have y:Inv c X w H {s with heap:=s.heap.push {cls:=.type "list_iterator",data:=.fields #[.ref p,.int 0 0]}}:=I.kept λb o e=>G0 _ e;have f:=I.wK E7 (I.J1.fresh (T6 s.heap.objs.size));exact Inv.turned y (λb o z e=>B b o (by simpa using z) e) f.1 f.2.1 f.2.2.2.1 f.2.2.2.2.1 f.2.2.2.2.2
structure Bt(m:Nat)(i:Int):Prop where
 lt:i.natAbs<2 ^ m
def Bt.mono{n:Nat}(h:Bt m a1)(a:m<=n):Bt n a1:=⟨M5 h.lt (OG f5 a)⟩
def Bt.of_le(h:Bt m i0)(a:a1.natAbs<=i0.natAbs):Bt m a1:=⟨oF a h.lt⟩
def Bt.neg(h:Bt m a1):Bt m (-a1):=h.of_le z9
def Bt.mul{n:Nat}(h:Bt m a1)(h':Bt n i0):Bt (m+n) (a1*i0):=⟨by
 rw[cX,Nat.pow_add];exact Nat.mul_lt_mul'' h.lt h'.lt⟩
def Bt.add(h:Bt m a1)(h':Bt m i0):Bt (m+1) (a1+i0):=⟨by
 have:=h.lt;have:=h'.lt;omega⟩
def Bt.sub(h:Bt m a1)(h':Bt m i0):Bt (m+1) (a1-i0):=by exact h.add h'.neg
theorem Bt.fdiv{j:Int}(h:Bt m a1):Bt m (a1.fdiv j):=h.of_le (OF a1 j)
def Bt.small(b : -(2 ^ 62)<a1)(a:a1<2 ^ 62):Bt 62 a1:=⟨by omega⟩
def Bt.a1Y(h:Bt m a1)(h':Bt c8 i0)(a:m+c8<=134217728):IntMulOk a1 i0:=IntMulOk.of_le (intBits_le_iff.mpr h.lt) (intBits_le_iff.mpr h'.lt) a
section
variable{X:Cx}
def WN:U5 X (aA .Mult) (rI (λi j=>Bt 60000 i/\Bt 60000 j) λi j=>.int (i*j)):=UE λi j _ _ _ _ _ a q=>mul_int q (a.1.a1Y a.2 f5)
def RK:U5 X (aA .FloorDiv) (rI (λ_ j=>j≠0/\Bt 8000 j) λi j=>.int (i.fdiv j)):=UE λi j _ _ _ _ _ a q=>floordiv_int a.1 q (.inl (PyProof.noPylong_of_log2 (by
 have b:j.natAbs≠0:=by have:=a.1;simp[*]
 have:=(Nat.log2_lt b).mpr a.2.lt;exact pd)))
def fnD(nm:Str):p9:=.dict [(.str nm,.none)]
def a3D:Str:=⟨#[0]⟩
def BE:p9->Bool
 | .dict [(.str _,.none)]=>Uf
 | .dict [(.tuple [.str _,.list _],.tuple _)]=>Uf
 | .dict [(.list _,_)]=>Uf
 |_=>U'
def zY(nm:Str)(ns:List Str)(l:List p9):p9:=.dict [(.tuple [.str nm,.list (ns.map .str)],.tuple l)]
def JR(ks:List Str)(l:List p9):p9:=.dict [(.list (ks.map .str),.tuple l)]
noncomputable def bN:Key->p9
 | .inl i=>.int i
 | .inr x=>.str x
def L7(k:List Key):p9:=.dict [(.list (k.map bN),.none)]
def wQ(ks:List (List Key))(l:List p9):p9:=.dict [(.list (ks.map λk=>.tuple (k.map bN)),.list l)]
mutual
inductive Dt(K:v9)(H:Hp):V->p9->Prop
 |non:Dt K H .non .none
 |bl (b):Dt K H (.bl b) (.bool b)
 |int (i):Dt K H (.int i) (.int i)
 |str (x):Dt K H (.str x) (.str x)
 |tup {a xs ds}:X9 K H a xs->C8 K H xs ds->Dt K H (.ref a) (.tuple ds)
 |lst {a xs ds}:M8 K H a xs->C8 K H xs ds->Dt K H (.ref a) (.list ds)
 |exc {ea C dx fld v d}:uQ K C->aY K (.ref C) fld=U J->H ea=U (.ext (ExcAt ea C dx))->H dx=U (.xd [(fld,v)])->Dt K H v d->Dt K H (.ref ea) (JQ C fld d)
 |fn {f nm}:(fx K aq nm=U (U (.ref f))\/nm=a3D)->Dt K H (.ref f) (fnD nm)
 |ins {a C dx fv nm ns vs l}:fx K aq nm=U (U (.ref C))->H a=U (.ins C dx fv)->fv=ns.zip vs->C8 K H vs l->Dt K H (.ref a) (zY nm ns l)
 |key {a k}:H a=U (.tup (k.map kV))->Dt K H (.ref a) (L7 k)
 |dtt {a kvs ks vs l}:H a=U (.dT kvs)->ks.length=vs.length->kvs=ks.zip vs->C8 K H vs l->Dt K H (.ref a) (wQ ks l)
 |dct {a kvs ks vs l}:H a=U (.dK kvs)->kvs=(ks.map gM).zip vs->C8 K H vs l->Dt K H (.ref a) (JR ks l)
inductive C8(K:v9)(H:Hp):List V->List p9->Prop
 |nil:C8 K H [] []
 |cons {x xs d ds}:Dt K H x d->C8 K H xs ds->C8 K H (x::xs) (d::ds)
end
def u9.gr(e:u9 H q)(h:X9 g H z N):X9 g q z N:=by
 rcases h with (h|⟨o,h⟩)|h
 exact .inl (.inl (e _ _ h));exact .inl (.inr ⟨o,e _ _ h⟩);exact .inr h
def u9.new(h:H z=J):u9 H (upd H z m5):=λb u e=>by rw[J4 (ai e h)];exact e
mutual
theorem Dt.same{K:v9}{H H':Hp}(e:u9 H H'){x:V}{d:p9}(h:Dt K H x d):Dt K H' x d:=by
 cases h with
 |non=>exact .non
 |bl b=>exact .bl b
 |int i=>exact .int i
 |str x=>exact .str x
 |tup h t=>exact .tup (e.gr h) (C8.same e t)
 |lst h t=>exact .lst (e.seq h) (C8.same e t)
 |exc c n a f t=>exact .exc c n (e _ _ a) (e _ _ f) (Dt.same e t)
 |fn h=>exact .fn h
 |ins a f g t=>exact .ins a (e _ _ f) g (C8.same e t)
 |dct a f t=>exact .dct (e _ _ a) f (C8.same e t)
 |key h=>exact .key (e _ _ h)
 |dtt a f g t=>exact .dtt (e _ _ a) f g (C8.same e t)
theorem C8.same{K:v9}{H H':Hp}(e:u9 H H'){xs:List V}{ds:List p9}(h:C8 K H xs ds):C8 K H' xs ds:=by
 cases h with
 |nil=>exact .nil
 |cons h t=>exact .cons (Dt.same e h) (C8.same e t)
end
theorem C8.length{K:v9}{H:Hp}{xs:List V}{ds:List p9}(h:C8 K H xs ds):xs.length=ds.length:=by
 induction ds generalizing xs with
 |nil=>cases h;rfl
 |cons _ _ i=>cases h with
  |cons _ t=>exact B9 (· + 1) (i t)
def C8.get{i:Nat}(h:C8 g H N S)(e:S[i]? = U g8):∃x,N[i]? = U x/\Dt g H x g8:=by
 induction S generalizing N i with
 |nil=>exact nE e
 |cons _ _ j=>cases h with
  |cons a t=>cases i with
   |zero=>cases e;exact⟨_,rfl,a⟩
   |succ i=>exact(j (i:=i) t e :)
mutual
theorem Inv.reads{pins:List (Addr×Obj)}{m:St}{H:Hp}{s:v5}(I:Inv X pins m H s){x:V}{u:t2}{d:p9}(h:Dt X.K H x d)(r:RelV x u)(a:d.canLay0=Uf):∃as,Reads s.heap u d as:=by
 cases h with
 |non=>cases r;exact⟨_,.none⟩
 |bl b=>cases r;exact⟨_,.bool b⟩
 |int i=>obtain⟨t,rfl⟩:=r;exact⟨_,.int i t⟩
 |str y=>obtain⟨t,rfl⟩:=r;exact⟨_,.str y t⟩
 |tup h t =>
  cases r;obtain⟨g,k,⟨o,e,c,n,f⟩,_⟩:=I.tuple h;obtain⟨as,j⟩:=Inv.readsAll I t k (by assumption);exact⟨_,.tuple e c f (by omega)⟩
 |lst h t =>
  cases r;obtain⟨g,k,l,_⟩:=I.list h;obtain⟨o,e,c,n,f⟩:=l.isList;obtain⟨as,j⟩:=Inv.readsAll I t k (by assumption);exact⟨_,.list e c f (by omega)⟩
 |exc _ _ _ _ _=>rw[JQ,fA]at a;exact nT a
 |fn _=>rw[fnD,fA]at a;exact nT a
 |ins _ _ _ _=>rw[zY,fA]at a;exact nT a
 |dct _ _ _=>rw[JR,fA]at a;exact nT a
 |key _=>rw[L7,fA]at a;exact nT a
 |dtt _ _ _ _=>rw[wQ,fA]at a;exact nT a
theorem Inv.readsAll{pins:List (Addr×Obj)}{d:St}{H:Hp}{s:v5}(I:Inv X pins d H s){xs:List V}{us:List t2}{ds:List p9}(h:C8 X.K H xs ds)(r:Vals xs us)(a:fX ds=Uf):∃as,ReadsAll s.heap us ds as:=by
 cases h with
 |nil=>cases r;exact⟨_,.nil⟩
 |cons h t =>
  cases r with
  |cons r e =>
   rw[fX,qV]at a;obtain⟨as,b⟩:=Inv.reads I h r a.1;obtain⟨bs,c⟩:=Inv.readsAll I t e a.2;exact⟨_,.cons b c⟩
end
def a0b(g:X.A.units+64<R3):U5 X (W5 .Eq) (λx y H Q=>∃d e,Dt X.K H x d/\Dt X.K H y e/\aX d=Uf/\aX e=Uf/\Q (.bl (Y0 d e)) H):=by intro b s o H x y v u Q I j i h;obtain⟨d,e,l,m,c,a,q⟩:=h;obtain⟨n,f⟩:=I.reads l j (zo c);obtain⟨bs,k⟩:=I.reads m i (zo a);exact eq_dataH f k c a g ⟨.bl _,H,I,rfl,q⟩
def ZY(g:X.A.units+64<R3):U5 X (W5 .NotEq) (λx y H Q=>∃d e,Dt X.K H x d/\Dt X.K H y e/\aX d=Uf/\aX e=Uf/\Q (.bl (!PyData.eqv d e)) H):=by intro b s o H x y v u Q I j i h;obtain⟨d,e,l,m,c,a,q⟩:=h;obtain⟨n,f⟩:=I.reads l j (zo c);obtain⟨bs,k⟩:=I.reads m i (zo a);exact ne_dataH f k c a g ⟨.bl _,H,I,rfl,q⟩
end
def PM:p9->String
 | .none=>"NoneType"
 | .bool _=>"bool"
 | .int _=>"int"
 | .str _=>"str"
 | .tuple _=>"tuple"
 | .list _=>"list"
 |_=>"dict"
def Dg(d:p9)(n:String):Bool:=PM d==n||(PM d=="bool"&&n=="int")
def ky:∀{t n:String},(t = "NoneType"\/t = "bool"\/t = "int"\/t = "str"\/t = "tuple"\/t = "list")->jj n->oy g (.type t) (.type n)=U (t==n||(t=="bool"&&n=="int")):=by intro t n b a;rcases b with rfl|rfl|rfl|rfl|rfl|rfl<;>rcases a with rfl|rfl|rfl|rfl|rfl<;>first|rfl|decide +kernel
section
set_option tactic.hygienic true in
def Tw:br c (.builtin "isinstance") (λxs H Q=>∃x n d,xs=[x,.ty n]/\Dt c.K H x d/\BE d=U'/\jj n/\Q (.bl (Dg d n)) H):=by
 intro k s G H xs S Q I r h;obtain⟨x,n,d,rfl,L,f,g,q⟩:=h;obtain⟨u,X,rfl,j,B⟩:=vals2 r;cases B;have a:∀l,EP c k G Q (.bool (Dg d n)) {s with toks:=l}:=λl=>⟨.bl _,H,I.tok l,rfl,q⟩
 cases L with
 |non=>cases j;exact oz PySem.W.kitx_none I.gF lN (ky E5 g) (λz=>nomatch z) a
 |bl b=>cases j;exact oz PySem.W.kitx_bool I.gF lN (ky (.inr (.inl rfl)) g) (λz=>nomatch z) a
 |int i=>obtain⟨t,rfl⟩:=j;exact oz PySem.W.kitx_int I.gF lN (ky f5 g) (λz=>nomatch z) a
 |str y=>obtain⟨t,rfl⟩:=j;exact oz PySem.W.kitx_str I.gF lN (ky f5 g) (λz=>nomatch z) a
 |tup h t =>
  cases j;obtain⟨p,D,⟨o,e,X,n,N⟩,_⟩:=I.tuple h;exact oz PySem.W.kitx_tuple I.gF ⟨o,e,X⟩ (ky f5 g) (λz=>nomatch z) a
 |lst h t =>
  cases j;obtain⟨p,D,F,_⟩:=I.list h;obtain⟨o,e,X,n,N⟩:=F.isList;exact oz PySem.W.kitx_list I.gF ⟨o,e,X⟩ (ky f5 g) (λz=>nomatch z) a
 |exc X R w A t =>
  rename_i Z C V m v d;cases j;obtain⟨P,⟨E,T,Y,O,_⟩,_⟩:=I.J1 _ _ A;have M:Dg (JQ C m d) n=U':=by rcases g with rfl|rfl|rfl|rfl|rfl<;>rfl
  rw[M]at a;exact oz (Sv X) I.gF ⟨(I.J1 _ _ w).1,E,O⟩ (X.jj g) (λz=>nomatch z) a
 |fn _=>exact nF f
 |ins _ _ _ _=>exact nF f
 |dct _ _ _=>exact nF f
 |key _=>exact nF f
 |dtt _ _ _ _=>exact nF f
end
section
variable{prog:L9}{w:E1}
def Br{lo i:Option Int}(a:gJ B.heap z b8)(hs:B.heap.IsSliceOf T b6 i7 .none)(pl:gK b6 lo)(k:gK i7 i)(j:HT.N8 b8.size 0 lo=0/\HT.N8 b8.size b8.size i=b8.size)(h:c6 (.ref z) B):wpAny (model prog w) L (gL (.ref z) (.ref T)) c6 Y B:=by
 obtain⟨l,d,c,m⟩:=id hs;have b:B.TypeIs (.ref T) "slice":=⟨l,d,c⟩;delta gL;try with_reducible refine fy ?_
 first|refine u4 (z6 ?_)|skip
 refine u4 (wpAny_sequenceKey a.typeIs f5 ?_);refine u4 (mP a.typeIs zz (jG zz a.typeIs entry_tuple_getitem ?_ (args_tuple_getitem _ _)));show wpAny _ _ (Pg (.ref z) >>= _) _ _ B;refine u4 (tupleItemsOf_ a (u4 (ur b ?_)));refine u4 (HT.nC hs pl k ?_);rw[j.1,j.2];show wpAny _ _ (if ((0)==0&&1==1&&(b8.size-0)==b8.size)=Uf then _ else _) _ _ B
 rw[f9 B3];refine u4 (u4 (ur a.typeIs (z6 ?_)));first
  |exact u4 (lO (u4 (z6 ⟨_,rfl,z6 h⟩)))
  |exact u4 (lO (z6 ⟨_,rfl,z6 h⟩))
  |exact u4 (lO (u4 (z6 (z6 ⟨_,rfl,z6 h⟩))))
def XI{ws:List t2}(x:gJ B.heap z j2.toArray)(u:gJ B.heap T ws.toArray)(m:j2=[])(h:c6 (.ref T) B):wpAny (model prog w) L (aA .Add (.ref z) (.ref T)) c6 Y B:=by
 obtain⟨⟨v,q,k,r⟩,i,l,n,o⟩:=id x;obtain⟨⟨j,e,g,c⟩,a,f,p,d⟩:=id u;subst l o f d;exact yL ⟨_,i,rfl⟩ ⟨_,a,rfl⟩ ET Ew FK FL (FQ _ _)
  (tuple_addW0 z T j2.toArray ws.toArray n p q e r c (by simp[m])) ⟨i,a,h⟩
end
inductive PF where
 |dat (d:p9)
 |own (l:List p9)
 |dct (es:List (Str×p9))
variable{h8:List (Str×PF)}{k7:PF}
inductive OD where
 |dct (es:List (Str×p9))
 |ins (nm:Str) (fs:List (Str×PF))
 |seq (b:Bool) (fs:List (Str×PF))
inductive PV where
 |dat (d:p9)
 |own (l:List p9)
 |ob (w:Option Addr) (c:OD)
variable{i3:PV}{k6:p9->p9->Option PV}{l9:List PV}{o9:p9->Option PV}
abbrev sd(d:p9):Option PV:=U (.dat d)
noncomputable def PF.d:PF->p9
 | .dat d=>d
 | .own l=>.list l
 | .dct es=>JR (es.map (·.1)) (es.map (·.2))
noncomputable def OD.d:OD->p9
 | .dct es=>JR (es.map (·.1)) (es.map (·.2))
 | .ins nm fs=>zY nm (fs.map (·.1)) (fs.map λf=>f.2.d)
 | .seq Uf fs=>.list (fs.map λf=>f.2.d)
 | .seq U' fs=>.tuple (fs.map λf=>f.2.d)
def PV.d:PV->p9
 | .dat d=>d
 | .own l=>.list l
 | .ob _ c=>c.d
@[simp] theorem PV.vy(d:p9):(PV.dat d).d=d:=rfl
@[simp] theorem PV.JS(l:List p9):(PV.own l).d=.list l:=rfl
abbrev Ds:=List (Option PV)
variable{E:Ds}
abbrev DV:=Ds->Option PV
variable{r d2:DV}
abbrev DB:=Ds->Option Bool
variable{a6:DB}
abbrev DL:=Ds->Option (List p9)
variable{P:DL}
abbrev DD:=Ds->Option Ds
variable{n6:p9->DD}{p4:List p9->DD}
abbrev FV:=List p9->Option PV
variable{i4:FV}
abbrev As:=List (Option Addr)
variable{u j1:As}
def A6(H:Hp)(as:As)(O:List Addr):Hp:=λb=>if b∈O\/U b∈as then J else H b
set_option tactic.hygienic true in
def E3:A6 H u O z=U m5↔(z∉O/\U z∉u/\H z=U m5):=by
 delta A6;split;rename_i h;constructor;intro b;exact nE b;rintro⟨a,c,_⟩;exact(h.elim a c).elim;rename_i h;constructor;intro b;exact⟨λq=>h (.inl q),λq=>h (.inr q),b⟩;rintro⟨_,_,b⟩;exact b
def fm(e:∀b o,b∉O->U b∉u->H b=U o->b∉j6/\U b∉j1/\q b=U o):u9 (A6 H u O) (A6 q j1 j6):=λb o h=>by obtain⟨d,f,g⟩:=E3.mp h;exact E3.mpr (e b o d f g)
def S5(e:u9 H q):u9 (A6 H u O) (A6 q u O):=fm λb o a c d=>⟨a,c,e b o d⟩
def aI(e:u9 H q)(h:∀b,U b∈j1->U b∈u):u9 (A6 H u O) (A6 q j1 O):=fm λb o c d f=>⟨c,λz=>d (h b z),e b o f⟩
def C1:u9 (A6 H u O) H:=λb o h=>(E3.mp h).2.2
def qq{bs:As}:A6 H (bs++u) O=A6 H bs (O++u.filterMap id):=by
 funext b
 delta A6;have:(b∈O\/U b∈bs++u)↔(b∈O++u.filterMap id\/U b∈bs):=by
  simp only[jC,Fg];constructor;rintro(h|h|h);exact .inl (.inl h);exact .inr h;exact .inl (.inr ⟨_,h,rfl⟩);rintro((h|⟨x,h,e⟩)|h);exact .inl h;subst e;exact .inr (.inr h);exact .inr (.inl h)
 by_cases c:b∈O\/U b∈bs++u;rw[f9 c,f9 (this.mp c)];rw[f6 c,f6 (λz=>c (this.mpr z))]
def Cell(u:HO):Prop:=(∃xs,u=.lst xs)\/(∃kvs,u=.dK kvs)\/∃C dx fv,u=.ins C dx fv
abbrev Cl:={u:HO // Cell u}
def Cl.l(xs:List V):Cl:=⟨.lst xs,.inl ⟨xs,rfl⟩⟩
def Cl.d(kvs:List (Key×V)):Cl:=⟨.dK kvs,.inr (.inl ⟨kvs,rfl⟩)⟩
def Cl.i(C dx:Addr)(fv:List (Str×V)):Cl:=⟨.ins C dx fv,.inr (.inr ⟨C,dx,fv,rfl⟩)⟩
def FT(K:v9)(Hv:Hp):List (Key×V)->List (Str×p9)->Prop:=Paired λ(p:Key×V) (q:Str×p9)=>p.1=.inr q.1/\Dt K Hv p.2 q.2
theorem FT.same{K:v9}{H H':Hp}{a:List (Key×V)}{es:List (Str×p9)}(e:u9 H H')(h:FT K H a es):FT K H' a es:=by
 induction h with
 |nil=>exact .nil
 |cons h t b=>exact .cons ⟨h.1,h.2.same e⟩ b
inductive Q4(K:v9)(Hv H:Hp):List (Str×V)->List (Str×PF)->List Addr->Prop
 |nil:Q4 K Hv H [] [] []
 |dat {n x d fv fs R}:Dt K Hv x d->Q4 K Hv H fv fs R->Q4 K Hv H ((n,x)::fv) ((n,.dat d)::fs) R
 |own {n a xs l fv fs R}:H a=U (.lst xs)->C8 K Hv xs l->a∉R->Q4 K Hv H fv fs R->Q4 K Hv H ((n,.ref a)::fv) ((n,.own l)::fs) (a::R)
 |dct {n a kvs es fv fs R}:H a=U (.dK kvs)->FT K Hv kvs es->a∉R->Q4 K Hv H fv fs R->Q4 K Hv H ((n,.ref a)::fv) ((n,.dct es)::fs) (a::R)
def my(K:v9)(Hv H:Hp)(v:Addr)(R:List Addr):OD->Prop
 | .dct es=>∃kvs,R=[v]/\H v=U (.dK kvs)/\FT K Hv kvs es
 | .ins nm fs=>∃C dx fv R',R=v::R'/\fx K aq nm=U (U (.ref C))/\H v=U (.ins C dx fv)/\Q4 K Hv H fv fs R'
 | .seq Uf fs=>∃fv R',R=v::R'/\v∉R'/\H v=U (.lst (fv.map (·.2)))/\Q4 K Hv H fv fs R'
 | .seq U' fs=>∃fv,Hv v=U (.tup (fv.map (·.2)))/\Q4 K Hv H fv fs R
section
variable{K:v9}
theorem Q4.same{Hv:Hp}{Hv':Hp}{H:Hp}{H':Hp}{R:List Addr}{fv:List (Str×V)}{fs:List (Str×PF)}(e:u9 Hv Hv')(h:Q4 K Hv H fv fs R):(∀b∈R,∀o,H b=U o->H' b=U o)->Q4 K Hv' H' fv fs R:=by
 induction h with
 |nil=>exact λ_=>.nil
 |dat j t c=>exact λa=>.dat (j.same e) (c a)
 |own f g i t c=>exact λa=>.own (a _ D1 _ f) (g.same e) i (c λb d=>a b (C6 _ d))
 |dct f g i t c=>exact λa=>.dct (a _ D1 _ f) (g.same e) i (c λb d=>a b (C6 _ d))
def Q4.at(h:Q4 K q H j7 h8 O):∀b∈O,∃u:HO,((∃xs,u=.lst xs)\/∃e,u=.dK e)/\H b=U u:=by
 induction h with
 |nil=>exact λb a=>absurd a B3
 |dat i t c=>exact c
 |own d f g t c =>
  intro b a;rcases List.mem_cons.mp a with rfl|a
  exact⟨_,.inl ⟨_,rfl⟩,d⟩;exact c b a
 |dct d f g t c =>
  intro b a;rcases List.mem_cons.mp a with rfl|a
  exact⟨_,.inr ⟨_,rfl⟩,d⟩;exact c b a
theorem my.same{Hv:Hp}{Hv':Hp}{H:Hp}{H':Hp}{v:Addr}{R:List Addr}{c:OD}(e:u9 Hv Hv')(f:∀b∈R,∀o,H b=U o->H' b=U o)(h:my K Hv H v R c):my K Hv' H' v R c:=by
 cases c with
 |dct n=>obtain⟨k,rfl,a,d⟩:=h;exact⟨k,rfl,f _ D1 _ a,d.same e⟩
 |ins p fs =>
  obtain⟨C,m,g,l,rfl,j,a,d⟩:=h;exact⟨C,m,g,l,rfl,j,f _ D1 _ a,d.same e λb i=>f b (C6 _ i)⟩
 |seq b fs =>
  cases b with
  |true =>
   obtain⟨g,l,rfl,j,a,d⟩:=h;exact⟨g,l,rfl,j,f _ D1 _ a,d.same e λb i=>f b (C6 _ i)⟩
  |false=>obtain⟨g,a,d⟩:=h;exact⟨g,e _ _ a,d.same e f⟩
theorem my.at{Hv:Hp}{H:Hp}{v:Addr}{R:List Addr}{c:OD}(h:my K Hv H v R c):∀b∈R,∃u:Cl,H b=U u.1:=by
 cases c with
 |dct q =>
  obtain⟨n,rfl,j,f⟩:=h;intro b a;rw[mem_singleton.mp a];exact⟨Cl.d n,j⟩
 |ins r fs =>
  obtain⟨C,o,k,m,rfl,p,j,f⟩:=h;intro b a;rcases List.mem_cons.mp a with rfl|a
  exact⟨Cl.i C o k,j⟩;obtain⟨u,h|h,e⟩:=f.at b a;exact⟨⟨u,.inl h⟩,e⟩;exact⟨⟨u,.inr (.inl h)⟩,e⟩
 |seq t fs =>
  have g:∀{k m},Q4 K Hv H k fs m->∀b∈m,∃u:Cl,H b=U u.1:=λf b a=>by
   obtain⟨u,h|h,e⟩:=f.at b a;exact⟨⟨u,.inl h⟩,e⟩;exact⟨⟨u,.inr (.inl h)⟩,e⟩
  cases t with
  |true =>
   obtain⟨k,m,rfl,p,j,f⟩:=h;intro b a;rcases List.mem_cons.mp a with rfl|a
   exact⟨Cl.l _,j⟩;exact g f b a
  |false=>obtain⟨k,j,f⟩:=h;exact g f
def HF{es:List (Str×p9)}(h:FT K H o5 es):o5=((es.map (·.1)).map gM).zip (o5.map (·.2))/\C8 K H (o5.map (·.2)) (es.map (·.2)):=by
 induction h with
 |nil=>exact⟨rfl,.nil⟩
 | @cons p q c d h t b =>
  refine⟨?_,.cons h.2 b.2⟩;rw[C7,C7,C7,kU,<-b.1,<-h.1]
def Q4.dts(h:Q4 K q H j7 h8 O)(e:u9 q e8)(a:∀b∈O,∀o,H b=U o->e8 b=U o):j7=(h8.map (·.1)).zip (j7.map (·.2))/\C8 K e8 (j7.map (·.2)) (h8.map λf=>f.2.d):=by
 induction h with
 |nil=>exact⟨rfl,.nil⟩
 |dat p t c =>
  obtain⟨g,i⟩:=c a;refine⟨?_,.cons (p.same e) i⟩;rw[C7,C7,kU,<-g]
 |own l j n t c =>
  obtain⟨g,i⟩:=c λb k=>a b (C6 _ k);refine⟨?_,.cons (.lst (M8.of (a _ D1 _ l)) (j.same e)) i⟩;rw[C7,C7,kU,<-g]
 |dct l j n t c =>
  obtain⟨g,i⟩:=c λb k=>a b (C6 _ k);obtain⟨m,k2⟩:=HF j;refine⟨?_,.cons (.dct (a _ D1 _ l) m (k2.same e)) i⟩;rw[C7,C7,kU,<-g]
def my.dt{c:OD}(h:my K q H z O c)(e:u9 q e8)(g:∀b∈O,∀o,H b=U o->e8 b=U o):Dt K e8 (.ref z) c.d:=by
 cases c with
 |dct v =>
  obtain⟨m,rfl,a,f⟩:=h;obtain⟨i,k2⟩:=HF f;exact .dct (g _ D1 _ a) i (k2.same e)
 |ins r fs =>
  obtain⟨C,p,k,n,rfl,l,a,f⟩:=h;obtain⟨i,k2⟩:=f.dts e λb j=>g b (C6 _ j);exact .ins l (g _ D1 _ a) i k2
 |seq b fs =>
  cases b with
  |true =>
   obtain⟨k,n,rfl,l,a,f⟩:=h;obtain⟨i,k2⟩:=f.dts e λb j=>g b (C6 _ j);exact .lst (M8.of (g _ D1 _ a)) k2
  |false =>
   obtain⟨k,a,f⟩:=h;obtain⟨i,k2⟩:=f.dts e g;exact .tup (X9.of (e _ _ a)) k2
end
def cy(K:v9)(O:List Addr)(as:As)(H:Hp)(si:Option (Option V))(rg:List Addr):PV->Prop
 | .dat d=>∃v,si=U (U v)/\Dt K (A6 H as O) v d
 | .own l=>∃a xs,si=U (U (.ref a))/\a∈rg/\H a=U (.lst xs)/\C8 K (A6 H as O) xs l
 | .ob w c=>∃v R,si=U (U (.ref v))/\(w=J\/w=U v)/\(∀b∈R,b∈rg)/\my K (A6 H as O) H v R c
structure DS(K:v9)(O:List Addr)(D7:Hp)(as:As)(σ:St)(H:Hp)(ds:Ds):Prop where
 ls:σ.length=ds.length
 same:u9 D7 H
 new:∀a,U a∈as->D7 a=J/\∃u:Cl,H a=U u.1
 eT:∀a∈O,∃o,D7 a=U o
 iy:∃rg:Nat->List Addr,(∀i b,b∈rg i->U b∈as)/\(∀i j b,b∈rg i->b∈rg j->i=j)/\∀(i:Nat) (pv:PV),ds[i]? = U (U pv)->cy K O as H σ[i]? (rg i) pv
def Kg(K:v9)(O:List Addr)(as:As)(H:Hp)(si:Option (Option V)):PV->Prop
 | .dat d=>∃v,si=U (U v)/\Dt K (A6 H as O) v d
 | .own l=>∃a xs,si=U (U (.ref a))/\U a∈as/\H a=U (.lst xs)/\C8 K (A6 H as O) xs l
 | .ob w c=>∃v R,si=U (U (.ref v))/\(w=J\/w=U v)/\(∀b∈R,U b∈as)/\my K (A6 H as O) H v R c
def DS.slot(S:DS g O q u D H E)(i:Nat)(pv:PV)(h:E[i]? = U (U pv)):Kg g O u H D[i]? pv:=by
 obtain⟨r,j,k,n⟩:=S.iy;have z:=n i pv h;cases pv with
 |dat d=>exact z
 |own l=>obtain⟨a,m,e,K,f⟩:=z;exact⟨a,m,e,j i a K,f⟩
 |ob w c=>obtain⟨v,R,e,K,f,p⟩:=z;exact⟨v,R,e,K,λb o=>j i b (f b o),p⟩
def cy.AG{K:List Addr}(h:cy g O u H o8 j6 i3)(e:u9 (A6 H u O) (A6 q j1 O))(n:∀b∈j6,∀o,H b=U o->q b=U o)(p:∀b∈j6,b∈K):cy g O j1 q o8 K i3:=by
 cases i3 with
 |dat d=>obtain⟨v,f,z⟩:=h;exact⟨v,f,z.same e⟩
 |own l=>obtain⟨a,r,f,j,i,z⟩:=h;exact⟨a,r,f,p a j,n a j _ i,z.same e⟩
 |ob w c=>obtain⟨v,R,f,j,i,z⟩:=h;exact⟨v,R,f,j,λb m=>p b (i b m),z.same e λb m=>n b (i b m)⟩
def ag(fr:Bool)(as:As):As:=if fr=Uf then as else[]
def pT(h:U z∈ag I u):U z∈u:=by
 unfold ag at h
 simp_all
def RX(K:v9)(O:List Addr)(va:As)(H H':Hp)(v:V):PV->Prop
 | .dat d=>Dt K (A6 H' va O) v d
 | .own l=>∃a xs,v=.ref a/\H a=J/\H' a=U (.lst xs)/\C8 K (A6 H' (U a::va) O) xs l
 | .ob w c=>∃o R,v=.ref o/\(w=J\/w=U o)/\(∀b∈R,H b=J)/\my K (A6 H' (R.map U++va) O) H' o R c
structure ri(H:Hp)(va:As)(O:List Addr):Prop where
 o:∀a∈O,∃u,H a=U u
 a:∀a,U a∈va->∃u,H a=U u
section
variable{K:v9}
def ri.same(D:ri H u O)(e:u9 H q):ri q u O:=⟨λa h=>let ⟨b,z⟩:=D.o a h;⟨b,e _ _ z⟩,λa h=>let ⟨b,z⟩:=D.a a h;⟨b,e _ _ z⟩⟩
def DS.dm{fr:Bool}(S:DS K O q u D H E):ri H (ag fr u) O:=⟨λa h=>let ⟨σ,z⟩:=S.eT a h;⟨σ,S.same _ _ z⟩,λa h=>let ⟨_,z⟩:=(S.new a (pT h)).2;⟨_,z⟩⟩
def DS.nO(S:DS K O q u D H E)(h:U z∈u):z∉O:=λσ=>by obtain⟨o,e⟩:=S.eT z σ;rw[(S.new z h).1]at e;exact nE e
def DS.grow(S:DS K O q u D H E)(e:u9 H e8):DS K O q u D e8 E:=
 ⟨S.ls,S.same.trans e,λa h=>⟨(S.new a h).1,let ⟨o,z⟩:=(S.new a h).2;⟨o,e _ _ z⟩⟩,S.eT,let ⟨d,g,c,f⟩:=S.iy;⟨d,g,c,λi pv h=>(f i pv h).AG (S5 e) (λb _ o z=>e _ _ z) λ_ z=>z⟩⟩
def RX.grow(h:RX K O u H q a2 i3)(e:u9 q e8):RX K O u H e8 a2 i3:=by
 cases i3 with
 |dat d=>exact Dt.same (S5 e) h
 |own l=>obtain⟨a,j,g,f,i,h⟩:=h;exact⟨a,j,g,f,e _ _ i,h.same (S5 e)⟩
 |ob w c=>obtain⟨o,R,g,f,i,h⟩:=h;exact⟨o,R,g,f,i,h.same (S5 e) λb _ v z=>e _ _ z⟩
def RX.back(h:RX K O u H q a2 i3)(e:u9 e8 H):RX K O u e8 q a2 i3:=by
 cases i3 with
 |dat d=>exact h
 |own l=>obtain⟨a,j,g,f,i,h⟩:=h;exact⟨a,j,g,e.free f,i,h⟩
 |ob w c=>obtain⟨o,R,g,f,i,h⟩:=h;exact⟨o,R,g,f,λb k=>e.free (i b k),h⟩
def my.ag{c:OD}(h:my K (A6 H (j6.map U++u) O) H z j6 c)(n:∀b∈j6,b∉O/\U b∉u):Dt K (A6 H u O) (.ref z) c.d:=
 h.dt (aI (u9.refl _) λb o=>K6 _ o) λb a R o=>E3.mpr ⟨(n b a).1,(n b a).2,o⟩
def RX.dt(h:RX K O u H q a2 i3)(D:ri H u O):Dt K (A6 q u O) a2 i3.d:=by
 have f:∀a,H a=J->a∉O/\U a∉u:=λa e=>by
  refine⟨λz=>?_,λz=>?_⟩;obtain⟨v,z⟩:=D.o a z;lia;obtain⟨v,z⟩:=D.a a z;lia
 cases i3 with
 |dat d=>exact h
 |ob w c=>obtain⟨o,R,rfl,_,g,h⟩:=h;exact h.ag λb i=>f b (g b i)
 |own l =>
  obtain⟨a,j,rfl,e,g,h⟩:=h;exact .lst (M8.of (E3.mpr ⟨(f a e).1,(f a e).2,g⟩)) (h.same (aI (u9.refl _) λb z=>C6 _ z))
def RX.less(h:RX K O u H q a2 i3)(s:∀b,U b∈j1->U b∈u):RX K O j1 H q a2 i3:=by
 cases i3 with
 |dat d=>exact Dt.same (aI (u9.refl _) s) h
 |ob w c =>
  obtain⟨o,R,rfl,e,f,h⟩:=h;refine⟨o,R,rfl,e,f,h.same (aI (u9.refl _) λb z=>?_) (λ_ _ _ z=>z)⟩
  rcases List.mem_append.mp z with z|z
  exact T9 _ z;exact K6 _ (s b z)
 |own l =>
  obtain⟨a,i,rfl,e,f,h⟩:=h;refine⟨a,i,rfl,e,f,h.same (aI (u9.refl _) λb z=>?_)⟩
  rcases List.mem_cons.mp z with z|z
  rw[z];exact D1;exact C6 _ (s b z)
def nc:u9 (A6 H u O) (A6 H (ag I u) O):=aI (u9.refl _) λ_ h=>pT h
def Flat:p9->Bool
 | .none=>Uf
 | .bool _=>Uf
 | .int _=>Uf
 | .str _=>Uf
 |_=>U'
def C8.append{ys:List V}{es:List p9}(h:C8 K H N S)(k:C8 K H ys es):C8 K H (N++ys) (S++es):=by
 induction S generalizing N with
 |nil=>cases h;exact k
 |cons _ _ i=>cases h with
  |cons a t=>exact .cons a (i t)
def C8.get'(h:C8 K H N S)(e:N[m]? = U a2):∃d,S[m]? = U d/\Dt K H a2 d:=by
 induction S generalizing N m with
 |nil=>cases h;exact nE e
 |cons _ _ j=>cases h with
  |cons a t=>cases m with
   |zero=>cases e;exact⟨_,rfl,a⟩
   |succ m=>exact j t e
theorem C8.take{H:Hp}:∀{xs:List V} {ds:List p9} (n:Nat),C8 K H xs ds->C8 K H (xs.take n) (ds.take n)
 |_,_,0,_=>by simp;exact .nil
 |_,_,_+1,.nil=>by simp;exact .nil
 |_,_,n+1,.cons h t=>by simp only[List.take_succ_cons];exact .cons h (C8.take n t)
theorem C8.drop{H:Hp}:∀{xs:List V} {ds:List p9} (n:Nat),C8 K H xs ds->C8 K H (xs.drop n) (ds.drop n)
 |_,_,0,h=>by simpa using h
 |_,_,_+1,.nil=>by simp;exact .nil
 |_,_,n+1,.cons h t=>by simp only[List.drop_succ_cons];exact C8.drop n t
theorem C8.reverse{H:Hp}{xs:List V}{ds:List p9}(h:C8 K H xs ds):C8 K H xs.reverse ds.reverse:=by
 induction ds generalizing xs with
 |nil=>cases h;exact .nil
 |cons _ _ i=>cases h with
  |cons a t =>
   rw[zg,zg];exact(i t).append (.cons a .nil)
theorem C8.set{H:Hp}{xs:List V}{ds:List p9}(i:Nat){x:V}{d:p9}(h:C8 K H xs ds)(k:Dt K H x d):C8 K H (xs.set i x) (ds.set i d):=by
 induction ds generalizing xs i with
 |nil=>cases h;exact .nil
 |cons _ _ j=>cases h with
  |cons a t=>cases i with
   |zero=>exact .cons k t
   |succ i=>exact .cons a (j i t)
end
def TX(K:v9)(fr:Bool)(te:TE)(F:DV):Prop:=
 ∀(O:List Addr) (D7:Hp) (as:As) (σ:St) (H:Hp) (ds:Ds) (pv:PV) (Q:VK),DS K O D7 as σ H ds->F ds=U pv->(∀v H',u9 H H'->RX K O (ag fr as) H H' v pv->Q v H')->te σ H Q
structure PX(X:Cx)(fr:Bool)(e:Expr)(te:TE)(F:DV):Prop where
 p:PE X e te
 t:TX X.K fr te F
def sI(K:v9)(tt:TT)(F:DB):Prop:=
 ∀(O:List Addr) (D7:Hp) (as:As) (σ:St) (H:Hp) (ds:Ds) (b:Bool) (Q:Bool->Hp->Prop),DS K O D7 as σ H ds->F ds=U b->(∀H',u9 H H'->Q b H')->tt σ H Q
structure lG(X:Cx)(e:Expr)(tt:TT)(F:DB):Prop where
 p:PT X e tt
 t:sI X.K tt F
structure vX(X:Cx)(e:Expr)(tt:TT)(F:DB):Prop where
 p:PW X e tt
 t:sI X.K tt F
def TAX(K:v9)(fr:Bool)(t:TA)(F:DL):Prop:=
 ∀(O:List Addr) (D7:Hp) (as:As) (σ:St) (H:Hp) (ds:Ds) (l:List p9) (Q:List V->Hp->Prop),DS K O D7 as σ H ds->F ds=U l->(∀vs H',u9 H H'->C8 K (A6 H' (ag fr as) O) vs l->Q vs H')->t σ H Q
structure dq(X:Cx)(fr:Bool)(es:List Expr)(t:TA)(F:DL):Prop where
 p:PA X es t
 t:TAX X.K fr t F
def cQ(K:v9)(r:R2)(f:p9->p9->Option PV):Prop:=
 ∀(O:List Addr) (va:As) (H:Hp) (x y:V) (d e:p9) (pv:PV) (Q:VK),ri H va O->Dt K (A6 H va O) x d->Dt K (A6 H va O) y e->f d e=U pv->(∀v H',u9 H H'->RX K O va H H' v pv->Q v H')->r x y H Q
def R1X(K:v9)(r:V->Hp->VK->Prop)(f:p9->Option PV):Prop:=
 ∀(O:List Addr) (va:As) (H:Hp) (x:V) (d:p9) (pv:PV) (Q:VK),ri H va O->Dt K (A6 H va O) x d->f d=U pv->(∀v H',u9 H H'->RX K O va H H' v pv->Q v H')->r x H Q
def qz(K:v9)(r:List V->Hp->VK->Prop)(f:FV):Prop:=
 ∀(O:List Addr) (va:As) (H:Hp) (xs:List V) (ds:List p9) (pv:PV) (Q:VK),ri H va O->C8 K (A6 H va O) xs ds->f ds=U pv->(∀v H',u9 H H'->RX K O va H H' v pv->Q v H')->r xs H Q
noncomputable def q9(i:Nat):DV:=λds=>match ds[i]? with
 |some (U (.dat d))=>U (.dat d)
 |_=>J
noncomputable def R6(i:Nat):DV:=λds=>match ds[i]? with
 |some (U pv)=>U (.dat pv.d)
 |_=>J
noncomputable def fC(d:p9):DV:=λ_=>U (.dat d)
section
set_option tactic.hygienic true in
def Zj(i:Nat)(h:PE c e (P7 i)):PX c I e (P7 i) (q9 i):=⟨h,by
 intro O b k j H g pv Q S a q;unfold q9 at a;split at a;rename_i d f;cases a;obtain⟨v,X,h⟩:=S.slot i _ f;exact⟨v,X,q v H (u9.refl H) (h.same nc)⟩
 . exact nE a⟩
set_option tactic.hygienic true in
def VU(i:Nat)(h:PE c e (P7 i)):PX c U' e (P7 i) (R6 i):=⟨h,by
 intro O m x y H t pv Q S g q;unfold R6 at g;split at g
 . rename_i d n;cases g;have k:=S.slot i _ n;cases d with
   |dat d =>
    obtain⟨v,f,h⟩:=k;exact⟨v,f,q v H (u9.refl H) (h.same nc)⟩
   |own l =>
    obtain⟨a,s,f,j,r,h⟩:=k;exact⟨_,f,q _ H (u9.refl H) (Dt.lst (M8.of (E3.mpr ⟨S.nO j,by simp[ag],r⟩)) (h.same nc))⟩
   |ob w X =>
    obtain⟨o,R,f,_,j,h⟩:=k;exact⟨_,f,q _ H (u9.refl H) (h.dt nc λb p u z=>E3.mpr ⟨S.nO (j b p),by simp[ag],z⟩)⟩
 . exact nE g⟩
def Cj(h:PE c e (tC a2))(hd:∀H,Dt c.K H a2 g8):PX c I e (tC a2) (fC g8):=⟨h,by intro O a g f H X pv Q S b q;cases b;exact q a2 H (u9.refl H) (hd _)⟩
def Zr{j}:PX c I (.Constant (.int a1) j p) (tC (.int a1)) (fC (.int a1)):=Cj ZQ λ_=>.int a1
def a1L{i:Bool}{j}:PX c I (.Constant (.bool i) j p) (tC (.bl i)) (fC (.bool i)):=Cj a1Q λ_=>.bl i
def Zl{j}:PX c I (.Constant (.str y) j p) (tC (.str y)) (fC (.str y)):=Cj ZL λ_=>.str y
def Zp{j}:PX c I (.Constant .none j p) (tC .non) (fC .none):=Cj ZO λ_=>.non
def a2k(F:DV):DV:=λds=>(F ds).bind λpv=>if Flat pv.d=Uf then U (.dat pv.d)else J
noncomputable def t6(f:p9->p9->Option PV)(Fa Fb:DV):DV:=λds=>(Fa ds).bind λx=>(Fb ds).bind λy=>f x.d y.d
def Bw(p:cQ c.K j9 k6)(s:PX c I e G r)(z:PX c I o b9 d2):TX c.K I (sx j9 G b9) (t6 k6 r d2):=by
 intro O X j k H i pv Q S a q;obtain⟨x,h1,a⟩:=r4 a;obtain⟨y,h2,a⟩:=r4 a;refine s.t O X j k H i x _ S h1 λv B g m=>?_;refine z.t O X j k B i y _ (S.grow g) h2 λu n h l=>?_;refine p O (ag I j) n v u x.d y.d pv Q ((S.grow g).grow h).dm ((m.grow h).dt S.dm) (l.dt (S.grow g).dm) a λw C A b=>?_;exact q w C ((g.trans h).trans A) (b.back (g.trans h))
def rA{Fb:DV}{op:Operator}{r:R2}(g:U5 c (aA op) r)(a:cQ c.K r k6)(d:PX c I e G d2)(X:PX c I o b9 Fb):PX c I (.BinOp e op o p) (sx r G b9) (t6 k6 d2 Fb):=
 ⟨a1P g d.p X.p,Bw a d X⟩
def xy{Fb:DV}{r:R2}(a:U5 c (W5 o0) r)(h:cQ c.K r k6)(g:qL o0 o=U')(d:PX c I e G d2)(X:PX c I o b9 Fb):PX c I (.Compare e [o0] [o] p) (sx r G b9) (t6 k6 d2 Fb):=
 ⟨WI a d.p X.p g,Bw h d X⟩
def a1J{Fb:DV}{r:R2}(g:vY c r)(a:cQ c.K r k6)(d:PX c I e G d2)(X:PX c I o b9 Fb)(hs:qA o):PX c I (.Subscript e o p) (sx r G b9) (t6 k6 d2 Fb):=
 ⟨IX g d.p X.p hs,Bw a d X⟩
noncomputable def gk(f:p9->Option PV)(Fa:DV):DV:=λds=>(Fa ds).bind λx=>f x.d
def a1H{op:UnaryOp}{f:V->Hp->VK->Prop}(n:Vd c (unaryOp op) f)(l:R1X c.K f o9)(g:PX c I e G r):PX c I (.UnaryOp op e p) (tUn f G) (gk o9 r):=⟨a1N n g.p,by
 intro O b i s H h pv Q S X q;obtain⟨x,h1,X⟩:=r4 X;refine g.t O b i s H h x _ S h1 λv o a j=>?_;refine l O (ag I i) o v x.d pv Q (S.grow a).dm (j.dt S.dm) X λw u m k=>?_
 exact q w u (a.trans m) (k.back a)⟩
def Il:p9->Option Bool
 | .bool b=>U b
 |_=>J
noncomputable def A8(F:DV):DB:=λds=>(F ds).bind λx=>Il x.d
def uX(h:TX c.K I G r):sI c.K (tB G) (A8 r):=by
 intro O e j k H f b Q S a q;obtain⟨x,h1,a⟩:=r4 a;refine h O e j k H f x _ S h1 λv i g l=>?_
 have d:=l.dt S.dm;generalize x.d=z at d a;cases z with
 |bool X=>cases a;cases d;exact⟨_,rfl,q i g⟩
 |_=>exact nE a
def Wf{fr:Bool}(h:PX c fr e G r)(b:autoParam (∀a,isTrue e c.env a=(do let v <- a;dw e.pos;holding [v] (truthy v))) W0):lG c e (tB G) (A8 r):=⟨Zx h.p b,uX h.t⟩
def iz{fr:Bool}{Fb:DV}{r:R2}(a:U5 c (W5 o0) r)(h:cQ c.K r k6)(g:qL o0 o=U')(d:PX c fr e G d2)(X:PX c fr o b9 Fb):lG c (.Compare e [o0] [o] p) (By (sx r G b9)) (A8 (t6 k6 d2 Fb)):=
 ⟨Wl a d.p X.p g,uX (Bw h d X)⟩
noncomputable def Aq(F:DB):DB:=λds=>(F ds).bind λb=>U (!b)
noncomputable def tY(F G:DB):DB:=λds=>(F ds).bind λb=>if b=Uf then G ds else U U'
noncomputable def sH(F G:DB):DB:=λds=>(F ds).bind λb=>if b=Uf then U Uf else G ds
def Vw(h:sI c.K a8 a6):sI c.K (Qg a8) (Aq a6):=by intro O a f e H d b Q S X q;obtain⟨x,h1,X⟩:=r4 X;cases X;exact h O a f e H d x _ S h1 q
def Vx{tu:TT}{Fu:DB}(h:sI c.K a8 a6)(k:sI c.K tu Fu):sI c.K (Qi a8 tu) (tY a6 Fu):=by
 intro O a i g H e b Q S X q;obtain⟨x,h1,X⟩:=r4 X;refine h O a i g H e x _ S h1 λf d=>?_
 cases x with
 |true=>exact k O a i g f e b Q (S.grow d) X λl j=>q l (d.trans j)
 |false=>cases X;exact q f d
def Yu{tu:TT}{Fu:DB}(h:sI c.K a8 a6)(k:sI c.K tu Fu):sI c.K (YD a8 tu) (sH a6 Fu):=by
 intro O a i g H e b Q S X q;obtain⟨x,h1,X⟩:=r4 X;refine h O a i g H e x _ S h1 λf d=>?_
 cases x with
 |false=>exact k O a i g f e b Q (S.grow d) X λl j=>q l (d.trans j)
 |true=>cases X;exact q f d
def Wg(h:lG c e a8 a6):lG c (.UnaryOp .Not e p) (Qg a8) (Aq a6):=⟨Zy h.p,Vw h.t⟩
def QQ(h:lG c e a8 a6):vX c (.BoolOp .And [e] p) a8 a6:=⟨pw_and1 h.p,h.t⟩
def Wd(h:lG c e a8 a6):vX c (.BoolOp .Or [e] p) a8 a6:=⟨pw_or1 h.p,h.t⟩
def We{tu:TT}{Fu:DB}(h:lG c e a8 a6)(k:vX c (.BoolOp .And (o::Z) p) tu Fu):vX c (.BoolOp .And (e::o::Z) p) (Qi a8 tu) (tY a6 Fu):=⟨pw_and h.p k.p,Vx h.t k.t⟩
def Zw{tu:TT}{Fu:DB}(h:lG c e a8 a6)(k:vX c (.BoolOp .Or (o::Z) p) tu Fu):vX c (.BoolOp .Or (e::o::Z) p) (YD a8 tu) (sH a6 Fu):=⟨pw_or h.p k.p,Yu h.t k.t⟩
theorem vX.pt(h:vX c e a8 a6):lG c e a8 a6:=⟨PW.pt h.p,h.t⟩
noncomputable def nX(Fa Fb:DV):DV:=λds=>(A8 Fa ds).bind λb=>if b=Uf then Fb ds else U (.dat (.bool U'))
noncomputable def Dx(Fa Fb:DV):DV:=λds=>(A8 Fa ds).bind λb=>if b=Uf then U (.dat (.bool Uf))else Fb ds
noncomputable def Dz(Fa:DV):DV:=λds=>(A8 Fa ds).bind λb=>U (.dat (.bool !b))
def Zm{op}(h:PX c I e G r):PX c I (.BoolOp op [e] p) G r:=⟨ZM h.p,h.t⟩
def Zv(h:PX c I e G r)(k:PX c I (.BoolOp .And (o::Z) p) b9 d2):PX c I (.BoolOp .And (e::o::Z) p) (Us G b9) (nX r d2):=⟨ZS h.p k.p,by
 intro O X j i H f pv Q S d q;obtain⟨x,h1,d⟩:=r4 d;refine uX h.t O X j i H f x _ S h1 λg a=>?_
 cases x with
 |true=>exact k.t O X j i g f pv Q (S.grow a) d λv m l b=>q v m (a.trans l) (b.back a)
 |false=>cases d;exact q _ g a (Dt.bl _)⟩
def a1I(h:PX c I e G r)(k:PX c I (.BoolOp .Or (o::Z) p) b9 d2):PX c I (.BoolOp .Or (e::o::Z) p) (YC G b9) (Dx r d2):=⟨a1O h.p k.p,by
 intro O X j i H f pv Q S d q;obtain⟨x,h1,d⟩:=r4 d;refine uX h.t O X j i H f x _ S h1 λg a=>?_
 cases x with
 |false=>exact k.t O X j i g f pv Q (S.grow a) d λv m l b=>q v m (a.trans l) (b.back a)
 |true=>cases d;exact q _ g a (Dt.bl _)⟩
def Zo(h:PX c I e G r):PX c I (.UnaryOp .Not e p) (Uo G) (Dz r):=⟨ZN h.p,by intro O b i g H d pv Q S X q;obtain⟨x,h1,X⟩:=r4 X;cases X;exact uX h.t O b i g H d x _ S h1 λa f=>q _ a f (Dt.bl _)⟩
noncomputable def iH(Ft:DB)(Fa Fb:DV):DV:=λds=>(Ft ds).bind λb=>if b=Uf then Fa ds else Fb ds
def a1K(n:lG c b7 a8 a6)(h:PX c I e G r)(k:PX c I o b9 d2):PX c I (.IfExp b7 e o p) (tIf a8 G b9) (iH a6 r d2):=⟨Rz n.p h.p k.p,by
 intro O d m l H g pv Q S f q;obtain⟨x,h1,f⟩:=r4 f;refine n.t O d m l H g x _ S h1 λa X=>?_
 cases x with
 |true=>exact h.t O d m l a g pv Q (S.grow X) f λv j i b=>q v j (X.trans i) (b.back X)
 |false=>exact k.t O d m l a g pv Q (S.grow X) f λv j i b=>q v j (X.trans i) (b.back X)⟩
def nW(f g:p9->p9->Option PV)(Fa Fb Fc:DV):DV:=λds=>(Fa ds).bind λx=>(Fb ds).bind λy=>(f x.d y.d).bind λr=>(Il r.d).bind λk =>
 if k=Uf then(Fc ds).bind λz=>g y.d z.d else U (.dat (.bool U'))
def PR{tc:TE}{Fc:DV}{B:R2}{g:p9->p9->Option PV}(M:cQ c.K j9 k6)(s:cQ c.K B g)(N:PX c I e G r)(hb:PX c I o b9 d2)(P:PX c I b7 tc Fc):TX c.K I (BS j9 B G b9 tc) (nW k6 g r d2 Fc):=by
 intro O h b A H j pv Q S a q;unfold nW at a;cases h1:r j with
 |none=>simp_all
 |some x =>
  cases h2:d2 j with
  |none=>rw[h1,h2]at a;exact nE a
  |some y =>
   rw[h1,h2]at a;simp only[x5]at a;refine N.t O h b A H j x _ S h1 λv H1 l Y=>?_;refine hb.t O h b A H1 j y _ (S.grow l) h2 λu Z m f=>?_;have n:=(S.grow l).grow m;have F:=f.dt (S.grow l).dm;obtain⟨w,h3,a⟩:=r4 a;refine M O (ag I b) Z v u x.d y.d w _ n.dm ((Y.grow m).dt S.dm) F h3 λz C i X=>?_
   have D:=X.dt n.dm;obtain⟨k,h4,a⟩:=r4 a;have hk:z=.bl k:=by
    generalize w.d=ww at D h4;cases ww with
    |bool b7=>cases h4;cases D;rfl
    |_=>exact nE h4
   refine⟨k,hk,?_⟩;cases k with
   |false =>
    cases a;exact q _ C ((l.trans m).trans i) (Dt.bl _)
   |true =>
    obtain⟨E,h5,a⟩:=r4 a;refine P.t O h b A C j E _ (n.grow i) h5 λV W p L=>?_;refine s O (ag I b) W u V y.d E.d pv Q ((n.grow i).grow p).dm (F.same (S5 (i.trans p))) (L.dt (n.grow i).dm) a λT H5 e5 R=>?_;exact q T H5 ((((l.trans m).trans i).trans p).trans e5) (R.back (((l.trans m).trans i).trans p))
def Lo{fr:Bool}{tc:TE}{Fb Fc:DV}{d:CmpOp}{r:R2}{g:p9->p9->Option PV}(m:U5 c (W5 o0) r)(a:cQ c.K r k6)(i:U5 c (W5 d) j9)(X:cQ c.K j9 g)(k:PX c fr e G d2)(j:PX c fr o b9 Fb)(l:PX c fr b7 tc Fc)(n:lastMarks [o0,d] [o,b7]=U':=by with_unfolding_all rfl):lG c (.Compare e [o0,d] [o,b7] p) (By (BS r j9 G b9 tc)) (A8 (nW k6 g d2 Fb Fc)):=⟨QS m i k.p j.p l.p n,uX (PR a X k j l)⟩
noncomputable def u3:DL:=λ_=>U []
noncomputable def f7(F:DV)(G:DL):DL:=λds=>(F ds).bind λx=>(G ds).bind λl=>U (x.d::l)
def Hk:dq c I [] nA u3:=⟨qb,by intro O a d e H X l Q S b q;cases b;exact q [] H (u9.refl H) .nil⟩
def RC(h:PX c I e G r)(k:dq c I Z M P)(hs:autoParam (v7 (e::Z) c.env=(U',eval e c.env)::v7 Z c.env) t5):dq c I (e::Z) (iS G M) (f7 r P):=⟨iA h.p k.p hs,by
 intro O a i g H X l Q S b q;unfold f7 at b;cases h1:r X with
 |none=>simp_all
 |some x =>
  cases h2:P X with
  |none=>rw[h1,h2]at b;exact nE b
  |some m =>
   rw[h1,h2]at b;cases b;refine h.t O a i g H X x _ S h1 λv s f n=>?_;refine k.t O a i g s X m _ (S.grow f) h2 λt o d j=>?_
   exact q (v::t) o (f.trans d) (.cons ((n.grow d).dt S.dm) j)⟩
def ri.fresh(D:ri H u O)(h:H z=J):z∉O/\U z∉u:=by
 refine⟨λa=>?_,λa=>?_⟩;obtain⟨p,a⟩:=D.o z a;lia;obtain⟨p,a⟩:=D.a z a;lia
def xt(D:ri H u O)(h:H z=J)(hd:C8 g (A6 H u O) N S):RX g O u H (upd H z (.tup N)) (.ref z) (.dat (.tuple S)):=by obtain⟨a,b⟩:=D.fresh h;exact Dt.tup (X9.of (E3.mpr ⟨a,b,O3⟩)) (hd.same (S5 (u9.new h)))
def nG(h:H z=J)(hd:C8 g (A6 H u O) N S):RX g O u H (upd H z (.lst N)) (.ref z) (.own S):=by
 refine⟨z,N,rfl,h,O3,hd.same (fm λb o c d a=>⟨c,λK=>?_,?_⟩)⟩
 . simp_all
 exact u9.new h _ _ a
noncomputable def x9(Fl:DL):DV:=λds=>(Fl ds).bind λl=>if l.length<=1000000 then U (.dat (.tuple l))else J
noncomputable def N9(Fl:DL):DV:=λds=>(Fl ds).bind λl=>if l.length<=1000000 then U (.own l)else J
def oW(h:m<=1000000):m<=E6:=B6 h (by rw[qE];decide)
def Zk{x1}(h:dq c I Z M P):PX c I (.Tuple Z x1 p) (Qe M) (x9 P):=⟨LM h.p,by
 intro O b j i H f pv Q S a q;obtain⟨l,h1,a⟩:=r4 a;obtain⟨g,a⟩:=I0 a;cases a;refine h.t O b j i H f l _ S h1 λk m X d=>⟨by rw[d.length];exact oW g,λt e=>?_⟩
 exact q _ _ (X.trans (u9.new e)) (RX.back (xt (S.grow X).dm e d) X)⟩
def Zq(h:dq c I Z M P):PX c I (.List Z p) (YE M) (N9 P):=⟨ZP h.p,by
 intro O b j i H f pv Q S a q;obtain⟨l,h1,a⟩:=r4 a;obtain⟨g,a⟩:=I0 a;cases a;refine h.t O b j i H f l _ S h1 λk m e X=>⟨by rw[X.length];exact oW g,λt d=>?_⟩
 exact q _ _ (e.trans (u9.new d)) (RX.back (nG d X) e)⟩
noncomputable def q5(F:FV)(Fl:DL):DV:=λds=>(Fl ds).bind F
def Uh(j:qz c.K m9 i4)(h:dq c I Z M P):TX c.K I (xm m9 M) (q5 i4 P):=by
 intro O a e o H d pv Q S b q;obtain⟨l,h1,b⟩:=r4 b;refine h.t O a e o H d l _ S h1 λk n X g=>?_;refine j O (ag I e) n k l pv Q (S.grow X).dm g b λw p m i=>?_;exact q w p (X.trans m) (i.back X)
def rB{r:List V->Hp->VK->Prop}(l:br c (.builtin k8) r)(k:qz c.K r i4)(g:Gl c y)(h:c.mg y=J)(i:dZ y=U (.builtin k8))(X:dq c I (e::Z) M P)(d:autoParam (y ≠ "__name__") F8)(b:autoParam ((y==("__debug__" : Str))=U') F8)(j:autoParam (v7 (e::Z) c.env=(U',eval e c.env)::v7 Z c.env) t5)(a:autoParam ((F9 A (v7 Z c.env)).any (·.1)=U') t5):PX c I (.Call (.Name y p) (e::Z) [] A) (xm r M) (q5 i4 P):=⟨Ct l g h i X.p d b j a,Uh k X⟩
def tA{r:List V->Hp->VK->Prop}(l:br c (.type k8) r)(k:qz c.K r i4)(g:Gl c y)(h:c.mg y=J)(i:dZ y=U (.type k8))(X:dq c I (e::Z) M P)(d:autoParam (y ≠ "__name__") F8)(b:autoParam ((y==("__debug__" : Str))=U') F8)(j:autoParam (v7 (e::Z) c.env=(U',eval e c.env)::v7 Z c.env) t5)(a:autoParam ((F9 A (v7 Z c.env)).any (·.1)=U') t5):PX c I (.Call (.Name y p) (e::Z) [] A) (xm r M) (q5 i4 P):=⟨LN l g h i X.p d b j a,Uh k X⟩
def E9(K:v9)(F:FV):Sp:=λvs H Q _=>∃(O:List Addr) (ds:List p9) (pv:PV),(∀a∈O,∃u,H a=U u)/\C8 K (A6 H [] O) vs ds/\F ds=U pv/\∀v H',u9 H H'->RX K O [] H H' v pv->Q v H'
def Vu{fr:Bool}(h:dq c fr Z M P):TX c.K fr (ro (E9 c.K i4) [] d9 M) (q5 i4 P):=by
 intro O k g t H A pv Q S m q;obtain⟨l,h1,m⟩:=r4 m;refine h.t O k g t H A l _ S h1 λN E p I=>?_;have D:=(S.grow p).dm (fr:=fr);rw[bV];have z:∀H,A6 H (ag fr g) O=A6 H [] (O++(ag fr g).filterMap id):=λH=>qq (bs:=[]);refine⟨O++(ag fr g).filterMap id,l,pv,λa i=>?_,by rw[<-z];exact I,m,λv B C r=>q v B (p.trans C) ?_⟩
 . rcases List.mem_append.mp i with i|i
   exact D.o a i;obtain⟨x,G,e⟩:=List.mem_filterMap.mp i;subst e;exact D.a a G
 . cases pv with
   |dat d =>
    have j:Dt c.K (A6 B [] (O++(ag fr g).filterMap id)) v d:=r;rw[<-z]at j;exact j
   |own l =>
    obtain⟨a,F,u,y,s,n⟩:=r;refine⟨a,F,u,p.free y,s,?_⟩;rw[show(U a::ag fr g)=[U a]++ag fr g from rfl,qq];exact n
   |ob w X =>
    obtain⟨o,R,u,y,s,n⟩:=r;refine⟨o,R,u,y,λb L=>p.free (s b L),?_⟩;rw[qq];rw[bV]at n;exact n
def Wc(G:bc c.prog c.w c.K c.mg c.base i6 m z d5 Q (E9 c.K i4))(i:N7 m c.A)(l:Gl c y)(X:c.mg y=U (.ref z))(n:gT c.K (.ref z)=Uf)(j:Binds c.K d5 Q [])(o:Passes i6 c d9)(g:dq c I (e::Z) M P)(b:autoParam ((y==("__debug__" : Str))=U') F8)(h:autoParam (v7 (e::Z) c.env=(U',eval e c.env)::v7 Z c.env) t5)(a:autoParam ((F9 A (v7 Z c.env)).any (·.1)=U') t5):
  PX c I (.Call (.Name y p) (e::Z) [] A) (ro (E9 c.K i4) [] d9 M) (q5 i4 P):=⟨Hj G i l X n j .nil o g.p b h a,Vu g⟩
end
def eB(ds:Ds):Ds:=ds.map (Option.map λpv=>.dat pv.d)
def mY:U z∉(D3 m J:As):=λb=>by simp_all
def Xy:A6 H (D3 m J) O=A6 H [] O:=by
 funext b
 delta A6;simp
section
variable{K:v9}
def Kg.eB(S:DS K O q u D H E)(h:Kg K O u H o8 i3)(e:∀b,U b∈j1->U b∈u)(j:∀b,(match i3 with | .own _=>o8=U (U (.ref b)) | .ob _ _=>U b∈u|_=>False)->U b∉j1):cy K O j1 H o8 j6 (.dat i3.d):=by
 cases i3 with
 |dat d=>obtain⟨v,f,h⟩:=h;exact⟨v,f,h.same (aI (u9.refl _) e)⟩
 |own l =>
  obtain⟨a,n,f,g,m,h⟩:=h;exact⟨_,f,.lst (M8.of (E3.mpr ⟨S.nO g,j a f,m⟩)) (h.same (aI (u9.refl _) e))⟩
 |ob w c=>obtain⟨v,R,f,_,g,h⟩:=h;exact⟨_,f,h.dt (aI (u9.refl _) e) λb e σ z=>E3.mpr ⟨S.nO (g b e),j b (g b e),z⟩⟩
theorem DS.eB{O:List Addr}{D7:Hp}{H:Hp}{as:As}{σ:St}{ds:Ds}(S:DS K O D7 as σ H ds):DS K O D7 (D3 ds.length J) σ H (eB ds) where
 ls:=by simp[L2.eB,S.ls]
 same:=S.same
 new:=λa h=>absurd h mY
 eT:=S.eT
 iy:=⟨λ_=>[],λi b z=>absurd z B3,λi j b z=>absurd z B3,λi pv h=>by
  unfold L2.eB at h;rw[L1]at h;cases hd:ds[i]? with
  |none=>simp_all
  |some x =>
   cases x with
   |none=>simp_all
   |some w =>
    rw[hd]at h;cases h;exact(S.slot i w hd).eB S (λb z=>absurd z mY) (λa _=>mY)⟩
noncomputable def Ai(i:Nat)(ds:Ds):Ds:=match ds[i]? with
 |some (U (.own l))=>ds.set i (U (.dat (.list l)))
 |_=>ds
set_option tactic.hygienic true in
theorem DS.Ai(S:DS K O q u D H E)(i:Nat):∃n,DS K O q n D H (Ai i E):=by
 delta L2.Ai;split
 . rename_i l A;obtain⟨f,t,s,p⟩:=S.iy;refine⟨u.filter λx=>decide (∀b∈f i,x≠U b),?_⟩
   have sub:∀b,U b∈u.filter (λx=>decide (∀b∈f i,x≠U b))->U b∈u/\b∉f i:=λb z=>by obtain⟨y,F⟩:=List.mem_filter.mp z;exact⟨y,λσ=>oE F b σ rfl⟩
   have sm:u9 (A6 H u O) (A6 H (u.filter λx=>decide (∀b∈f i,x≠U b)) O):=aI (u9.refl _) λb z=>(sub b z).1;refine⟨by simp[S.ls],S.same,λa h=>S.new a (sub a h).1,S.eT,λj=>if j=i then[]else f j,λj b d=>?_,λj k b m g=>?_,λj pv h=>?_⟩;dsimp only at d;split at d;simp at d;rename_i v;exact List.mem_filter.mpr ⟨t j b d,fW λC σ e=>v (s j i b d (by cases e;exact σ))⟩;dsimp only at m g;split at m;simp at m;split at g;simp at g;exact s j k b m g;rw[ze]at h;by_cases c:i=j;subst c;rw[f9 rfl]at h;obtain⟨_,h⟩:=I0 h;cases h;obtain⟨a,G,w,r,B,h⟩:=p i _ A;exact⟨_,w,.lst (M8.of (E3.mpr ⟨S.nO (t i a r),λz=>(sub a z).2 r,B⟩)) (h.same sm)⟩;rw[f6 c]at h;dsimp only;rw[f6 (λz=>c z.symm)];exact(p j pv h).AG sm (λb _ o z=>z) λb z=>z
 exact⟨u,S⟩
end
noncomputable def nV(F:DV):DV:=λds=>F (eB ds)
def Zu(h:PX c Uf e G r):PX c U' e G (nV r):=⟨h.p,by
 intro O a g d H i pv Q S f q;refine h.t O a _ d H _ pv Q S.eB f λv X e F=>q v X e ?_
 exact F.less λb z=>by simp[ag]at z⟩
def a1k(K:v9)(O:List Addr)(Hb:Hp)(Jff:It)(items:List p9):Prop:=
 ∀H',u9 Hb H'->∀i,(i<items.length->Jff.go i H')/\(items.length<=i->Jff.stop i H') /\
  ∀x H'',Jff.Ub i H' x H''->i<items.length->u9 H' H''/\∃d,items[i]? = U d/\∀vb:As,(∀b,U b∈vb->Hb b=J/\∃o,H' b=U o)->(∀b∈O,∃o,Hb b=U o)->Dt K (A6 H'' vb O) x d
def TIX(K:v9)(fr:Bool)(wi:TI)(Fi:DL):Prop:=
 ∀(O:List Addr) (D7:Hp) (as:As) (σ:St) (H:Hp) (ds:Ds) (items:List p9) (R:It->Hp->Prop),DS K O D7 as σ H ds->Fi ds=U items->(∀Jff H1,u9 H H1->a1k K O (A6 H1 (ag fr as) []) Jff items->R Jff H1)->wi σ H R
structure gp(X:Cx)(fr:Bool)(tg e:Expr)(wi:TI)(Fi:DL):Prop where
 p:PI X tg e wi
 t:TIX X.K fr wi Fi
def a0G(K:v9)(tl:TE):TI:=λσ H R=>tl σ H λx H1=>∃a,x=.ref a/\(((∃xs,M8 K H1 a xs)/\R (Itl K a) H1)\/((∃xs,X9 K H1 a xs)/\R (Itt K a) H1))
def ZH(u:PE c o G):PI c e o (a0G c.K G):=by
 intro g s r H R I h;refine F1 (u g s r H _ I h) λv d ⟨x,j,X,k,t⟩=>?_;obtain⟨a,w,(⟨⟨y,hq⟩,q⟩|⟨⟨y,hq⟩,q⟩)⟩:=t
 . subst w;cases k;obtain⟨f,z,p,n⟩:=X.list hq;refine EV p.isList ?_;refine⟨d.heap.objs.size,[d.heap.objs.size],_,_,j,rfl,X.kept λb l w=>G0 _ w,Ky a _,⟨_,W6 _ rfl,rfl,rfl⟩,λb i=>?_,q⟩
   have w:b=d.heap.objs.size:=by simpa using i
   subst w;exact X.wK E7 (X.J1.fresh E7)
 . subst w;cases k;obtain⟨f,z,p,n⟩:=X.tuple hq;refine wpAny_pyIter_tuple (show d.heap.IsTuple a f.toArray from p) ?_;refine⟨d.heap.objs.size,[d.heap.objs.size],_,_,j,rfl,X.kept λb l w=>G0 _ w,Iv a _,⟨_,W6 _ rfl,rfl,rfl⟩,λb i=>?_,q⟩
   have w:b=d.heap.objs.size:=by simpa using i
   subst w;exact X.wK E7 (X.J1.fresh E7)
noncomputable def kO:p9->Option (List p9)
 | .list l=>U l
 | .tuple l=>U l
 |_=>J
noncomputable def J9(F:DV):DL:=λds=>(F ds).bind λpv=>kO pv.d
def qj(h:Dt g (A6 H u O) a2 g8)(e:u9 (A6 H u []) q)(k:u9 q e8)(j:∀b,U b∈j1->A6 H u [] b=J/\∃o,q b=U o):Dt g (A6 e8 j1 O) a2 g8:=
 h.same (fm λb o m l i=>by
  have f:A6 H u [] b=U o:=E3.mpr ⟨by simp,l,i⟩;refine⟨m,λz=>?_,k _ _ (e _ _ f)⟩
  simp_all)
def vp:u9 (A6 H u O) (A6 H u []):=fm λb o _ d c=>⟨by simp,d,c⟩
section
set_option tactic.hygienic true in
def WA{fr:Bool}(h:PX c fr e G r):gp c fr o e (a0G c.K G) (J9 r):=⟨ZH h.p,by
 intro O g p I H B w R S f q;obtain⟨pv,h1,f⟩:=r4 f;refine h.t O g p I H B pv _ S h1 λv D C M=>?_
 have d:=M.dt S.dm;generalize pv.d=z at d f;cases d with
 |lst n k =>
  rename_i a X l;cases f;have:=k.length;refine⟨a,rfl,.inl ⟨⟨X,C1.seq n⟩,q _ D C λE j i=>?_⟩⟩;have b:=j.seq (vp.seq n);refine⟨λm=>⟨X,X[i]'r9,b,L3 _⟩,λm=>⟨X,b,by simp[*]⟩,λx F y m=>?_⟩;obtain⟨u,y⟩:=y;subst u;obtain⟨d,t,A⟩:=k.get' (y X b);exact⟨u9.refl _,d,t,λL s _=>qj A j (u9.refl _) s⟩
 |tup n k =>
  rename_i a X l;cases f;have:=k.length;refine⟨a,rfl,.inr ⟨⟨X,C1.gr n⟩,q _ D C λE j i=>?_⟩⟩;have b:=j.gr (vp.gr n);refine⟨λm=>⟨X,X[i]'r9,b,L3 _⟩,λm=>⟨X,b,by simp[*]⟩,λx F y m=>?_⟩;obtain⟨u,y⟩:=y;subst u;obtain⟨d,t,A⟩:=k.get' (y X b);exact⟨u9.refl _,d,t,λL s _=>qj A j (u9.refl _) s⟩
 |_=>exact nE f⟩
def ax(lo:Int)(n:Nat):List p9:=(D0 n).map λk=>.int (lo+(k:Nat))
def MK:a1k g O H (Pq a1 m) (ax a1 m):=by
 intro K e i;have b:(ax a1 m).length=m:=by simp[ax]
 refine⟨λa=>(by rw[b]at a;exact a),λa=>(by rw[b]at a;exact a),λx d y a=>?_⟩;obtain⟨f,c⟩:=y;subst f;subst c;rw[b]at a;refine⟨u9.refl _,.int (a1+i),?_,λh _ _=>.int _⟩;simp[ax,oH a]
def O4:List p9->Option (List p9)
 | [.int j]=>@ite _ (-(4611686018427387904)<=j/\j<4611686018427387904) (zq _) (U (ax 0 j.toNat)) J
 |_=>J
def iX:List p9->Option (List p9)
 | [.int i,.int j]=>@ite _ ((-(4611686018427387904)<=i/\i<4611686018427387904)/\-(4611686018427387904)<=j/\j<4611686018427387904) (zq _) (U (ax i (j-i).toNat)) J
 |_=>J
noncomputable def F3(f:List p9->Option (List p9))(Fl:DL):DL:=λds=>(Fl ds).bind f
set_option tactic.hygienic true in
def IW(i:Gl c "range")(n:c.mg "range" = J)(a:dq c I [o] M P)(hs:autoParam (v7 [o] c.env=[(U',eval o c.env)]) t5):gp c I e (.Call (.Name "range" p) [o] [] A) (UM M) (F3 O4 P):=⟨LL i n a.p hs,by
 intro O X k m H f d R S b q;obtain⟨l,h1,b⟩:=r4 b;refine a.t O X k m H f l _ S h1 λv h s u=>?_;unfold O4 at b;split at b
 . rename_i j;split at b
   . rename_i g;cases b;cases u with
     |cons r t =>
      cases r;cases t;exact⟨j,rfl,g.1,g.2,q _ h s MK⟩
   exact nE b
 . exact nE b⟩
set_option tactic.hygienic true in
def IV(b:Gl c "range")(v:c.mg "range" = J)(k:dq c I [o,b7] M P)(hs:autoParam (v7 [o,b7] c.env=[(U',eval o c.env),(U',eval b7 c.env)]) t5)(h:autoParam (v7 [b7] c.env=[(U',eval b7 c.env)]) t5):gp c I e (.Call (.Name "range" p) [o,b7] [] A) (UL M) (F3 iX P):=⟨LK b v k.p hs h,by
 intro O d s u H m g R S X q;obtain⟨l,h1,X⟩:=r4 X;refine k.t O d s u H m l _ S h1 λy n w x=>?_;unfold iX at X;split at X
 . rename_i i j;split at X
   . rename_i a;cases X;cases x with
     |cons r f =>
      cases r;cases f with
      |cons r f =>
       cases r;cases f;exact⟨i,j,rfl,⟨a.1.1,a.1.2,a.2.1,a.2.2⟩,q _ n w MK⟩
   exact nE X
 . exact nE X⟩
def UK(K:v9)(ta:TA):TI:=λσ H R=>ta σ H λvs H1=>∃a b k1 k2,vs=[.ref a,.ref b]/\(∃xs,gm k1 K H1 a xs)/\(∃ys,gm k2 K H1 b ys)/\R (Itz k1 k2 K a b) H1
def WC(D:Gl c "zip")(F:c.mg "zip" = J)(t:PA c [e,o] M)(hs:autoParam (v7 [e,o] c.env=[(U',eval e c.env),(U',eval o c.env)]) t5)(i:autoParam (v7 [o] c.env=[(U',eval o c.env)]) t5):
  PI c (.Tuple Z m c5) (.Call (.Name "zip" p) [e,o] [] A) (UK c.K M):=by
 intro d s W H R I h;refine Call_ (gE I D F boot_zip (pG (F1 (t A d s W H _ I h) λz X ⟨L,l,g,O,E⟩=>?_) (by rw[hs,i]) (by rw[i];rfl)));obtain⟨x,y,Q,k2,a,⟨S,N⟩,⟨P,C⟩,q⟩:=E;subst a;obtain⟨u,v,a,G,B⟩:=vals2 O;subst a;cases G;cases B;obtain⟨z,K⟩:=g.bH N;obtain⟨L,w⟩:=g.bH C;refine Nv K w λk T n=>?_;refine EO T.hz ?_;have r:Inv c d W l {X with heap:=k}:=g.kept n;refine⟨(hz X)+4,_,_,_,l,rfl,r,PU (Px _),T,λo b=>?_,q⟩
 have j:o=(hz X)+4\/o=(hz X)+2\/o=(hz X)+3\/o=(hz X)\/o=(hz X)+1:=by simpa using b
 have f:(hz X)<=o:=by
  rcases j with a|a|a|a|a<;>rw[a]
  exact jI _ _;exact jI _ _;exact jI _ _;exact T6 _;exact jI _ _
 exact g.wK f (g.J1.fresh f)
def u9.bH(e:u9 H q)(h:gm I g H z N):gm I g q z N:=by
 cases I;exact e.seq h;exact e.gr h
def Dt.bH(h:Dt g H a2 g8)(hd:kO g8=U S):∃a e xs,a2=.ref a/\gm e g H a xs/\C8 g H xs S:=by
 cases h with
 |lst b c=>cases hd;exact⟨_,U',_,rfl,b,c⟩
 |tup b c=>cases hd;exact⟨_,Uf,_,rfl,b,c⟩
 |_=>exact nE hd
noncomputable def av:List p9->Option (List p9)
 | [d,e]=>(kO d).bind λl=>(kO e).bind λm=>U (gQ (λx y=>.tuple [x,y]) l m)
 |_=>J
set_option tactic.hygienic true in
def Wz(hg:Gl c "zip")(W:c.mg "zip" = J)(w:dq c I [e,o] M P)(hs:autoParam (v7 [e,o] c.env=[(U',eval e c.env),(U',eval o c.env)]) t5)(v:autoParam (v7 [o] c.env=[(U',eval o c.env)]) t5):
  gp c I (.Tuple Z m c5) (.Call (.Name "zip" p) [e,o] [] A) (UK c.K M) (F3 av P):=⟨WC hg W w.p hs v,by
 intro O j as V H D u R S X q;obtain⟨l,h1,X⟩:=r4 X;refine w.t O j as V H D l _ S h1 λvs Q N r1=>?_;unfold av at X;split at X
 . rename_i d1 T;obtain⟨l1,hl,X⟩:=r4 X;obtain⟨l2,hl2,X⟩:=r4 X;cases X;cases r1 with
   |cons r s =>
    cases s with
    |cons r' s =>
     cases s;obtain⟨e,k1,Fl,rfl,fr,E⟩:=r.bH hl;obtain⟨o,k2,h,rfl,B,C⟩:=r'.bH hl2;refine⟨e,o,k1,k2,rfl,⟨Fl,C1.bH fr⟩,⟨h,C1.bH B⟩,q _ Q N λH' g i=>?_⟩;have b:=g.bH (vp.bH fr);have f:=g.bH (vp.bH B);have:=E.length;have:=C.length;rw[Ov];refine⟨λF=>⟨Fl,h,Fl[i]'r9,h[i]'r9,b,f,L3 _,L3 _⟩,λF=>⟨Fl,h,b,f,by lia⟩,λx L y F=>?_⟩;obtain⟨pp,z1,d,x',y',z3,a⟩:=y;obtain⟨z5,G⟩:=a Fl h b f;subst z1;subst z3;obtain⟨dx,ex,ta⟩:=E.get' z5;obtain⟨K,t,hy⟩:=C.get' G;refine⟨u9.new d,.tuple [dx,K],by rw[OL,ex,t],λvb n Y=>?_⟩;refine .tup (X9.of (E3.mpr ⟨λz=>?_,λz=>?_,O3⟩)) (.cons (qj ta g (u9.new d) n) (.cons (qj hy g (u9.new d) n) .nil));obtain⟨k,z⟩:=Y _ z;rw[g _ _ z]at d;exact nS d;obtain⟨_,k,z⟩:=n _ z;rw[z]at d;exact nS d
 . exact nE X⟩
end
def ub(K:v9)(n:Nat)(g:TG)(gt:p9->Option (List p9)):Prop:=
 ∀(O:List Addr) (va:As) (H:Hp) (v:V) (d:p9) (σ:St) (bs:List p9) (Q:St->Hp->Prop),Dt K (A6 H va O) v d->gt d=U bs->(∀vs,C8 K (A6 H va O) vs bs->vs.length=n->Q (vs.map U++σ) H)->g v (D3 n J++σ) H Q
def A1:p9->Option (List p9):=λd=>U [d]
noncomputable def O6(n:Nat):p9->Option (List p9)
 | .tuple l=>if l.length=n then U l else J
 |_=>J
def Qd:ub g 1 (aJ 0) A1:=by intro O e H v d c bs Q a b q;cases b;exact q [v] (.cons a .nil) rfl
def a3z:∀{l:List d3},l.length=2->∃x y,l=[x,y]
 | [x,y],_=>⟨x,y,rfl⟩
set_option tactic.hygienic true in
def Qc:ub g 2 (Af g 2 (rH (aJ 0) (rH (aJ 1) JM))) (O6 2):=by
 intro O k H v d i bs Q h e q;cases h with
 |tup K c =>
  rename_i a j l;have b:=e;obtain⟨f,b⟩:=I0 b;rw[(V0 b)]at c f;obtain⟨x,y,rfl⟩:=a3z (c.length.trans f);exact⟨a,[x,y],rfl,C1.gr K,rfl,x,[y],rfl,y,[],rfl,rfl,q [x,y] c rfl⟩
 |_=>exact nE e
def S8(l:List p9):Ds:=l.map λd=>U (.dat d)
@[simp] theorem rQ:S8 []=[]:=rfl
@[simp] theorem pz(d:p9)(l:List p9):S8 (d::l)=sd d::S8 l:=rfl
def C8.slots(h:C8 g H N S)(e:(S8 S)[m]? = U (U i3)):∃d v,i3=.dat d/\N[m]? = U v/\Dt g H v d:=by
 unfold S8 at e;rw[L1]at e;cases hd:S[m]? with
 |none=>simp_all
 |some d =>
  rw[hd]at e;cases e;obtain⟨x,b,a⟩:=h.get hd;exact⟨d,x,rfl,b,a⟩
def Ac:A6 H (D3 m J++u) O=A6 H u O:=by
 funext b
 delta A6;simp
set_option tactic.hygienic true in
def DS.pre(l:DS g O q u D H E)(h:C8 g (A6 H u O) N S):
  DS g O q (D3 S.length J++u) (N.map U++D) H (S8 S++E) where
 ls:=by simp[S8,l.ls,h.length]
 same:=l.same
 new:=λa z=>l.new a ((List.mem_append.mp z).elim (λz=>absurd z mY) id)
 eT:=l.eT
 iy:=by
  obtain⟨m,s,k,p⟩:=l.iy;have n:=h.length;have r:(S8 S).length=S.length:=by simp[S8]
  refine⟨λi=>if i<S.length then[]else m (i-S.length),λi b z=>?_,λi j b f c=>?_,λi pv e=>?_⟩;dsimp only at z;split at z;simp at z;exact K6 _ (s _ b z)
  . dsimp only at f c;split at f;simp at f;split at c;simp at c;have:=k _ _ b f c;lia
  rw[OE]at e;split at e;rename_i K;obtain⟨d,v,rfl,f,c⟩:=h.slots e;refine⟨v,?_,by rw[Ac];exact c⟩;rw[fZ (by simp;simp_all),L1,f];rfl;rename_i K;rw[r]at K e;dsimp only;rw[f6 K,js (by simp;simp_all)];simp only[C5,n];exact(p _ pv e).AG (by rw[Ac];exact u9.refl _) (λb _ o z=>z) λb z=>z
noncomputable def P4(gt:p9->Option (List p9))(Fc:DB)(Fe:DV)(ds:Ds):List p9->Option (List p9)
 | []=>U []
 |x::r=>(gt x).bind λbs=>(Fc (S8 bs++ds)).bind λb=>if b=Uf then(Fe (S8 bs++ds)).bind λy=>(P4 gt Fc Fe ds r).bind λl=>U (y.d::l)else P4 gt Fc Fe ds r
noncomputable def y9(Fi:DL)(gt:p9->Option (List p9))(Fc:DB)(Fe:DV):DV:=λds=>(Fi ds).bind λitems=>if items.length<=1000000 then(P4 gt Fc Fe ds items).bind λl=>U (.own l)else J
structure pE(X:Cx)(ifs:List Expr)(t:TT)(F:DB):Prop where
 p:Au X ifs t
 t:sI X.K t F
noncomputable def z0:DB:=λ_=>U Uf
def LJ:pE c [] xl z0:=⟨wA,by intro O a d e H f b Q S X q;cases X;exact q H (u9.refl H)⟩
def LI(h:lG c e a8 a6):pE c [e] a8 a6:=⟨Rr h.p,h.t⟩
def zG{pos:Pos}(hc:c.calm=Uf)(B:jX c Q d6 d8)(hi:gp c Uf o b7 j4 P)(go:jN Q.length j5)(hg:∀cl C fp s H pins,PG (W8 c Q d6 d8 cl C fp s H pins) o j5)(T:ub c.K Q.length j5 l5)(ht:∀cl C fp s H pins,pE (W8 c Q d6 d8 cl C fp s H pins) Z a8 a6)(he:∀cl C fp s H pins,PX (W8 c Q d6 d8 cl C fp s H pins) Uf e G r)(hs:autoParam (∀x,ee b7 c.env x=pure x) W0):PX c Uf (.ListComp e [⟨o,b7,Z,0⟩] d8 pos) (gW Q j4 j5 a8 G) (y9 P l5 a6 r):=⟨Hi hc B hi.p go hg (λ_ _ _ _ _ _=>(ht _ _ _ _ _ _).p) (λ_ _ _ _ _ _=>(he _ _ _ _ _ _).p) hs,by
 intro O h v σ H n pv E S f q;obtain⟨a,h1,f⟩:=r4 f;obtain⟨hn,f⟩:=I0 f;obtain⟨l,h2,f⟩:=r4 f;cases f;refine hi.t O h v σ H n a _ S h1 λJff H1 N it=>?_;have S1:=S.grow N;refine⟨a.length,λi ys L=>i<=a.length/\u9 H1 L/\∃F M,C8 c.K (A6 L v O) ys F/\P4 l5 a6 r n (a.drop i)=U M/\F++M=l,oW hn,⟨gP _,u9.refl _,[],l,.nil,h2,rfl⟩,?_⟩;rintro i ys L ⟨hi',t,F,M,d1,X,I⟩;have S2:=S1.grow t;obtain⟨R,st',V⟩:=it L (C1.trans t) i;by_cases Y:i<a.length
 . refine .inr ⟨R Y,Y,λx m y=>?_⟩
   obtain⟨D,d,ed,dt⟩:=V x m y Y;have dx:=dt v (λb A=>⟨by delta A6;rw[f9 (.inr A)],let ⟨_,z⟩:=(S2.new b A).2;⟨_,z⟩⟩) λb A=>by
    obtain⟨j,z⟩:=S.eT b A;refine⟨j,E3.mpr ⟨by simp,λz2=>?_,S1.same _ _ z⟩⟩;rw[(S.new b z2).1]at z;exact nE z
   have g:a.drop i=d::a.drop (i+1):=by
    rw[rZ Y];have:a[i]=d:=by have z:=L3 Y;rw[ed]at z;exact(V0 z).symm
    rw[this]
   rw[g]at X;obtain⟨k,h3,X⟩:=r4 X;obtain⟨b,h4,X⟩:=r4 X;refine T O v m x d σ k _ dx h3 λvs dv lv=>?_;have W:=(S2.grow D).pre dv;refine((ht [] 0 [] c.V4 c.D7 []).t) O h _ _ m _ b _ W h4 λH5 w=>?_
   cases b with
   |false =>
    exact⟨Y,(t.trans D).trans w,F,M,d1.same (S5 (D.trans w)),X,I⟩
   |true =>
    obtain⟨yv,h5,X⟩:=r4 X;obtain⟨l3,h6,X⟩:=r4 X;cases X;refine((he [] 0 [] c.V4 c.D7 []).t) O h _ _ H5 _ yv _ (W.grow w) h5 λu H6 e6 r6=>?_
    have d7:Dt c.K (A6 H6 v O) u yv.d:=by have z:Dt c.K (A6 H6 (D3 k.length J++v) O) u yv.d:=(r6.dt (W.grow w).dm);rw[Ac]at z;exact z
    exact⟨Y,((t.trans D).trans w).trans e6,F++[yv.d],l3,(d1.same (S5 ((D.trans w).trans e6))).append (.cons d7 .nil),h6,by rw[<-I];simp⟩
 . have hi2:i=a.length:=by lia
   subst hi2;rw[za]at X;cases X;rw[bV]at I;subst I;exact .inl ⟨st' E7,λp hp=>q _ _ ((N.trans t).trans (u9.new hp)) (RX.back (nG hp d1) (N.trans t))⟩⟩
inductive Out where
 |next (ds:Ds)
 |ret (pv:PV)
 |brk (ds:Ds)
 |cont (ds:Ds)
 |up (x:p9)
 |retO (pv:PV) (ds:Ds)
abbrev DO:=Ds->Option Out
variable{a9:DO}
def a3I(K:v9)(O:List Addr)(H:Hp)(ea:Addr)(x:p9):Prop:=∃C dx fld v d,x=JQ C fld d/\uQ K C/\aY K (.ref C) fld=U J/\H ea=U (.ext (BL ea C (U dx)))/\H dx=U (.xd [(fld,v)])/\dx∉O/\Dt K (A6 H [] (ea::O)) v d
def zA(X:Cx)(O:List Addr)(D7:Hp)(D:Ends):Out->Prop
 | .next ds=>∀as σ H,DS X.K O D7 as σ H ds->D.nx σ H
 | .brk ds=>∀as σ H,DS X.K O D7 as σ H ds->D.bk σ H
 | .cont ds=>∀as σ H,DS X.K O D7 as σ H ds->D.ct σ H
 | .ret pv=>∀v H,u9 D7 H->RX X.K O [] D7 H v pv->D.rt v H
 | .up x=>∀ea H,u9 D7 H->D7 ea=J->a3I X.K O H ea x->∀pins σ s,Inv X pins σ H s->X.xe (.ref ea) s
 | .retO pv ds=>∀as σ Hm H v,DS X.K O D7 as σ Hm ds->u9 Hm H->RX X.K O as Hm H v pv->D.rt v H
def TSX(X:Cx)(t:TS)(G:DO):Prop:=
 ∀(O:List Addr) (D7:Hp) (as:As) (σ:St) (H:Hp) (ds:Ds) (D:Ends) (o:Out),DS X.K O D7 as σ H ds->G ds=U o->zA X O D7 D o->t D σ H
structure O1(X:Cx)(st:Stmt)(t:TS)(G:DO):Prop where
 p:PS X st t
 t:TSX X t G
structure mw(X:Cx)(st:List Stmt)(t:TS)(G:DO):Prop where
 p:pC X st t
 t:TSX X t G
noncomputable def K0:DO:=λds=>U (.next ds)
noncomputable def t7(G1 G2:DO):DO:=λds=>(G1 ds).bind λo=>match o with
 | .next ds'=>G2 ds'
 |o=>U o
section
def Rg:mw c [] Up K0:=⟨Wu,by intro O a X b H e D o S d q;cases d;exact q X b H S⟩
def Rc(h:O1 c j3 l7 a9):mw c [j3] l7 a9:=⟨Wt h.p,h.t⟩
set_option tactic.hygienic true in
def LA{u:TS}{G2:DO}(g:O1 c j3 l7 a9)(h:mw c n0 u G2):mw c (j3::n0) (Yz l7 u) (t7 a9 G2):=⟨Rh g.p h.p,by
 intro O X k j H i D o S a q;obtain⟨f,e1,a⟩:=r4 a;refine g.t O X k j H i {D with nx:=u D} f S e1 ?_
 cases f with
 |next b=>exact λd e l m=>h.t O X d e l b D o m a q
 |ret pv=>cases a;exact q
 |brk b=>cases a;exact q
 |cont b=>cases a;exact q
 |up x=>cases a;exact q
 |retO pv b=>cases a;exact q⟩
noncomputable def ya(i:Nat)(G:DO):DO:=λds=>G (Ai i ds)
def Ra(i:Nat)(h:O1 c j3 l7 a9):O1 c j3 l7 (ya i a9):=⟨h.p,by intro O a f X H g D o S e q;obtain⟨b,d⟩:=S.Ai i;exact h.t O a b X H _ D o d e q⟩
theorem DS.set(S:DS g O q u D H E)(i:Nat)(h:Dt g (A6 H u O) a2 g8):DS g O q u (D.set i (U a2)) H (E.set i (sd g8)):=by
 obtain⟨f,l,e,k⟩:=S.iy;refine⟨by simp[S.ls],S.same,S.new,S.eT,f,l,e,λj pv a=>?_⟩;by_cases b:i=j;subst b;rw[ze]at a;rw[f9 rfl]at a;obtain⟨K,a⟩:=I0 a;cases a;exact⟨a2,by rw[uI (by rw[S.ls];exact K)],h⟩;rw[hH b]at a;rw[hH b];exact k j pv a
def lA(h:u9 H q)(f:∀b∈j6,H b=J):u9 (A6 H u O) (A6 q (j6.map U++u) O):=fm λb o i g a=>⟨i,λz=>by
 rcases List.mem_append.mp z with z|z
 obtain⟨j,e,d⟩:=mem_map.mp z;cases d;rw[f b e]at a;exact nE a
 . exact g z,h _ _ a⟩
set_option tactic.hygienic true in
def DS.store(S:DS g O q u D H E)(t:u9 H e8)(i:Nat)(r:RX g O u H e8 a2 i3):∃n,DS g O q n (D.set i (U a2)) e8 (E.set i (U i3)):=by
 have v:=S.grow t;have Z:∀R:List Addr,(∀b∈R,H b=J)->(∀b∈R,∃B:Cl,e8 b=U B.1)->DS g O q (R.map U++u) D e8 E/\∀b∈R,q b=J/\U b∉u/\∃B:Cl,e8 b=U B.1:=λR p G=>by
  have X:∀b∈R,U b∉u:=λb e z=>by obtain⟨_,o,z⟩:=S.new b z;rw[p b e]at z;exact nE z
  have f:∀b∈R,q b=J/\U b∉u/\∃B:Cl,e8 b=U B.1:=λb e=>⟨S.same.free (p b e),X b e,G b e⟩;obtain⟨F,y,M,I⟩:=S.iy;refine⟨⟨S.ls,v.same,λb e=>?_,S.eT,F,λi b z=>K6 _ (y i b z),M,λj i3 K=>(I j i3 K).AG (lA t p) (λb _ o z=>t _ _ z) λb z=>z⟩,f⟩
  rcases List.mem_append.mp e with z|z
  obtain⟨b',A,W⟩:=mem_map.mp z;cases W;exact⟨(f b A).1,(f b A).2.2⟩;exact v.new b z
 have N:∀R:List Addr,(∀b∈R,H b=J)->(∀b∈R,∃B:Cl,e8 b=U B.1)->cy g O (R.map U++u) e8 (U (U a2)) R i3->∃n,DS g O q n (D.set i (U a2)) e8 (E.set i (U i3)):=λR p G Y=>by
  obtain⟨T,f⟩:=Z R p G;obtain⟨F,y,M,I⟩:=S.iy;refine⟨_,by simp[S.ls],v.same,T.new,S.eT,λj=>if j=i then R else F j,λj b e=>?_,λj k b x s=>?_,λj i3 K=>?_⟩;dsimp only at e;split at e;exact T9 _ (mem_map.mpr ⟨b,e,rfl⟩);exact K6 _ (y j b e);dsimp only at x s;split at x;split at s;rename_i A W;rw[A,W];exact absurd (y k b s) (f b x).2.1;split at s;exact absurd (y j b x) (f b s).2.1;exact M j k b x s;by_cases m:i=j;subst m;rw[ze]at K;rw[f9 rfl]at K;obtain⟨Q,K⟩:=I0 K;cases K;dsimp only;rw[f9 rfl,uI (by rw[S.ls];exact Q)];exact Y;rw[hH m]at K;dsimp only;rw[f6 (λz=>m z.symm),hH m];exact(I j i3 K).AG (lA t p) (λb _ o z=>t _ _ z) λb z=>z
 cases i3 with
 |dat d=>exact⟨_,v.set i r⟩
 |ob w c =>
  obtain⟨o,R,rfl,L,C,h⟩:=r;exact N R C h.at ⟨o,R,rfl,L,λb z=>z,h⟩
 |own l =>
  obtain⟨a,P,rfl,L,C,h⟩:=r;refine N [a] (λb e=>?_) (λb e=>?_) ⟨a,P,rfl,D1,C,h⟩;rw[mem_singleton.mp e];exact L;rw[mem_singleton.mp e];exact⟨Cl.l P,C⟩
noncomputable def S6(i:Nat)(F:DV):DO:=λds=>(F ds).bind λpv=>U (.next (ds.set i (U pv)))
noncomputable def u6(i:Nat)(F:DV):DO:=λds=>(F ds).bind λpv=>U (.next (ds.set i (U (.dat pv.d))))
def Wm(F:c.N.Nodup)(l:c.N[m]? = U y)(k:Loc c.env.scope y)(d:PX c Uf e G r)(hs:autoParam (bS e (U (.Name y A)) p.line c.env=pure U') t5)(n:autoParam (c.fn y=Uf\/c.env.scope.names.lookup y=U .local) di):
  O1 c (.Assign [.Name y A] e p) (iT G (aJ m)) (S6 m r):=⟨LB F l k d.p hs n,by
 intro O b j g H f D o S h q;obtain⟨pv,e1,h⟩:=r4 h;cases h;refine d.t O b j g H f pv _ S e1 λv w i s=>?_
 obtain⟨X,u⟩:=S.store i m s;exact q X _ _ u⟩
def QU(n:c.N.Nodup)(k:c.N[m]? = U y)(j:Loc c.env.scope y)(X:PX c Uf e G r)(hs:autoParam (bS e (U (.Name y A)) p.line c.env=pure U') t5)(i:autoParam (c.fn y=Uf\/c.env.scope.names.lookup y=U .local) di):
  O1 c (.Assign [.Name y A] e p) (iT G (aJ m)) (u6 m r):=⟨LB n k j X.p hs i,by
 intro O b g f H d D o S h q;obtain⟨pv,e1,h⟩:=r4 h;cases h;refine X.t O b g f H d pv _ S e1 λv s l F=>?_
 exact q _ _ _ ((S.grow l).set m (F.dt S.dm))⟩
def Dk(i j:Nat)(Fl:DL):DO:=λds=>(Fl ds).bind λl=>match l with
 | [a,b]=>U (.next ((ds.set i (U (.dat a))).set j (U (.dat b))))
 |_=>J
set_option tactic.hygienic true in
def Wo{pt:Pos}{kt k2 pt2}(F:c.calm=Uf)(C:c.N.Nodup)(a:c.N[m]? = U a0)(E:c.N[c8]? = U y)(f:m≠c8)(G:c.env.scope.names.lookup a0=U .local)(K:c.env.scope.names.lookup y=U .local)(n:dq c Uf [e,o] M P)(z:qM [.Tuple [.Name a0 A,.Name y c5] kt pt] (.Tuple [e,o] k2 pt2) c.env=pure (U [a0,y]))(hs:autoParam (qN [.Tuple [.Name a0 A,.Name y c5] kt pt] (.Tuple [e,o] k2 pt2) p.line c.env=pure U') t5):
  O1 c (.Assign [.Tuple [.Name a0 A,.Name y c5] kt pt] (.Tuple [e,o] k2 pt2) p) (YA m c8 M) (Dk m c8 P):=⟨ZC F C a E f G K n.p z hs,by
 intro O X w u H s D i S h q;obtain⟨l,e1,h⟩:=r4 h;refine n.t O X w u H s l _ S e1 λQ j B I=>?_;split at h
 . rename_i L x;cases h;cases I with
   |cons r d =>
    cases d with
    |cons v d =>
     cases d;exact⟨_,_,rfl,q _ _ _ (((S.grow B).set m r).set c8 v)⟩
 . exact nE h⟩
noncomputable def D4(F:DV):DO:=λds=>(F ds).bind λpv=>U (.ret pv)
def Hf{fr:Bool}(X:PX c fr e G r):O1 c (.Return (U e) p) (Qf G) (D4 r):=⟨LC X.p,by
 intro O a g f H d D o S h q;obtain⟨pv,e1,h⟩:=r4 h;cases h;refine X.t O a g f H d pv _ S e1 λv k i j=>?_
 exact q v k (S.same.trans i) ((j.back S.same).less λb z=>by simp at z)⟩
noncomputable def X4(i:Nat):DO:=λds=>match ds[i]? with
 |some (U pv)=>U (.ret pv)
 |_=>J
set_option tactic.hygienic true in
def QW(i:Nat)(h:PE c e (P7 i)):O1 c (.Return (U e) p) (Qf (P7 i)) (X4 i):=⟨LC h,by
 intro O j B A H E D o S h q;unfold X4 at h;split at h
 . rename_i pv n;cases h;have g:=S.slot i pv n;cases pv with
   |dat d =>
    obtain⟨v,f,h⟩:=g;exact⟨v,f,q v H S.same (Dt.same (aI (u9.refl _) λb z=>by simp at z) h)⟩
   |own l =>
    obtain⟨a,u,f,k,s,h⟩:=g;refine⟨_,f,q _ H S.same ⟨a,u,rfl,(S.new a k).1,s,h.same (aI (u9.refl _) λb z=>?_)⟩⟩
    simp_all
   |ob w X =>
    obtain⟨o,R,f,y,m,h⟩:=g;refine⟨_,f,q _ H S.same ⟨o,R,rfl,y,λb t=>(S.new b (m b t)).1,h.same (aI (u9.refl _) λb z=>?_) (λ_ _ _ z=>z)⟩⟩;rw[bV]at z;obtain⟨C,r,x⟩:=mem_map.mp z;cases x;exact m b r
 . exact nE h⟩
def a2b:DO:=λ_=>U (.ret (.dat .none))
noncomputable def P5(Ft:DB)(G1 G2:DO):DO:=λds=>(Ft ds).bind λb=>if b=Uf then G1 ds else G2 ds
def Zz{sb:List Stmt}{u:TS}{G2:DO}(g:lG c e a8 a6)(k:mw c n0 l7 a9)(i:mw c sb u G2):O1 c (.If e n0 sb p) (YF a8 l7 u) (P5 a6 a9 G2):=⟨a1M g.p k.p i.p,by
 intro O a f X H d D o S h q;obtain⟨b,e1,h⟩:=r4 h;refine g.t O a f X H d b _ S e1 λl j=>?_
 cases b with
 |true=>exact k.t O a f X l d D o (S.grow j) h q
 |false=>exact i.t O a f X l d D o (S.grow j) h q⟩
def a2c:DO:=λds=>U (.next ds)
def a0M:DO:=λds=>U (.brk ds)
def a2e:DO:=λds=>U (.cont ds)
noncomputable def tS:DO:=λ_=>J
def Ly:O1 c j3 KH tS:=⟨Rj,by exact λO a X b H d D o S h q=>nE h⟩
def a2d(F:DV):DO:=λds=>(F ds).bind λ_=>U (.next ds)
end
def DS.Bx{e:PV}{u:Cl}{c:Nat->List Addr}(S:DS g O q j1 D H E)(hd:E[m]? = U (U i3))(i:∀m b,b∈c m->U b∈j1)(n:∀m j b,b∈c m->b∈c j->m=j)(s:∀(m:Nat) (i3:PV),E[m]? = U (U i3)->cy g O j1 H D[m]? (c m) i3)(l:z∈c m)(r:u9 (A6 H j1 O) (A6 (upd H z u.1) j1 O)->cy g O j1 (upd H z u.1) D[m]? (c m) e):DS g O q j1 D (upd H z u.1) (E.set m (U e)):=by
 have sm:u9 (A6 H j1 O) (A6 (upd H z u.1) j1 O):=fm λb o t p v=>⟨t,p,by rw[J4 (λa=>p (by rw[a];exact i m z l))];exact v⟩;have f:=(List.getElem?_eq_some_iff.mp hd).1;refine⟨by simp[S.ls],λb o h=>?_,λb K=>⟨(S.new b K).1,?_⟩,S.eT,c,i,n,λj i3 k=>?_⟩;rw[J4 (λa=>?_)];exact S.same _ _ h;rw[a,(S.new z (i m z l)).1]at h;exact nE h;by_cases a:b=z;exact⟨u,by rw[a];exact O3⟩;obtain⟨_,o,h⟩:=S.new b K;exact⟨o,by rw[J4 a];exact h⟩;by_cases d:m=j;subst d;rw[uI f]at k;cases k;exact r sm;rw[hH d]at k;refine(s j i3 k).AG sm (λb K o a=>?_) λb a=>a;rw[J4 (λw=>d (n m j z l (by rw[<-w];exact K)))];exact a
def DS.turn{h:List p9}(l:DS g O q j1 D H E)(hd:E[m]? = U (U (.own S)))(f:D[m]? = U (U (.ref z)))(k:C8 g (A6 H j1 O) N h):
  DS g O q j1 D (upd H z (.lst N)) (E.set m (U (.own h))):=by obtain⟨n,b,j,K⟩:=l.iy;obtain⟨r,p,e,d,o,c⟩:=K m _ hd;rw[f]at e;cases e;exact l.Bx (u:=Cl.l N) hd b j K d λsm=>⟨z,N,f,d,O3,k.same sm⟩
noncomputable def dg(i:Nat)(F:DV):DO:=λds=>(F ds).bind λpv=>match ds[i]? with
 |some (U (.own l))=>if l.length<1000000 then U (.next (ds.set i (U (.own (l++[pv.d])))))else J
 |_=>J
section
set_option tactic.hygienic true in
def Ws (i:Nat) (C:PE c o (P7 i)) (w:PX c Uf e G r) (f:autoParam (v7 [e] c.env=(U',eval e c.env)::v7 [] c.env) t5) (X:autoParam (aL o "append" c.env (eval o c.env)=eval o c.env) t5) (j:autoParam (((F9 A (v7 [e] c.env)).all (λx=>!x.1)&&(bO A (dX [] c.env)).all (λx=>x.1.isSome)
   && decide ([e].length+([]:List aT).length+(if ([]:List aT).isEmpty then 0 else 1)<30))=Uf) t5)
  (d:autoParam ((c5.endLine==A.line)=Uf) t5) (b:autoParam ((F9 A (v7 [] c.env)).any (·.1)=U') t5)
  (hs:autoParam (bS (.Call (.Attribute o "append" c5) [e] [] A) J p.line c.env=pure U') t5) :
  O1 c (.Expr (.Call (.Attribute o "append" c5) [e] [] A) p) (uZ (GK c.K "list" zF (P7 i) (iS G nA))) (dg i r):=
 ⟨pZ (xD rh Pd Pc AJ C (iA w.p qb f) X j d f b) hs,by
 intro O g u n H z D o S h q;obtain⟨pv,e1,h⟩:=r4 h;split at h;rename_i l m;obtain⟨F,h⟩:=I0 h;cases h;obtain⟨a,K,t,E,s,y⟩:=S.slot i _ m;refine⟨_,t,.inl ⟨rfl,K,M8.of s⟩,?_⟩;refine w.t O g u n H z pv _ S e1 λv I k B=>?_;have:=y.length;refine⟨a,K,v,rfl,rfl,k _ _ s,M5 z9 (oW E7),q u n _ ?_⟩;exact(S.grow k).turn m t ((y.same (S5 k)).append (.cons (B.dt S.dm) .nil))
 . exact nE h⟩
end
def DS.rebase(S:DS g O q u D H E):DS g O (A6 H u []) u D H E where
 ls:=S.ls
 same:=C1
 new:=λa h=>⟨by delta A6;rw[f9 (.inr h)],(S.new a h).2⟩
 eT:=λa h=>by
  obtain⟨o,z⟩:=S.eT a h;refine⟨o,E3.mpr ⟨by simp,λK=>?_,S.same _ _ z⟩⟩;rw[(S.new a K).1]at z;exact nE z
 iy:=S.iy
def DS.pU(S:DS g O e8 u D H E)(e:u9 q e8)(hd:∀a∈O,∃o,q a=U o):DS g O q u D H E:=
 ⟨S.ls,e.trans S.same,λa h=>⟨e.free (S.new a h).1,(S.new a h).2⟩,hd,S.iy⟩
def DS.Yw(S:DS g O q u D H E):u9 q (A6 H u []):=λb o h=>by
 refine E3.mpr ⟨by simp,λK=>?_,S.same _ _ h⟩;rw[(S.new b K).1]at h;exact nE h
set_option tactic.hygienic true in
theorem zA.pU{X:Cx}{O:List Addr}{D7 Hb:Hp}{D:Ends}{o:Out}(h:zA X O D7 D o)(e:u9 D7 Hb)(hd:∀a∈O,∃u,D7 a=U u):zA X O Hb D o:=by
 cases o with
 |next d=>exact λc b H S=>h c b H (S.pU e hd)
 |brk d=>exact λc b H S=>h c b H (S.pU e hd)
 |cont d=>exact λc b H S=>h c b H (S.pU e hd)
 |ret pv=>exact λv H s r=>h v H (e.trans s) (r.back e)
 |up x=>exact λf H s n u=>h f H (e.trans s) (e.free n) u
 |retO pv d=>exact λc b g H v S s r=>h c b g H v (S.pU e hd) s r
def Ve(K:v9)(g:TG)(gt:p9->DD):Prop:=
 ∀(O:List Addr) (D7:Hp) (as:As) (σ:St) (H:Hp) (ds ds':Ds) (v:V) (d:p9) (Q:St->Hp->Prop),DS K O D7 as σ H ds->Dt K (A6 H as O) v d->gt d ds=U ds'->(∀as' σ',DS K O D7 as' σ' H ds'->Q σ' H)->g v σ H Q
def K5(i:Nat):p9->DD:=λd ds=>U (ds.set i (U (.dat d)))
def Qa:Ve g (aJ m) (K5 m):=by intro O a f c H K b v d Q S h e q;cases e;exact q _ _ (S.set m h)
def Kf(K:v9)(g:vU)(gt:List p9->DD):Prop:=
 ∀(O:List Addr) (D7:Hp) (as:As) (σ:St) (H:Hp) (ds ds':Ds) (vs:List V) (l:List p9) (Q:St->Hp->Prop),DS K O D7 as σ H ds->C8 K (A6 H as O) vs l->gt l ds=U ds'->(∀as' σ',DS K O D7 as' σ' H ds'->Q σ' H)->g vs σ H Q
def Y9:List p9->DD
 | [],ds=>U ds
 |_,_=>J
def C2(i:Nat)(r:List p9->DD):List p9->DD
 |d::l,ds=>r l (ds.set i (U (.dat d)))
 | [],_=>J
def Y8(n:Nat)(r:List p9->DD):p9->DD
 | .tuple l,ds=>if l.length=n then r l ds else J
 |_,_=>J
def Qb:Kf g JM Y9:=by
 intro O a d c H f b K l Q S h e q;cases h with
 |nil=>cases e;exact⟨rfl,q _ _ S⟩
 |cons _ _=>exact nE e
def KD(c:Kf g m8 p4):Kf g (rH (aJ m) m8) (C2 m p4):=by
 intro O a f d H j b k l Q S h e q;cases h with
 |nil=>exact nE e
 |cons h t =>
  exact⟨_,_,rfl,c O a _ _ H _ b _ _ Q (S.set m h) t e q⟩
set_option tactic.hygienic true in
def Vy(t:Kf g m8 p4):Ve g (Af g m m8) (Y8 m p4):=by
 intro O b p K H k ds' v d Q S h e q;cases h with
 |tup s i =>
  rename_i a j l;have f:=e;obtain⟨o,f⟩:=I0 f;exact⟨a,j,rfl,C1.gr s,by rw[i.length];exact o,t O b p K H k ds' j l Q S i f q⟩
 |_=>exact nE e
noncomputable def W7(gt:p9->DD)(G:DO):List p9->DO
 | [],ds=>U (.next ds)
 |x::r,ds=>(gt x ds).bind λds1=>(G ds1).bind λo=>match o with
  | .next ds2=>W7 gt G r ds2
  | .cont ds2=>W7 gt G r ds2
  | .brk ds2=>U (.next ds2)
  | .ret pv=>U (.ret pv)
  | .up x=>U (.up x)
  | .retO pv ds2=>U (.retO pv ds2)
noncomputable def G7(Fi:DL)(gt:p9->DD)(G:DO):DO:=λds=>(Fi ds).bind λitems=>W7 gt G items ds
section
set_option tactic.hygienic true in
def Wq(hp:ug (model c.prog c.w) c.A c.env c.xe)(hc:c.calm=Uf)(hi:gp c Uf e o j4 P)(hg:PG c e j5)(Z:Ve c.K j5 n6)(C:mw c n0 l7 a9)(hs:autoParam (∀x,ee o c.env x=pure x) W0):O1 c (.For e o n0 [] p) (Qh j4 j5 l7) (G7 P n6 a9):=⟨ZD hp hc hi.p hg C.p hs,by
 intro O M N σ H W D G S h q;obtain⟨a,e1,h⟩:=r4 h;refine hi.t O M N σ H W a _ S e1 λJff H1 s1 it=>?_;have S1:=S.grow s1;have L:=q.pU S1.Yw S.eT;refine⟨λi m l n=>i<=a.length/\m=a.length-i/\∃r k,DS c.K O (A6 H1 N []) r l n k/\W7 n6 a9 (a.drop i) k=U G,⟨_,gP _,rfl,N,W,S1.rebase,h⟩,?_⟩;rintro i m I H2 ⟨hi',em,s,E,B,X⟩;obtain⟨R,st',V⟩:=it H2 B.same i;by_cases g:i<a.length
 . have ed':=rZ g;rw[ed']at X;obtain⟨v,e3,X⟩:=r4 X;obtain⟨o4,e4,X⟩:=r4 X;refine .inr ⟨R g,λl n=>∃r k,DS c.K O (A6 H1 N []) r l n k/\W7 n6 a9 (a.drop (i+1)) k=U G,λl n z=>⟨a.length-(i+1),by lia,g,rfl,z⟩,λx n y=>?_⟩
   obtain⟨e5,d,ed,dt⟩:=V x n y g;have Q:a[i]=d:=by rw[L3 g]at ed;exact V0 ed
   rw[Q]at e3;refine Z O _ s I n E v x d _ (B.grow e5) (dt s (λb C=>⟨(B.new b C).1,let ⟨_,z⟩:=(B.new b C).2;⟨_,z⟩⟩) B.eT) e3 λY σ4 S4=>?_
   refine C.t O _ Y σ4 n v _ o4 S4 e4 ?_;cases o4 with
   |next j=>exact λf u t F=>⟨f,j,F,X⟩
   |cont j=>exact λf u t F=>⟨f,j,F,X⟩
   |brk j=>cases X;assumption
   |ret pv=>cases X;exact L
   |up x=>cases X;exact L
   |retO pv j=>cases X;exact L
 . have T:i=a.length:=by lia
   subst T;rw[za]at X;cases X;exact .inl ⟨st' E7,L s I H2 B⟩⟩
noncomputable def N2(Fc:DB)(G:DO):Nat->DO
 | 0,_=>J
 |n+1,ds=>(Fc ds).bind λb=>if b=Uf then(G ds).bind λo=>match o with
   | .next ds2=>N2 Fc G n ds2
   | .cont ds2=>N2 Fc G n ds2
   | .brk ds2=>U (.next ds2)
   | .ret pv=>U (.ret pv)
   | .up x=>U (.up x)
   | .retO pv ds2=>U (.retO pv ds2)
  else U (.next ds)
noncomputable def jh(μ:Ds->Nat)(Fc:DB)(G:DO):DO:=λds=>N2 Fc G (μ ds) ds
set_option tactic.hygienic true in
def Ls(μ:Ds->Nat)(P:ug (model c.prog c.w) c.A c.env c.xe)(C:lG c e a8 a6)(y:mw c n0 l7 a9):O1 c (.While e n0 [] p) (KG a8 l7) (jh μ a6 a9):=⟨Ri P C.p y.p,by
 intro O d M Q H N D o S h q;refine⟨λm i r=>∃k f,DS c.K O d k i r f/\N2 a6 a9 m f=U o,⟨_,M,N,S,h⟩,?_⟩
 rintro m j I ⟨l,g,s,a⟩;cases m with
 |zero=>exact nE a
 |succ m =>
  obtain⟨b,e1,a⟩:=r4 a;refine C.t O d l j I g b _ s e1 λF E=>?_
  cases b with
  |false =>
   cases a;exact q l j F (s.grow E)
  |true =>
   obtain⟨B,e4,a⟩:=r4 a;refine⟨λi r=>∃k f,DS c.K O d k i r f/\N2 a6 a9 m f=U o,λi r z=>⟨m,uC _,z⟩,?_⟩
   refine y.t O d l j F g _ B (s.grow E) e4 ?_;cases B with
   |next X=>exact λn u L v=>⟨n,X,v,a⟩
   |cont X=>exact λn u L v=>⟨n,X,v,a⟩
   |brk X=>cases a;exact q
   |ret pv=>cases a;exact q
   |up x=>cases a;exact q
   |retO pv X=>cases a;exact q⟩
end
def IZ:Out->Option PV
 | .ret pv=>U pv
 | .next _=>U (.dat .none)
 |_=>J
noncomputable def J3(n N:Nat)(G:DO):FV:=λl=>if l.length=n then(G (S8 l++D3 (N-n) J)).bind IZ else J
section
variable{w:E1}{K:v9}{mg:Str->Option t2}
theorem DS.start(c:∀a∈O,∃u,H a=U u)(h:C8 K (A6 H [] O) N S):DS K O H (D3 (S8 S++D3 (Q.length-S.length) J).length J) (start Q N) H (S8 S++D3 (Q.length-S.length) J):=by
 have d:DS K O H (D3 (Q.length-S.length) J) (D3 (Q.length-S.length) J) H (D3 (Q.length-S.length) J):=
  ⟨by simp,u9.refl H,λa z=>absurd z mY,c,λ_=>[],λi b z=>absurd z B3,λi j b z=>absurd z B3,λi pv z=>by have:=oJ z;simp[Om]at this⟩
 have e:(D3 (S8 S++D3 (Q.length-S.length) J).length J:As)=D3 S.length J++D3 (Q.length-S.length) J:=by
  congr 1
  simp[S8]
 rw[e];delta L2.start;rw[h.length];exact(d.pre (by rw[Xy];exact h))
set_option tactic.hygienic true in
def uN.okF (F:uN K y a0 j3 z d5) (S:kK Q d6 (M3 j3)) (R:d6.length<=Q.length) (d:∀(c:t2) (A:Z4) (outer:List Env) (s:v5) (H:Hp) (E:XK),N7 m (A.deeper (fq a0 (M3 j3) (hz s) z c)) ->
   ∃t,mw (pQ sS b5 w K mg a7 Q a0 (M3 j3) z c A outer s H E).AI (cj j3) t a9):bc b5 w K mg a7 sS (m+1) z d5 d6 (E9 K (J3 d6.length Q.length a9)):=by
 have D:∀j H b E,E9 K (J3 d6.length Q.length a9) j H b E->j.length=d6.length:=λj H b E h=>by obtain⟨O,n,pv,x,u,a,q⟩:=h;obtain⟨l,a⟩:=I0 a;rw[u.length];exact l
 refine F.ok S D λc A outer s H j b E B h=>?_
 obtain⟨O,n,pv,x,u,a,q⟩:=h;obtain⟨t,P⟩:=d c A outer s H E B;refine⟨t,P.p,?_⟩;obtain⟨l,a⟩:=I0 a;rw[<-l]at a;obtain⟨o,e1,a⟩:=r4 a;refine P.t O H _ (L2.start Q j) H _ _ o (DS.start x u) e1 ?_;cases o with
 |next e=>cases a;exact λM L i I=>q _ i I.same Dt.non
 |ret C=>cases a;assumption
 |brk e=>exact nE a
 |cont e=>exact nE a
 |up y=>exact nE a
 |retO pv e=>exact nE a
end
instance {m:Nat} {i:Int}:Decidable (Bt m i):=decidable_of_iff (i.natAbs<2 ^ m) ⟨λh=>⟨h⟩,λh=>h.lt⟩
instance {i j:Int}:Decidable (a1m i j):=by delta a1m;infer_instance
noncomputable def HK(g:Int->Int->p9):p9->p9->Option PV
 | .int i,.int j=>U (.dat (g i j))
 |_,_=>J
noncomputable def wI(C:Int->Int->Prop)[∀i j,Decidable (C i j)](g:Int->Int->p9):p9->p9->Option PV
 | .int i,.int j=>if C i j then U (.dat (g i j))else J
 |_,_=>J
section
variable{K:v9}
def tw(b:∀i j H,Dt K H (p5 i j) (p6 i j)):cQ K (mD p5) (HK p6):=by
 intro O h H x y d e pv Q D c f a q;cases c with
 |int i =>
  cases f with
  |int j =>
   cases a;exact⟨i,j,rfl,rfl,q _ H (u9.refl H) (b i j _)⟩
  |_=>exact nE a
 |_=>exact nE a
def xx{C c:Int->Int->Prop}[∀i j,Decidable (C i j)](k:∀i j,C i j->c i j)(f:∀i j H,Dt K H (p5 i j) (p6 i j)):cQ K (rI c p5) (wI C p6):=by
 intro O n H x y d e pv Q D h l b q;cases h with
 |int i =>
  cases l with
  |int j =>
   have a:=b;obtain⟨m,a⟩:=I0 a;cases a;exact⟨i,j,rfl,rfl,k i j m,q _ H (u9.refl H) (f i j _)⟩
  |_=>exact nE b
 |_=>exact nE b
def km:=HK λi j=>.int (i-j)
noncomputable def N4:=wI (λi j=>Bt 60000 i/\Bt 60000 j) λi j=>.int (i*j)
def ak:=wI (λ_ j=>j≠0/\Bt 8000 j) λi j=>.int (i.fdiv j)
def fc:=wI (λ_ j=>j≠0) λi j=>.int (i.fmod j)
def IC:=wI (λ_ j=>0<=j) λi j=>.int (i/2 ^ j.toNat)
def sD:=HK λi j=>.bool (decide (i<j))
def HE:=HK λi j=>.bool (decide (i<=j))
def xV:=HK λi j=>.bool (decide (j<i))
def xY:=HK λi j=>.bool (decide (j<=i))
def a1p:cQ K (mD λi j=>.int (i-j)) km:=tw λi j H=>.int _
def a1s:cQ K (rI (λi j=>Bt 60000 i/\Bt 60000 j) λi j=>.int (i*j)) N4:=xx (λ_ _ h=>h) λi j H=>.int _
def Yg:cQ K (rI (λ_ j=>j≠0/\Bt 8000 j) λi j=>.int (i.fdiv j)) ak:=xx (λ_ _ h=>h) λi j H=>.int _
def a1t:cQ K (rI (λ_ j=>j≠0) λi j=>.int (i.fmod j)) fc:=xx (λ_ _ h=>h) λi j H=>.int _
def a1q:cQ K (rI (λ_ j=>0<=j) λi j=>.int (i/2 ^ j.toNat)) IC:=xx (λ_ _ h=>h) λi j H=>.int _
def Pz:cQ K (mD λi j=>.bl (decide (i<j))) sD:=tw λi j H=>.bl _
def a3p:cQ K (mD λi j=>.bl (decide (i<=j))) HE:=tw λi j H=>.bl _
def a3r:cQ K (mD λi j=>.bl (decide (j<i))) xV:=tw λi j H=>.bl _
def Yf:cQ K (mD λi j=>.bl (decide (j<=i))) xY:=tw λi j H=>.bl _
def bX:p9->Option PV
 | .int i=>U (.dat (.int (-i)))
 |_=>J
def a1r:R1X K (rU λi=>.int (-i)) bX:=by
 intro O c H x d pv Q D b a q;cases b with
 |int i=>cases a;exact⟨i,rfl,q _ H (u9.refl H) (Dt.int _)⟩
 |_=>exact nE a
noncomputable def U4:p9->p9->Option PV
 | .str i,.str j=>U (.dat (.bool (decide (i=j))))
 |d,e=>if aX d=Uf/\aX e=Uf then U (.dat (.bool (Y0 d e)))else J
noncomputable def gx:p9->p9->Option PV
 | .str i,.str j=>U (.dat (.bool (!decide (i=j))))
 |d,e=>if aX d=Uf/\aX e=Uf then U (.dat (.bool (!PyData.eqv d e)))else J
def II(K:v9):R2:=λx y H Q=>rEq x y H Q\/∃d e,Dt K H x d/\Dt K H y e/\aX d=Uf/\aX e=Uf/\Q (.bl (Y0 d e)) H
def QB(K:v9):R2:=λx y H Q=>rNe x y H Q\/∃d e,Dt K H x d/\Dt K H y e/\aX d=Uf/\aX e=Uf/\Q (.bl (!PyData.eqv d e)) H
def LU(a:c.A.units+64<R3):U5 c (W5 .Eq) (II c.K):=a1V.or (a0b a)
def ZX(a:c.A.units+64<R3):U5 c (W5 .NotEq) (QB c.K):=a1S.or (ZY a)
set_option tactic.hygienic true in
def Yh:cQ K (II K) U4:=by
 intro O g H x y d e pv Q D b f a q;unfold U4 at a;split at a;cases a;cases b;cases f;rename_i i j;exact .inl ⟨rfl,q _ H (u9.refl H) (by rw[show decide (V.str i=V.str j)=decide (i=j) by simp];exact Dt.bl _)⟩;obtain⟨c,a⟩:=I0 a;cases a;exact .inr ⟨d,e,b.same C1,f.same C1,c.1,c.2,q _ H (u9.refl H) (Dt.bl _)⟩
set_option tactic.hygienic true in
def a3o:cQ K (QB K) gx:=by
 intro O g H x y d e pv Q D b f a q;unfold gx at a;split at a;cases a;cases b;cases f;rename_i i j;exact .inl ⟨rfl,q _ H (u9.refl H) (by rw[show decide (V.str i=V.str j)=decide (i=j) by simp];exact Dt.bl _)⟩;obtain⟨c,a⟩:=I0 a;cases a;exact .inr ⟨d,e,b.same C1,f.same C1,c.1,c.2,q _ H (u9.refl H) (Dt.bl _)⟩
def mZ:p9->Bool
 | .none=>Uf
 |_=>U'
def Dt.Hs(h:Dt K H a2 g8):decide (a2=.non)=mZ g8:=by cases h<;>rfl
def iG:p9->p9->Option PV
 |d,.none=>U (.dat (.bool (mZ d)))
 |_,_=>J
def fj:p9->p9->Option PV
 |d,.none=>U (.dat (.bool (!mZ d)))
 |_,_=>J
def Ye:cQ K (λx y H Q=>y=.non/\Q (.bl (decide (x=.non))) H) iG:=by
 intro O f H x y d e pv Q D b c a q;cases c with
 |non=>cases a;exact⟨rfl,q _ H (u9.refl H) (by rw[b.Hs];exact Dt.bl _)⟩
 |_=>exact nE a
def Vj:cQ K (λx y H Q=>y=.non/\Q (.bl (!decide (x=.non))) H) fj:=by
 intro O f H x y d e pv Q D b c a q;cases c with
 |non=>cases a;exact⟨rfl,q _ H (u9.refl H) (by rw[b.Hs];exact Dt.bl _)⟩
 |_=>exact nE a
noncomputable def D5(d:p9):p9->Option PV
 | .int i=>match d with
  | .list l=>(aS l i).bind λd=>U (.dat d)
  | .tuple l=>(aS l i).bind λd=>U (.dat d)
  | .str z=>if z.length<=1000000 then(aS z.cps.toList i).bind λc=>U (.dat (.str ⟨#[c]⟩))else J
  |_=>J
 |_=>J
theorem C8.aS{H:Hp}{xs:List V}{l:List p9}{i:Int}{d:p9}(h:C8 K H xs l)(e:L2.aS l i=U d):∃x,L2.aS xs i=U x/\Dt K H x d:=by
 unfold L2.aS at e ⊢;rw[h.length];cases hi:jd l.length i with
 |none=>simp_all
 |some j =>
  rw[hi]at e;exact h.get e
def a3q:cQ K (GY K) D5:=by
 intro O r H x y d e pv Q D p m f q;cases m with
 |int i=>cases p with
  |lst j n =>
   obtain⟨d,a,b⟩:=r4 f;cases b;obtain⟨v,h,k⟩:=n.aS a;exact .inl ⟨_,_,i,v,rfl,rfl,C1.seq j,h,q v H (u9.refl H) k⟩
  |tup j n =>
   obtain⟨d,a,b⟩:=r4 f;cases b;obtain⟨v,h,k⟩:=n.aS a;exact .inr (.inl ⟨_,_,i,v,rfl,rfl,C1.gr j,h,q v H (u9.refl H) k⟩)
  |str z =>
   obtain⟨o,b⟩:=I0 f;obtain⟨c,a,b⟩:=r4 b;cases b;exact .inr (.inr ⟨z,i,c,rfl,rfl,oW o,a,q _ H (u9.refl H) (Dt.str _)⟩)
  |_=>exact nE f
 |_=>exact nE f
end
def UB(K:v9):R2:=λx y H Q=>∃a b xs ys,x=.ref a/\y=.ref b/\X9 K H a xs/\X9 K H b ys/\xs.length+ys.length<=E6 /\
 (xs=[]->Q (.ref b) H)/\(xs≠[]->ys=[]->Q (.ref a) H)/\(xs≠[]->ys≠[]->∀p,H p=J->Q (.ref p) (upd H p (.tup (xs++ys))))
def UC(K:v9):R2:=λx y H Q=>∃a b xs ys,x=.ref a/\y=.ref b/\M8 K H a xs/\M8 K H b ys/\xs.length+ys.length<=E6/\∀p,H p=J->Q (.ref p) (upd H p (.lst (xs++ys)))
def WQ:U5 c (aA .Add) (UB c.K):=by
 intro X s q H x y v u Q I f l h;obtain⟨a,b,g,w,rfl,rfl,i,j,t,n,q2,B⟩:=h;by_cases d:g=[];subst d;cases f;cases l;obtain⟨A,o,z,_⟩:=I.tuple i;obtain⟨k,C,r,_⟩:=I.tuple j;exact XI z r (o.vi.mpr rfl) ⟨.ref b,H,I,rfl,n rfl⟩;exact WR X s q H (.ref a) (.ref b) v u Q I f l ⟨a,b,g,w,rfl,rfl,i,j,d,t,λe=>q2 d e,λe p m=>B d e p m⟩
def WT:U5 c (aA .Add) (UC c.K):=by
 intro w s V H x y v u Q I A P h;obtain⟨l,b,R,Y,rfl,rfl,G,B,W,q⟩:=h;cases A;cases P;obtain⟨X,r,L,S⟩:=I.list G;obtain⟨a,m,E,T⟩:=I.list B;obtain⟨⟨N,M,o,C⟩,t,D,n,O⟩:=L.isList;obtain⟨⟨p,f,g,i⟩,d,k,z,j⟩:=E.isList;subst D O k j;have e:X.toArray++a.toArray=(X++a).toArray:=by simp
 have:=r.length;have:=m.length;refine yL ⟨_,t,rfl⟩ ⟨_,d,rfl⟩ noFill_list_add seq_list_add PySem.F.slot_list_add PySem.F.entry_list_add (PySem.F.args_list_add_2 _ _) (list_addW l b X.toArray a.toArray n z M f C i (by simp;simp_all)) ⟨t,d,?_⟩;rw[e];exact⟨.ref _,_,I.a0r (r.append m) (by rw[au];subst_vars;assumption),rfl,q _ I.fresh⟩
def IK(K:v9):R2:=λx y H Q=>(mD λi j=>.int (i+j)) x y H Q\/(∃i j,x=.str i/\y=.str j/\i.length+j.length<=E6/\Q (.str (i++j)) H)\/UB K x y H Q\/UC K x y H Q
def WU:U5 c (aA .Add) (IK c.K):=a0c.or (Ja.or (WQ.or WT))
noncomputable def A9:p9->p9->Option PV
 | .int i,.int j=>U (.dat (.int (i+j)))
 | .str i,.str j=>if i.length+j.length<=1000000 then U (.dat (.str (i++j)))else J
 | .tuple l,.tuple m=>if l.length+m.length<=1000000 then U (.dat (.tuple (l++m)))else J
 | .list l,.list m=>if l.length+m.length<=1000000 then U (.own (l++m))else J
 |_,_=>J
set_option tactic.hygienic true in
def a1y:cQ g (IK g) A9:=by
 intro O A H x y d e pv Q D w r K q;cases w with
 |int i =>
  cases r with
  |int j=>cases K;exact .inl ⟨i,j,rfl,rfl,q _ H (u9.refl H) (Dt.int _)⟩
  |_=>exact nE K
 |str i =>
  cases r with
  |str j =>
   have c:=K;obtain⟨o,c⟩:=I0 c;cases c;exact .inr (.inl ⟨i,j,rfl,rfl,oW o,q _ H (u9.refl H) (Dt.str _)⟩)
  |_=>exact nE K
 |tup s k =>
  cases r with
  |tup h f =>
   rename_i a t l b u m;have c:=K;obtain⟨o,c⟩:=I0 c;cases c;refine .inr (.inr (.inl ⟨a,b,t,u,rfl,rfl,C1.gr s,C1.gr h,by rw[k.length,f.length];exact oW o,λe=>?_,λz v=>?_,λz v p n=>?_⟩));subst e;cases k;exact q _ H (u9.refl H) (Dt.tup h f);subst v;cases f;rw[bV]at q;exact q _ H (u9.refl H) (Dt.tup s k);exact q _ _ (u9.new n) (xt D n (k.append f))
  |_=>exact nE K
 |lst s k =>
  cases r with
  |lst h f =>
   rename_i a t l b u m;have c:=K;obtain⟨o,c⟩:=I0 c;cases c;exact .inr (.inr (.inr ⟨a,b,t,u,rfl,rfl,C1.seq s,C1.seq h,by rw[k.length,f.length];exact oW o,λp n=>q _ _ (u9.new n) (nG n (k.append f))⟩))
  |_=>exact nE K
 |_=>exact nE K
noncomputable def cutD(xs:List d3)(lo hi:Option Int):List d3:=(xs.drop (HT.N8 xs.length 0 lo)).take (HT.N8 xs.length xs.length hi-HT.N8 xs.length 0 lo)
def C8.cut(h:C8 g H N S)(lo a:Option Int):C8 g H (rR N lo a) (cutD S lo a):=by delta rR cutD;rw[h.length];exact(h.drop _).take _
def YZ(K:v9):V->Option Int->Option Int->Hp->VK->Prop:=λx lo hi H Q=>∃a xs,x=.ref a/\X9 K H a xs/\(rR xs lo hi=xs->Q (.ref a) H)/\∀p,H p=J->Q (.ref p) (upd H p (.tup (rR xs lo hi)))
def VF:vV c (YZ c.K):=by
 intro d s u H x v p q o j w Q I g m k l h;obtain⟨a,b,rfl,i,t,q2⟩:=h;by_cases e:HT.N8 b.length 0 o=0/\HT.N8 b.length b.length j=b.length
 . cases g;obtain⟨f,r,n,y⟩:=I.tuple i;have X:f.toArray.size=b.length:=by rw[V1];exact r.length.symm
   refine⟨"tuple",_,PyProof.Rows.slot_tuple_getitem.lookup,n.typeIs,?_⟩;refine Br n m k l (by rw[X];exact e) ⟨.ref a,H,I,rfl,t ?_⟩
   delta rR;simp_all
 exact YK d s u H (.ref a) v p q o j w Q I g m k l ⟨a,b,rfl,i,e,q2⟩
def Zb(K:v9):V->Option Int->Option Int->Hp->VK->Prop:=λx lo hi H Q=>YZ K x lo hi H Q\/Za K x lo hi H Q
def YL:vV c (Zb c.K):=VF.or VG
noncomputable def gC:p9->Option Int->Option Int->Option PV
 | .tuple l,lo,hi=>U (.dat (.tuple (cutD l lo hi)))
 | .list l,lo,hi=>U (.own (cutD l lo hi))
 |_,_,_=>J
def R3X(K:v9)(r:V->Option Int->Option Int->Hp->VK->Prop)(f:p9->Option Int->Option Int->Option PV):Prop:=
 ∀(O:List Addr) (va:As) (H:Hp) (x:V) (lo hi:Option Int) (d:p9) (pv:PV) (Q:VK),ri H va O->Dt K (A6 H va O) x d->f d lo hi=U pv->(∀v H',u9 H H'->RX K O va H H' v pv->Q v H')->r x lo hi H Q
def a3n:R3X g (Zb g) gC:=by
 intro O k H x h f d pv Q D j K q;cases j with
 |tup b c =>
  cases K;refine .inl ⟨_,_,rfl,C1.gr b,λe=>?_,λp a=>q _ _ (u9.new a) (xt D a (c.cut h f))⟩;have i:=c.cut h f;rw[e]at i;exact q _ H (u9.refl H) (Dt.tup b i)
 |lst b c =>
  cases K;exact .inr ⟨_,_,rfl,C1.seq b,λp a=>q _ _ (u9.new a) (nG a (c.cut h f))⟩
 |_=>exact nE K
def TOX(K:v9)(to:TO)(F:Ds->Option (Option Int)):Prop:=
 ∀(O:List Addr) (D7:Hp) (as:As) (σ:St) (H:Hp) (ds:Ds) (b:Option Int) (Q:Option Int->Hp->Prop),DS K O D7 as σ H ds->F ds=U b->(∀H',u9 H H'->Q b H')->to σ H Q
structure Vf(X:Cx)(e:Option Expr)(to:TO)(F:Ds->Option (Option Int)):Prop where
 p:PO X e to
 t:TOX X.K to F
noncomputable def dS:Ds->Option (Option Int):=λ_=>U J
def asI:p9->Option Int
 | .int i=>U i
 |_=>J
noncomputable def P9(F:DV):Ds->Option (Option Int):=λds=>(F ds).bind λpv=>(asI pv.d).bind λi=>U (U i)
def Rn:Vf c J GJ dS:=⟨Wx,by intro O a e f H d b Q S X q;cases X;exact q H (u9.refl H)⟩
def Rm{fr:Bool}(h:PX c fr e G r):Vf c (U e) (Um G) (P9 r):=⟨Ww h.p,by
 intro O X k l H f b Q S a q;obtain⟨pv,h1,a⟩:=r4 a;refine h.t O X k l H f pv _ S h1 λv g m j=>?_
 have d:=j.dt S.dm;generalize pv.d=z at d a;cases d with
 |int i=>cases a;exact⟨i,rfl,q g m⟩
 |_=>exact nE a⟩
noncomputable def eD(f:p9->Option Int->Option Int->Option PV)(F:DV)(Fl Fh:Ds->Option (Option Int)):DV:=λds=>(F ds).bind λx=>(Fl ds).bind λlo=>(Fh ds).bind λhi=>f x.d lo hi
def QG{r:V->Option Int->Option Int->Hp->VK->Prop}{f:p9->Option Int->Option Int->Option PV}{lo t:Option Expr}{z u:TO}{n o:Ds->Option (Option Int)}(N:vV c r)(C:R3X c.K r f)(s:PX c I e G d2)(y:Vf c lo z n)(B:Vf c t u o):
  PX c I (.Subscript e (.Slice lo t J p) A) (tSl r G z u) (eD f d2 n o):=⟨Rx N s.p y.p B.p,by
 intro O a k m H X pv Q S b q;unfold eD at b;cases h1:d2 X with
 |none=>simp_all
 |some x =>
  cases h2:n X with
  |none=>rw[h1,h2]at b;exact nE b
  |some l =>
   cases h3:o X with
   |none=>rw[h1,h2,h3]at b;exact nE b
   |some h =>
    rw[h1,h2,h3]at b;refine s.t O a k m H X x _ S h1 λv L g D=>?_;refine y.t O a k m L X l _ (S.grow g) h2 λM i=>?_;refine B.t O a k m M X h _ ((S.grow g).grow i) h3 λd j=>?_;refine C O (ag I k) d v l h x.d pv Q (((S.grow g).grow i).grow j).dm ((D.grow (i.trans j)).dt S.dm) b λw P E F=>?_
    exact q w P (((g.trans i).trans j).trans E) (F.back ((g.trans i).trans j))⟩
section
def d1(f:p9->Option PV):FV
 | [d]=>f d
 |_=>J
def qz.one(h:R1X g (λx=>m9 [x]) o9):qz g m9 (d1 o9):=by
 intro O c H K i pv Q D b a q;cases b with
 |nil=>exact nE a
 |cons e t =>
  cases t with
  |nil=>exact h O c H _ _ pv Q D e a q
  |cons _ _=>exact nE a
def QD(K:v9):List V->Hp->VK->Prop:=λxs H Q=>(∃p ys,xs=[.ref p]/\(M8 K H p ys\/X9 K H p ys)/\Q (.int ys.length) H)\/(∃z,xs=[.str z]/\z.length<=E6/\Q (.int z.length) H)
def Nx:br c (.builtin "len") (QD c.K):=DR.or DQ
noncomputable def E2:FV:=d1 fun
 | .list l=>U (.dat (.int (l.length:Nat)))
 | .tuple l=>U (.dat (.int (l.length:Nat)))
 | .str z=>if z.length<=1000000 then U (.dat (.int (z.length:Nat)))else J
 |_=>J
def C8.inv1(h:C8 g H N [g8]):∃x,N=[x]/\Dt g H x g8:=by
 cases h with
 |cons h t=>cases t;exact⟨_,rfl,h⟩
def a1v:qz g (QD g) E2:=.one λO K H x i pv Q D b a q=>by
 cases b with
 |lst c d=>cases a;exact .inl ⟨_,_,rfl,.inl (C1.seq c),q _ H (u9.refl H) (by rw[d.length];exact Dt.int _)⟩
 |tup c d=>cases a;exact .inl ⟨_,_,rfl,.inr (C1.gr c),q _ H (u9.refl H) (by rw[d.length];exact Dt.int _)⟩
 |str =>
  obtain⟨e,a⟩:=I0 a;cases a;exact .inr ⟨_,rfl,oW e,q _ H (u9.refl H) (Dt.int _)⟩
 |_=>exact nE a
noncomputable def og:FV:=d1 fun
 | .int i=>U (.dat (.int (if i<0 then -i else i)))
 |_=>J
def a1z:qz g (λxs H Q=>∃i,xs=[.int i]/\Q (.int (if i<0 then -i else i)) H) og:=.one λO c H x d pv Q D b a q=>by
 cases b with
 |int=>cases a;exact⟨_,rfl,q _ H (u9.refl H) (Dt.int _)⟩
 |_=>exact nE a
noncomputable def aV:FV:=d1 fun
 | .list l=>U (.dat (.tuple l))
 | .tuple l=>U (.dat (.tuple l))
 |_=>J
def Vi:qz g (λxs H Q=>∃p ys,xs=[.ref p]/\((M8 g H p ys/\∀l,H l=J->Q (.ref l) (upd H l (.tup ys)))\/(X9 g H p ys/\Q (.ref p) H))) aV:=.one λO f H x K pv Q D d a q=>by
 cases d with
 |lst b c=>cases a;exact⟨_,_,rfl,.inl ⟨C1.seq b,λp e=>q _ _ (u9.new e) (xt D e c)⟩⟩
 |tup b c=>cases a;exact⟨_,_,rfl,.inr ⟨C1.gr b,q _ H (u9.refl H) (Dt.tup b c)⟩⟩
 |_=>exact nE a
noncomputable def pe:FV:=d1 fun
 | .list l=>U (.own l)
 | .tuple l=>U (.own l)
 |_=>J
def Yd:qz g (λxs H Q=>∃p ys,xs=[.ref p]/\(M8 g H p ys\/X9 g H p ys)/\∀l,H l=J->Q (.ref l) (upd H l (.lst ys))) pe:=.one λO f H x K pv Q D e b q=>by
 cases e with
 |lst c d=>cases b;exact⟨_,_,rfl,.inl (C1.seq c),λp a=>q _ _ (u9.new a) (nG a d)⟩
 |tup c d=>cases b;exact⟨_,_,rfl,.inr (C1.gr c),λp a=>q _ _ (u9.new a) (nG a d)⟩
 |_=>exact nE b
def intD:FV
 | [.int i]=>U (.dat (.int i))
 | [.bool k]=>U (.dat (.int (if k then 1 else 0)))
 |_=>J
def a1w:qz g (λxs H Q=>(∃i,xs=[.int i]/\Q (.int i) H)\/∃k,xs=[.bl k]/\Q (.int (if k then 1 else 0)) H) intD:=by
 intro O c H xs d pv Q D b a q;unfold intD at a;split at a;cases a;obtain⟨x,rfl,h⟩:=b.inv1;cases h;exact .inl ⟨_,rfl,q _ H (u9.refl H) (Dt.int _)⟩;cases a;obtain⟨x,rfl,h⟩:=b.inv1;cases h;exact .inr ⟨_,rfl,q _ H (u9.refl H) (Dt.int _)⟩;exact nE a
def boolsOf:List p9->Option (List Bool)
 | []=>U []
 | .bool b::r=>(boolsOf r).bind λl=>U (b::l)
 |_=>J
def ua:FV
 | [.list l]=>(boolsOf l).bind λbs=>U (.dat (.bool (bs.all id)))
 |_=>J
theorem C8.bools{K:v9}{H:Hp}:∀{l:List p9} {xs:List V} {bs:List Bool},C8 K H xs l->boolsOf l=U bs->xs=bs.map V.bl
 | [],_,_,h,e=>by cases e;cases h;rfl
 |d::r,xs,bs,h,e=>by
  cases h with
  |cons h t =>
   cases h with
   |bl b =>
    have a:=e;obtain⟨l,h1,a⟩:=r4 a;cases a;rw[t.bools h1];rfl
   |_=>exact nE e
set_option tactic.hygienic true in
def a1x{A:Z4}(c:A.handled=J):qz g (λxs H Q=>∃(p:Addr) (bs:List Bool),xs=[.ref p]/\M8 g H p (bs.map V.bl)/\A.handled=J/\Q (.bl (bs.all id)) H) ua:=by
 intro O K H xs i pv Q D b a q;unfold ua at a;split at a
 . rename_i l;obtain⟨bs,h1,a⟩:=r4 a;cases a;obtain⟨x,rfl,h⟩:=b.inv1;cases h with
   |lst d f =>
    have e:=f.bools h1;subst e;exact⟨_,bs,rfl,C1.seq d,c,q _ H (u9.refl H) (Dt.bl _)⟩
 exact nE a
noncomputable def T4(n:String)(F:DV):DV:=λds=>(F ds).bind λx=>if BE x.d=Uf then J else U (.dat (.bool (Dg x.d n)))
set_option tactic.hygienic true in
def Wa(n:jj k8)(m:Gl c y)(C:c.mg y=J)(B:dZ y=U (.builtin "isinstance"))(h:PX c I e G r)(u:PE c o (tC (.ty k8)))(D:autoParam (y ≠ "__name__") F8)(i:autoParam ((y==("__debug__" : Str))=U') F8)(f:autoParam (v7 [e,o] c.env=(U',eval e c.env)::v7 [o] c.env) t5)(j:autoParam (v7 [o] c.env=(U',eval o c.env)::v7 [] c.env) t5)(g:autoParam ((F9 A (v7 [o] c.env)).any (·.1)=U') t5):
  PX c I (.Call (.Name y p) [e,o] [] A) (xm (λxs H Q=>∃y k8 d,xs=[y,.ty k8]/\Dt c.K H y d/\BE d=U'/\jj k8/\Q (.bl (Dg d k8)) H) (iS G (iS (tC (.ty k8)) nA))) (T4 k8 r):=
 ⟨Ct Tw m C B (iA h.p (iA u qb j) f) D i f g,by
 intro O b z F H l pv Q S a q;obtain⟨w,h1,a⟩:=r4 a;split at a;exact nE a
 . rename_i k;cases a;refine h.t O b z F H l w _ S h1 λv x s X=>?_
   exact⟨v,k8,w.d,rfl,(X.dt S.dm).same C1,by simpa using k,n,q _ x s (Dt.bl _)⟩⟩
end
abbrev a1E(K:v9):List V->Hp->VK->Prop:=λxs H Q=>∃p ys,xs=[.ref p]/\((M8 K H p ys/\∀l,H l=J->Q (.ref l) (upd H l (.tup ys)))\/(X9 K H p ys/\Q (.ref p) H))
abbrev Zd(K:v9):List V->Hp->VK->Prop:=λxs H Q=>∃p ys,xs=[.ref p]/\(M8 K H p ys\/X9 K H p ys)/\∀l,H l=J->Q (.ref l) (upd H l (.lst ys))
def IJ(K:v9):List V->Hp->VK->Prop:=λxs H Q=>∃(p:Addr) (bs:List Bool),xs=[.ref p]/\M8 K H p (bs.map V.bl)/\Q (.bl (bs.all id)) H
def Nz(d:c.A.handled=J):br c (.builtin "all") (IJ c.K):=λa s f H b X Q I r h=>by obtain⟨p,bs,e,g,q⟩:=h;exact Tx a s f H b X Q I r ⟨p,bs,e,g,d,q⟩
def Yi:qz g (IJ g) ua:=by intro O d H b f pv Q D a c q;obtain⟨p,bs,e,K,_,z⟩:=a1x (A:=lI) rfl O d H b f pv Q D a c q;exact⟨p,bs,e,K,z⟩
def QP(i:c.K=g)(G:bc c.prog c.w g c.mg c.base i6 m z d5 Q (E9 g i4))(n:N7 m c.A)(h:Gl c y)(r:c.mg y=U (.ref z))(o:gT g (.ref z)=Uf)(j:Binds g d5 Q [])(l:Passes i6 c d9)(q:dq c I (e::Z) M P)(a:autoParam ((y==("__debug__" : Str))=U') F8)(X:autoParam (v7 (e::Z) c.env=(U',eval e c.env)::v7 Z c.env) t5)(b:autoParam ((F9 A (v7 Z c.env)).any (·.1)=U') t5):
  PX c I (.Call (.Name y p) (e::Z) [] A) (ro (E9 g i4) [] d9 M) (q5 i4 P):=by subst i;exact Wc G n h r o j l q a X b
def a1F(K:v9):List V->Hp->VK->Prop:=λxs H Q=>∃x n d,xs=[x,.ty n]/\Dt K H x d/\BE d=U'/\jj n/\Q (.bl (Dg d n)) H
def nI(i:c.K=g)(j:jj k8)(X:Gl c y)(l:c.mg y=J)(k:dZ y=U (.builtin "isinstance"))(h:PX c I e G r)(m:PE c o (tC (.ty k8)))(F:autoParam (y ≠ "__name__") F8)(a:autoParam ((y==("__debug__" : Str))=U') F8)(d:autoParam (v7 [e,o] c.env=(U',eval e c.env)::v7 [o] c.env) t5)(f:autoParam (v7 [o] c.env=(U',eval o c.env)::v7 [] c.env) t5)(b:autoParam ((F9 A (v7 [o] c.env)).any (·.1)=U') t5):
  PX c I (.Call (.Name y p) [e,o] [] A) (xm (a1F g) (iS G (iS (tC (.ty k8)) nA))) (T4 k8 r):=by subst i;exact Wa j X l k h m F a d f b
def JO:jj "tuple":=.inl rfl
def MY:jj "list":=.inr (.inl rfl)
def MZ:jj "bool":=.inr (.inr (.inl rfl))
def SR:jj "int":=.inr (.inr (.inr (.inl rfl)))
def SQ:jj "str":=.inr (.inr (.inr (.inr rfl)))
noncomputable def xK(i:Nat)(ds:Ds):Nat:=match ds[i]? with
 |some (U (.dat (.int k)))=>k.natAbs+1
 |_=>0
def VE(h:M8 g H z N):M8 g (A6 H [] []) z N:=by assumption
def Tc:∀ns:List Int,C8 g H (ns.map V.int) (ns.map Z0):=by
 intro l_;induction l_ with
 |nil =>
  exact .nil
 |cons n r ih_ =>
  exact .cons (.int n) (ih_)
def XF(r:RX g [] [] H q a2 (.dat (.bool Uf))):a2=.bl Uf:=by cases r;rfl
def bH(o:Option Out)(G:DO):Option Out:=o.bind λo=>match o with
 | .next ds'=>G ds'
 |o=>U o
def A5(a G2:DO)(ds:Ds):t7 a G2 ds=bH (a ds) G2:=rfl
def y8(ds:Ds)(G:DO):bH (U (.next ds)) G=G ds:=rfl
def BY(pv:PV)(G:DO):bH (U (.ret pv)) G=U (.ret pv):=rfl
def Qt(ds:Ds)(G:DO):bH (U (.brk ds)) G=U (.brk ds):=rfl
def La(ds:Ds)(G:DO):bH (U (.cont ds)) G=U (.cont ds):=rfl
def TF(b:Bool):Il (.bool b)=U b:=rfl
def XQ(i:Int):asI (.int i)=U i:=rfl
def IE(l:List p9):kO (.list l)=U l:=rfl
def KZ(l:List p9):kO (.tuple l)=U l:=rfl
def RJ(pv:PV):IZ (.ret pv)=U pv:=rfl
def LQ(ds:Ds):IZ (.next ds)=sd .none:=rfl
noncomputable def a0v(o:Option PV)(i:Nat)(ds:Ds):Option Out:=o.bind λpv=>U (.next (ds.set i (U (.dat pv.d))))
def dV(i:Nat)(F:DV)(ds:Ds):u6 i F ds=a0v (F ds) i ds:=rfl
def tN(pv:PV)(i:Nat)(ds:Ds):a0v (U pv) i ds=U (.next (ds.set i (sd pv.d))):=rfl
def JC(o:Option PV)(i:Nat)(ds:Ds):Option Out:=o.bind λpv=>U (.next (ds.set i (U pv)))
def Ah(i:Nat)(F:DV)(ds:Ds):S6 i F ds=JC (F ds) i ds:=rfl
def MB(pv:PV)(i:Nat)(ds:Ds):JC (U pv) i ds=U (.next (ds.set i (U pv))):=rfl
noncomputable def DW(o:Option PV)(i:Nat)(ds:Ds):Option Out:=o.bind λpv=>match ds[i]? with
 |some (U (.own l))=>if l.length<1000000 then U (.next (ds.set i (U (.own (l++[pv.d])))))else J
 |_=>J
def fP(i:Nat)(F:DV)(ds:Ds):dg i F ds=DW (F ds) i ds:=rfl
def pB(pv:PV)(h:E[m]? = U (U (.own S)))(a:S.length<1000000):DW (U pv) m E=U (.next (E.set m (U (.own (S++[pv.d]))))):=by
 delta DW
 simp_all
abbrev iD(n:Int):Option PV:=U (.dat (.int n))
def a2z(x:d3)(l:List d3):aS (x::l) 0=U x:=by delta aS jd;rw[f9 f5,f9 B3];rfl
def dh{l:List d3}{n:Nat}(a:a1=(n:Int))(h:n<l.length):aS l a1=l[n]?:=by subst a;delta aS jd;rw[f9 z9,f9 z9];simp
def a2y(x y:d3)(l:List d3):aS (x::y::l) 1=U y:=dh rfl B3
def a2x(x y z:d3)(l:List d3):aS (x::y::z::l) 2=U z:=dh rfl B3
def a2w(x y z u:d3)(l:List d3):aS (x::y::z::u::l) 3=U u:=dh rfl B3
def a2v(x y z u v:d3)(l:List d3):aS (x::y::z::u::v::l) 4=U v:=dh rfl B3
def a2u(x y z u v w:d3)(l:List d3):aS (x::y::z::u::v::w::l) 5=U w:=dh rfl B3
def a2t(x y z u v w a:d3)(l:List d3):aS (x::y::z::u::v::w::a::l) 6=U a:=dh rfl B3
def TJ(i j:Int):A9 (.int i) (.int j)=sd (.int (i+j)):=rfl
def Qk(i j:Int):km (.int i) (.int j)=sd (.int (i-j)):=rfl
def C4(h:Bt 60000 a1)(k:Bt 60000 i0):N4 (.int a1) (.int i0)=sd (.int (a1*i0)):=by
 delta N4 wI
 simp_all
def L8(h:i0≠0)(k:Bt 8000 i0):ak (.int a1) (.int i0)=sd (.int (a1.fdiv i0)):=by
 delta ak wI
 simp_all
def cL(h:i0≠0):fc (.int a1) (.int i0)=sd (.int (a1.fmod i0)):=f9 h
def Qq(h:0<=i0):IC (.int a1) (.int i0)=sd (.int (a1/2 ^ i0.toNat)):=f9 h
def Xi(i j:Int):sD (.int i) (.int j)=sd (.bool (decide (i<j))):=rfl
def Xl(i j:Int):HE (.int i) (.int j)=sd (.bool (decide (i<=j))):=rfl
def Xz(i j:Int):xV (.int i) (.int j)=sd (.bool (decide (j<i))):=rfl
def XA(i j:Int):xY (.int i) (.int j)=sd (.bool (decide (j<=i))):=rfl
def nY(i j:Int):U4 (.int i) (.int j)=sd (.bool (decide (i=j))):=by rfl
def Se(i j:Int):gx (.int i) (.int j)=sd (.bool (!decide (i=j))):=by rfl
def SX(i j:Str):U4 (.str i) (.str j)=sd (.bool (decide (i=j))):=by rfl
def Sd(i j:Str):gx (.str i) (.str j)=sd (.bool (!decide (i=j))):=by rfl
def vm(l:List p9)(i:Int):D5 (.tuple l) (.int i)=(aS l i).bind λd=>sd d:=rfl
def Df(l:List p9)(i:Int):D5 (.list l) (.int i)=(aS l i).bind λd=>sd d:=rfl
def TK(i:Int):og [.int i]=sd (.int (if i<0 then -i else i)):=rfl
def Sb(i:Int):bX (.int i)=sd (.int (-i)):=rfl
def MC(l:List p9):E2 [.list l]=sd (.int (l.length:Nat)):=rfl
def Sq(l:List p9):E2 [.tuple l]=sd (.int (l.length:Nat)):=rfl
def KA(l:List p9):aV [.list l]=sd (.tuple l):=rfl
def PZ(l:List p9):aV [.tuple l]=sd (.tuple l):=rfl
def Jz(l:List p9):pe [.list l]=U (.own l):=rfl
def Mz(l:List p9):pe [.tuple l]=U (.own l):=rfl
def DY{m:List p9}(h:S.length+m.length<=1000000):A9 (.tuple S) (.tuple m)=sd (.tuple (S++m)):=f9 h
def NC{m:List p9}(h:S.length+m.length<=1000000):A9 (.list S) (.list m)=U (.own (S++m)):=f9 h
def TH(h:y.length+a0.length<=1000000):A9 (.str y) (.str a0)=sd (.str (y++a0)):=f9 h
def VH(l:List p9)(lo a:Option Int):gC (.tuple l) lo a=sd (.tuple (cutD l lo a)):=rfl
def Qo(l:List p9)(lo a:Option Int):gC (.list l) lo a=U (.own (cutD l lo a)):=rfl
def Sw(d:p9):iG d .none=sd (.bool (mZ d)):=rfl
def Gy(d:p9):fj d .none=sd (.bool (!mZ d)):=rfl
def bI(h : -(4611686018427387904)<=a1/\a1<4611686018427387904):O4 [.int a1]=U (ax 0 a1.toNat):=@if_pos _ (zq _) h _ _ _
def Cc(h:(-(4611686018427387904)<=a1/\a1<4611686018427387904)/\-(4611686018427387904)<=i0/\i0<4611686018427387904):iX [.int a1,.int i0]=U (ax a1 (i0-a1).toNat):=@if_pos _ (zq _) h _ _ _
def DJ{f:p9->p9}:∀{items:List p9},(∀x∈items,∃bs pv,l5 x=U bs/\r (S8 bs++E)=U pv/\pv.d=f x)->P4 l5 z0 r E items=U (items.map f):=by
 intro l_;induction l_ with
 |nil =>
  intro _;exact rfl
 |cons x d ih_ =>
  intro h;obtain⟨bs,pv,b,e,c⟩:=h x D1;unfold P4;rw[b];simp only[x5,z0];rw[e];rw[ih_ (λy a=>h y (C6 _ a))];simp[c]
def rV{f:Nat->p9}(h:∀i,i<m->∃pv,r (sd (.int (a1+(i:Nat)))::E)=U pv/\pv.d=f i):P4 A1 z0 r E (ax a1 m)=U ((D0 m).map f):=by
 have a:∀(l:List Nat),(∀i∈l,i<m)->P4 A1 z0 r E (l.map λk=>Z0 (a1+(k:Nat)))=U (l.map f):=by
  intro l;induction l with
  |nil=>intro _;rfl
  |cons i n o =>
   intro b;obtain⟨pv,g,c⟩:=h i (b i D1);rw[C7];unfold P4;simp only[A1,x5,z0,pz,rQ,aZ,bU];rw[g];rw[o (λj d=>b j (C6 _ d))];simp[c]
 exact a _ (λi e=>mem_range.mp e)
def nR{gt:p9->DD}{G:DO}{lo:Int}{n:Nat}(I:Nat->Ds->Prop){ds:Ds}(l:I 0 ds)(hs:∀i ds,i<n->I i ds->∃ds1 ds2,gt (.int (lo+(i:Nat))) ds=U ds1/\(G ds1=U (.next ds2)\/G ds1=U (.cont ds2))/\I (i+1) ds2):∃ds',W7 gt G (ax lo n) ds=U (.next ds')/\I n ds':=by
 have c:∀(k i) ds,i+k=n->I i ds->∃ds',W7 gt G ((List.range' i k).map λk=>Z0 (lo+(k:Nat))) ds=U (.next ds')/\I n ds':=by
  intro k;induction k with
  |zero =>
   intro i ds e b;have d:i=n:=by lia
   subst d;exact⟨ds,rfl,b⟩
  |succ k o =>
   intro i ds e b;obtain⟨ds1,ds2,h,a,g⟩:=hs i ds r9 b;rw[NW,C7];unfold W7;rw[h];simp only[x5];obtain⟨ds',j,f⟩:=o (i+1) ds2 r9 g;refine⟨ds',?_,f⟩;rcases a with a|a<;>rw[a]<;>exact j
 obtain⟨ds',m,d⟩:=c n 0 ds (qH _ _) l;refine⟨ds',?_,d⟩;unfold ax;rw[OC];exact m
def cM{gt:p9->DD}{G:DO}{items:List p9}(I:Nat->Ds->Prop){ds:Ds}(m:I 0 ds)(hs:∀i d ds,items[i]? = U d->I i ds->∃ds1 ds2,gt d ds=U ds1/\(G ds1=U (.next ds2)\/G ds1=U (.cont ds2))/\I (i+1) ds2):∃ds',W7 gt G items ds=U (.next ds')/\I items.length ds':=by
 have g:∀r i ds,items.drop i=r->i<=items.length->I i ds->∃ds',W7 gt G r ds=U (.next ds')/\I items.length ds':=by
  intro r;induction r with
  |nil =>
   intro i ds e n f;have:=List.drop_eq_nil_iff.mp e;have o:i=items.length:=by lia
   subst o;exact⟨ds,rfl,f⟩
  |cons x r p =>
   intro i ds e n f;have a:i<items.length:=by
    by_cases c:i<items.length;exact c;rw[FH (jF s9)]at e;cases e
   rw[rZ a]at e;injection e with ea eb
   obtain⟨ds1,ds2,j,b,h⟩:=hs i x ds (by rw[L3 a,ea]) f
   unfold W7;rw[j];simp only[x5];obtain⟨ds',k,l⟩:=p (i+1) ds2 eb s9 h;refine⟨ds',?_,l⟩;rcases b with b|b<;>rw[b]<;>exact k
 exact g items 0 ds rfl (gP _) m
def BM(h:a6 E=U U'):N2 a6 a9 (m+1) E=U (.next E):=by unfold N2;rw[h];rfl
def FZ{ds2:Ds}(h:a6 E=U Uf)(k:a9 E=U (.next ds2)):N2 a6 a9 (m+1) E=N2 a6 a9 m ds2:=by rw[N2,h];rw[k];rfl
def Ax{Fc:DB}{G:DO}(I:Ds->Prop)(μ:Ds->Nat)(hs:∀ds,I ds->Fc ds=U U'\/(Fc ds=U Uf/\∃ds2,G ds=U (.next ds2)/\I ds2/\μ ds2<μ ds)):
  ∀(n:Nat) (ds:Ds),I ds->μ ds<n->∃ds',N2 Fc G n ds=U (.next ds')/\I ds'/\Fc ds'=U U':=by
 intro n;induction n with
 |zero=>intro ds _ h;exact kS
 |succ n c =>
  intro ds a d;rcases hs ds a with h|⟨h,ds2,k,b,f⟩
  exact⟨ds,BM h,a,h⟩;obtain⟨ds',e,r⟩:=c ds2 b r9;exact⟨ds',by rw[FZ h k];exact e,r⟩
def Bt.pW(b : -4611686018427387904<a1)(c:a1<4611686018427387904)(a:autoParam (62<=m) F8):Bt m a1:=(Bt.small z9 z9).mono a
def Bt.lit(a:autoParam (-4611686018427387904<a1) F8)(c:autoParam (a1<4611686018427387904) F8)(b:autoParam (62<=m) F8):Bt m a1:=Bt.pW a c b
noncomputable def rG(i:Nat)(f:List p9->List p9):DO:=λds=>match ds[i]? with
 |some (U (.own l))=>U (.next (ds.set i (U (.own (f l)))))
 |_=>J
section
set_option tactic.hygienic true in
def Wn(i:Nat)(m:PE c o (P7 i))(b:autoParam (aL o "reverse" c.env (eval o c.env)=eval o c.env) t5)(X:autoParam ((c5.endLine==A.line)=Uf) t5)(hs:autoParam (bS (.Call (.Attribute o "reverse" c5) [] [] A) J p.line c.env=pure U') t5):
  O1 c (.Expr (.Call (.Attribute o "reverse" c5) [] [] A) p) (uZ (YG c.K "list" Cg (P7 i))) (rG i En):=
 ⟨pZ (ZR rh PySem.F.slot_list_reverse PySem.F.type_list_reverse Jq m b X) hs,by
 intro O e n k H r D o S h q;unfold rG at h;split at h;rename_i l g;cases h;obtain⟨a,j,f,s,d,t⟩:=S.slot i _ g;exact⟨_,f,.inl ⟨rfl,j,M8.of d⟩,a,j,rfl,rfl,d,q n k _ (S.turn g f t.reverse)⟩
 . exact nE h⟩
noncomputable def tT(i:Nat)(F:DV):DO:=λds=>(F ds).bind λpv=>match pv,ds[i]? with
 | .own m,U (U (.own l))=>if l.length+m.length<=1000000 then U (.next (ds.set i (U (.own (l++m)))))else J
 |_,_=>J
set_option tactic.hygienic true in
def Wr (i:Nat) (L:PE c o (P7 i)) (u:PX c Uf e G r) (j:autoParam (v7 [e] c.env=(U',eval e c.env)::v7 [] c.env) t5) (d:autoParam (aL o "extend" c.env (eval o c.env)=eval o c.env) t5) (k:autoParam (((F9 A (v7 [e] c.env)).all (λx=>!x.1)&&(bO A (dX [] c.env)).all (λx=>x.1.isSome)
   && decide ([e].length+([]:List aT).length+(if ([]:List aT).isEmpty then 0 else 1)<30))=Uf) t5)
  (f:autoParam ((c5.endLine==A.line)=Uf) t5) (X:autoParam ((F9 A (v7 [] c.env)).any (·.1)=U') t5)
  (hs:autoParam (bS (.Call (.Attribute o "extend" c5) [e] [] A) J p.line c.env=pure U') t5) :
  O1 c (.Expr (.Call (.Attribute o "extend" c5) [e] [] A) p) (uZ (GK c.K "list" Ha (P7 i) (iS G nA))) (tT i r):=
 ⟨pZ (xD rh PySem.F.slot_list_extend PySem.F.type_list_extend Mr L (iA u.p qb j) d k f j X) hs,by
 intro O g B s H y D o S h q;obtain⟨pv,e1,h⟩:=r4 h;split at h;rename_i m l F;obtain⟨R,h⟩:=I0 h;cases h;obtain⟨a,K,C,T,t,w⟩:=S.slot i _ F;refine⟨_,C,.inl ⟨rfl,K,M8.of t⟩,?_⟩;refine u.t O g B s H y _ _ S e1 λv P n I=>?_;obtain⟨b,N,rfl,Q,M,E⟩:=I;have:=w.length;have:=E.length;refine⟨a,b,K,N,rfl,rfl,n _ _ t,M,oW z9,q B s _ ?_⟩;exact(S.grow n).turn F C ((w.same (S5 n)).append (E.same (aI (u9.refl _) λb z=>C6 _ z)))
 . exact nE h⟩
noncomputable def cq(i:Nat)(Fk Fv:DV):DO:=λds=>(Fv ds).bind λpv=>(Fk ds).bind λk=>match k.d,ds[i]? with
 | .int k,U (U (.own l))=>(jd l.length k).bind λj=>U (.next (ds.set i (U (.own (l.set j pv.d)))))
 |_,_=>J
set_option tactic.hygienic true in
def QT (i:Nat) (Q:PE c o (P7 i)) (u:PX c Uf b7 b9 d2) (x:PX c Uf e G r) (N:autoParam (∀v,assign (.Subscript o b7 A) c.env v=(do
   let ov <- holding [v] (eval o c.env)
   let iv <- holding [v,ov] (eval b7 c.env)
   dw A
   holding [v,ov,iv] (setItem ov iv v)
   release [v,ov,iv] [])) W0)
  (hs:autoParam (qN [.Subscript o b7 A] e p.line c.env=pure U') t5) (P:autoParam (qM [.Subscript o b7 A] e c.env=pure J) t5)
  (R:autoParam ((jy [.Subscript o b7 A] c.env).map (·.2)=[assign (.Subscript o b7 A) c.env]) t5) :
  O1 c (.Assign [.Subscript o b7 A] e p) (iT G (JL (P7 i) b9 BB)) (cq i d2 r):=⟨Cn x.p (Cr Q u.p set_list N) hs P R,by
 intro O X k m H f D o S h q;unfold cq at h;cases e1:r f with
 |none=>rw[e1]at h;exact nE h
 |some pv =>
  cases e2:d2 f with
  |none=>rw[e1,e2]at h;exact nE h
  |some kv =>
   rw[e1,e2]at h;simp only[x5]at h;split at h;rename_i s l n C;obtain⟨j,e3,h⟩:=r4 h;cases h;refine x.t O X k m H f pv _ S e1 λv E I K=>?_;have d:=S.grow I;obtain⟨a,M,B,V,F,y⟩:=d.slot i _ C;refine⟨_,B,?_⟩;refine u.t O X k m E f kv _ d e2 λw T g L=>?_;have z:=L.dt d.dm;rw[n]at z;cases z;refine⟨a,M,s,j,rfl,rfl,g _ _ F,by rw[y.length];exact e3,q k m _ ?_⟩;exact(d.grow g).turn C B ((y.same (S5 g)).set j ((K.grow g).dt S.dm))
   . exact nE h⟩
end
noncomputable def a3C(i:Nat)(F:DV):DV:=λds=>match ds[i]? with
 |some (U (.dat d))=>(F ds).bind λk=>D5 d k.d
 |some (U (.own l))=>(F ds).bind λk=>D5 (.list l) k.d
 |_=>J
def a0S(i:Nat):DV:=λds=>match ds[i]? with
 |some (U (.dat d))=>pe [d]
 |some (U (.own l))=>pe [.list l]
 |_=>J
noncomputable def intsOf:List p9->Option (List Int)
 | []=>U []
 | .int i::r=>(intsOf r).bind λl=>U (i::l)
 |_=>J
noncomputable def sY:FV:=d1 fun
 | .list l=>(intsOf l).bind λis=>U (.dat (.int is.sum))
 |_=>J
noncomputable def X8:Int->List p9->List p9
 |_,[]=>[]
 |k,d::r=>.tuple [.int k,d]::X8 (k+1) r
noncomputable def cv:List p9->Option (List p9)
 | [d]=>(kO d).bind λl=>U (X8 0 l)
 |_=>J
def Tt(a b:Prop)[Decidable a][Decidable b]:(if a then U (PV.dat (.bool (decide b)))else U (PV.dat (.bool U')))=U (PV.dat (.bool (decide (a/\b)))):=by
 by_cases h:a;rw[f9 h];simp[h];rw[f6 h];simp[h]
def Sy(i:Int):intD [.int i]=sd (.int i):=rfl
def MM(b:Bool):intD [.bool b]=sd (.int (if b=Uf then 1 else 0)):=rfl
def KN(l:List p9):sY [.list l]=(intsOf l).bind λis=>sd (.int is.sum):=rfl
def Nh(d:p9):cv [d]=(kO d).bind λl=>U (X8 0 l):=rfl
def fo(pv:PV)(h:E[m]? = U (U (.own S)))(a:S.length<1000000):DW (U pv) m E=U (.next (E.set m (U (.own (S++[pv.d]))))):=pB pv h a
def Q9{ds1 ds2:Ds}(b:n6 g8 E=U ds1)(a:a9 ds1=U (.next ds2)):W7 n6 a9 (g8::S) E=W7 n6 a9 S ds2:=by
 rw[W7,b]
 simp_all
def comp_map{g f:d3->p9}:∀{l:List d3},(∀x∈l,∃pv,r (sd (g x)::E)=U pv/\pv.d=f x)->P4 A1 z0 r E (l.map g)=U (l.map f):=by
 intro l_;induction l_ with
 |nil =>
  intro _;exact rfl
 |cons x a ih_ =>
  intro h;obtain⟨pv,e,c⟩:=h x D1;rw[C7];unfold P4;simp only[A1,x5,z0,pz,rQ,aZ,bU];rw[e];rw[ih_ (λy b=>h y (C6 _ b))];simp[c]
def ints_map(f:d3->Int):∀l:List d3,intsOf (l.map λx=>.int (f x))=U (l.map f):=by
 intro l_;induction l_ with
 |nil =>
  exact rfl
 |cons x r ih_ =>
  rw[C7,intsOf,ih_];rfl
def hW(a:Gl c y)(h:c.mg y=U b6/\RelV a2 b6/\∀H,Dt c.K H a2 g8)(hd:autoParam ((y==("__debug__" : Str))=U') F8):PX c I (.Name y p) (tC a2) (fC g8):=
 Cj (WG a h.1 h.2.1 hd) h.2.2
def To(c:g.lookup z=U ⟨.type "tuple",j8,.seq b8 m,o3⟩)(hz:b8.size<=1000)(r:Vals N b8.toList)(hd:∀H,C8 g H N S)(H:Hp):Dt g H (.ref z) (.tuple S):=
 .tup (.inr ⟨_,b8,m,c,rfl,rfl,B6 hz (by rw[qE];decide),r⟩) (hd H)
theorem rk:∀{ns:List Int} {us:List t2},Vals (ns.map V.int) us->du us ns
 | [],_,.nil=>.nil
 |n::r,_,.cons h t=>by obtain⟨k,rfl⟩:=h;exact .cons n k (rk t)
def IG(K:v9):List V->Hp->VK->Prop:=λxs H Q=>∃(p:Addr) (ns:List Int),xs=[.ref p]/\M8 K H p (ns.map V.int)/\Q (.int ns.sum) H
def Nw(f:c.A.handled=J):br c (.builtin "sum") (IG c.K):=by
 intro d s t H z v Q I r h;obtain⟨p,a,rfl,hq,q⟩:=h;obtain⟨u,rfl,g⟩:=vals1 r;cases g;obtain⟨i,n,k,x⟩:=I.list hq;have X:=rk n;obtain⟨j,e⟩:=X.allInts.items;have b:=k.isList;rw[e]at b;have o:j.toList.map (·.1)=a:=by rw[<-nums_intItems,<-e];exact X.numsOf
 refine sum_intListG f b λy w l m=>?_;rw[preSum_eq,FG B3,o];exact⟨.int a.sum,H,I.kept m,⟨l,rfl⟩,q⟩
def C8.ints:∀{xs:List V} {is:List Int},C8 g H xs S->intsOf S=U is->xs=is.map V.int:=by
 induction S with
 |nil=>intro _ _ h e;cases h;cases e;rfl
 |cons d S i =>
  intro _ _ h e;cases h with
  |cons h t =>
  cases h with
  |int =>
   obtain⟨a,b,e⟩:=r4 e;cases e;rw[i t b];rfl
  |_=>exact nE e
def Yb:qz g (IG g) sY:=.one λO m H x k pv Q D K b q=>by
 cases K with
 |lst d h =>
  obtain⟨c,e,b⟩:=r4 b;cases b;cases h.ints e;exact⟨_,c,rfl,C1.seq d,q _ H (u9.refl H) (Dt.int _)⟩
 |_=>exact nE b
def Lw{pos:Pos}(x:c.N.Nodup)(b:c.N[m]? = U y)(w:Loc c.env.scope y)(f:c.calm=Uf)(B:jX c Q d6 d8)(j:gp c Uf o b7 j4 P)(g:jN Q.length j5)(k:∀cl C fp s H pins,PG (W8 c Q d6 d8 cl C fp s H pins) o j5)(d:ub c.K Q.length j5 l5)(I:∀cl C fp s H pins,pE (W8 c Q d6 d8 cl C fp s H pins) Z a8 a6)(l:∀cl C fp s H pins,PX (W8 c Q d6 d8 cl C fp s H pins) Uf e G r)(X:autoParam (bS (.ListComp e [⟨o,b7,Z,0⟩] d8 p) (U (.Name y A)) pos.line c.env=pure Uf) t5)(K:autoParam (c.fn y=Uf\/c.env.scope.names.lookup y=U .local) di)(hs:autoParam (∀y,ee b7 c.env y=pure y) W0):O1 c (.Assign [.Name y A] (.ListComp e [⟨o,b7,Z,0⟩] d8 p) pos) (iT (gW Q j4 j5 a8 G) (aJ m)) (u6 m (y9 P l5 a6 r)):=
 ⟨zH x b w f B j.p g k (λ_ _ _ _ _ _=>(I _ _ _ _ _ _).p) (λ_ _ _ _ _ _=>(l _ _ _ _ _ _).p) X K hs,by
 intro O a E t H n D i S h q;obtain⟨pv,e1,h⟩:=r4 h;cases h;refine((zG (pos:=p) f B j g k d I l hs).t) O a E t H n pv _ S e1 λv F u z=>?_
 exact q _ _ _ ((S.grow u).set m (z.dt S.dm))⟩
def Lv{pos:Pos}(F:c.N.Nodup)(b:c.N[m]? = U y)(M:Loc c.env.scope y)(f:c.calm=Uf)(B:jX c Q d6 d8)(j:gp c Uf o b7 j4 P)(g:jN Q.length j5)(k:∀cl C fp s H pins,PG (W8 c Q d6 d8 cl C fp s H pins) o j5)(d:ub c.K Q.length j5 l5)(L:∀cl C fp s H pins,pE (W8 c Q d6 d8 cl C fp s H pins) Z a8 a6)(l:∀cl C fp s H pins,PX (W8 c Q d6 d8 cl C fp s H pins) Uf e G r)(X:autoParam (bS (.ListComp e [⟨o,b7,Z,0⟩] d8 p) (U (.Name y A)) pos.line c.env=pure Uf) t5)(z:autoParam (c.fn y=Uf\/c.env.scope.names.lookup y=U .local) di)(hs:autoParam (∀y,ee b7 c.env y=pure y) W0):O1 c (.Assign [.Name y A] (.ListComp e [⟨o,b7,Z,0⟩] d8 p) pos) (iT (gW Q j4 j5 a8 G) (aJ m)) (S6 m (y9 P l5 a6 r)):=
 ⟨zH F b M f B j.p g k (λ_ _ _ _ _ _=>(L _ _ _ _ _ _).p) (λ_ _ _ _ _ _=>(l _ _ _ _ _ _).p) X z hs,by
 intro O a t K H n D i S h q;obtain⟨pv,e1,h⟩:=r4 h;cases h;refine((zG (pos:=p) f B j g k d L l hs).t) O a t K H n pv _ S e1 λv I w x=>?_
 obtain⟨E,u⟩:=S.store w m x;exact q _ _ _ u⟩
mutual
def LF:p9->Bool
 | .none=>Uf
 | .bool _=>Uf
 | .int _=>Uf
 | .str _=>Uf
 | .tuple l=>lH l
 | .dict [(.list _,.none)]=>Uf
 |_=>U'
def lH:List p9->Bool
 | []=>Uf
 |d::r=>LF d&&lH r
end
def VO(e:∀b o,H b=U o->¬Cell o->q b=U o)(h:X9 g H z N):X9 g q z N:=by
 rcases h with (h|⟨o,h⟩)|h
 exact .inl (.inl (e _ _ h (λK=>by rcases K with ⟨_,K⟩|⟨_,K⟩|⟨_,_,_,K⟩<;>cases K)));exact .inl (.inr ⟨o,e _ _ h (λK=>by rcases K with ⟨_,K⟩|⟨_,K⟩|⟨_,_,_,K⟩<;>cases K)⟩);exact .inr h
mutual
theorem Dt.lf{K:v9}{H H':Hp}(e:∀b o,H b=U o->¬Cell o->H' b=U o){x:V}{d:p9}(h:Dt K H x d)(f:LF d=Uf):Dt K H' x d:=by
 cases h with
 |non=>exact .non
 |bl b=>exact .bl b
 |int i=>exact .int i
 |str y=>exact .str y
 |tup a c=>exact .tup (VO e a) (C8.lf e c s9)
 |lst a c=>exact nT f
 |exc _ _ _ _ _=>exact nT f
 |fn _=>exact nT f
 |ins _ _ _ _=>exact nT f
 |dct _ _ _=>exact nT f
 |key h=>exact .key (e _ _ h (λz=>by rcases z with ⟨_,z⟩|⟨_,z⟩|⟨_,_,_,z⟩<;>cases z))
 |dtt _ _ _ _=>exact nT f
theorem C8.lf{K:v9}{H H':Hp}(e:∀b o,H b=U o->¬Cell o->H' b=U o){xs:List V}{ds:List p9}(h:C8 K H xs ds)(f:lH ds=Uf):C8 K H' xs ds:=by
 cases h with
 |nil=>exact .nil
 |cons a t =>
  rw[lH,qV]at f;exact .cons (Dt.lf e a f.1) (C8.lf e t f.2)
end
def Lj(K:v9):V->List V->Hp->VK->Prop:=λx vs H Q=>∃(p:Addr) (ns:List Int) (k:Int),x=.ref p/\vs=[.int k]/\M8 K H p (ns.map V.int)/\k∈ns/\ns.length<=1000000/\Q (.int (ns.idxOf k:Nat)) H
def Sg:Vh c "list.index" (Lj c.K):=by
 intro m s P H x M v O Q I z e h;obtain⟨p,l,k,rfl,rfl,hq,G,N,q⟩:=h;cases z;obtain⟨u,rfl,E⟩:=vals1 e;obtain⟨t,rfl⟩:=E;obtain⟨a,e,D,_⟩:=I.list hq;have X:=rk e;obtain⟨⟨B,A,o,w⟩,i,C,n,L⟩:=id D.isList;subst C L;have:=X.length;have d:=(List.idxOf_lt_length_iff).2 G;refine lM zp ⟨_,i,rfl⟩ Pa (Pe _ _)
  (OZ p a.toArray n A w (.int k t) (isInt k) (l.idxOf k) (by simp_all) r9 ?_ ?_) ⟨i,λy r=>(eq_isInt k t X y (by simpa using r)).at _ _,?_⟩
 show isInt k a[l.idxOf k]=Uf;rw[isInt_at k X _ z9 d];simp;intro j g f;show isInt k a[j]=U';rw[isInt_at k X j O7 (qI s9 s9)];exact ne_of_lt_idxOf f _;exact⟨.int _,H,I.tok _,⟨_,rfl⟩,q⟩
noncomputable def xS:p9->FV
 | .list l,[.int k]=>(intsOf l).bind λns=>if k∈ns/\ns.length<=1000000 then U (.dat (.int (ns.idxOf k:Nat)))else J
 |_,_=>J
noncomputable def rK(f:p9->FV)(Fo:DV)(Fl:DL):DV:=λds=>(Fo ds).bind λo=>(Fl ds).bind λl=>f o.d l
set_option tactic.hygienic true in
def QJ (w:PX c I o G r) (C:dq c I [e] M P) (h:autoParam (aL o "index" c.env (eval o c.env)=eval o c.env) t5) (m:autoParam (((F9 A (v7 [e] c.env)).all (λx=>!x.1)&&(bO A (dX [] c.env)).all (λx=>x.1.isSome)
   && decide ([e].length+([]:List aT).length+(if ([]:List aT).isEmpty then 0 else 1)<30))=Uf) t5)
  (i:autoParam ((p.endLine==A.line)=Uf) t5) (hs:autoParam (v7 [e] c.env=(U',eval e c.env)::v7 [] c.env) t5) (X:autoParam ((F9 A (v7 [] c.env)).any (·.1)=U') t5) :
  PX c I (.Call (.Attribute o "index" p) [e] [] A) (GK c.K "list" (Lj c.K) G M) (rK xS r P):=
 ⟨xD rh zp OW Sg w.p C.p h m i hs X,by
 intro O f D d H n pv Q S b q;unfold rK at b;cases h1:r n with
 |none=>rw[h1]at b;exact nE b
 |some x =>
  cases h2:P n with
  |none=>rw[h1,h2]at b;exact nE b
  |some l =>
   rw[h1,h2]at b;simp only[x5]at b;refine w.t O f D d H n x _ S h1 λv W u V=>?_;have B:=V.dt S.dm;generalize x.d=Z at b B;unfold xS at b;split at b
   . rename_i g k;cases B with
     |lst j N =>
      rename_i a xs;obtain⟨s,h3,b⟩:=r4 b;obtain⟨E,b⟩:=I0 b;cases b;have R:=N.ints h3;subst R;refine⟨.inl ⟨rfl,_,C1.seq j⟩,?_⟩;refine C.t O f D d W n _ _ (S.grow u) h2 λY T z L=>?_;obtain⟨y,rfl,t⟩:=L.inv1;cases t;exact⟨a,s,k,rfl,rfl,z.seq (C1.seq j),E.1,E.2,q _ T (u.trans z) (Dt.int _)⟩
   . exact nE b⟩
section
variable{prog:L9}{w:E1}
end
set_option tactic.hygienic true in
def Gx(b:Bool)(l:Addr)(xs:Array t2):
  Meets (Builtin.«enumerate.__new__» ⟨[.type "enumerate",.ref l],[]⟩) (λ_ R s=>kJ b s.heap l xs /\
   R (.ok (.ret (.ref (s.heap.push (qk b l)).objs.size))) {s with heap:=(s.heap.push (qk b l)).push {cls:=.type "enumerate",data:=.fields #[.none,.bool U',.ref (hz s),Z3 0,.none,.none]}}):=
 .of_wp λe w A R s h=>by
  obtain⟨j,g,d,i,m⟩:=s;obtain⟨f,h⟩:=h;have:=sub_enumerate;have a:=f
  wp_walk using vn a
  refine wpAny_stack_any λk=>z6 ?_;split
  . rename_i c _ _ _ _ _;cases(c==yD "enumerate")
    . wp_walk using vn a
      exact⟨_,rfl,h⟩
    . wp_walk using vn a
      exact⟨_,rfl,h⟩
  . wp_walk using vn a
    exact⟨_,rfl,h⟩
section
variable{prog:L9}{w:E1}
def JX(f:kJ I B.heap z b8)(h:∀h',IsEnum h' (B.heap.objs.size+1) B.heap.objs.size 0 .none->mF I h' B.heap.objs.size z 0->(∀b o,B.heap.get? b=U o->h'.get? b=U o)->c6 (.ref (B.heap.objs.size+1)) {B with heap:=h'}):
  wpAny (model prog w) L (call (.type "enumerate") [.ref z]) c6 Y B:=by
 refine callType_new F.called_enumerate f5 (F.typeCall_enumerate_1 _) (F.newCall_enumerate_1 _) (λobj=>F.args_object_init_2 obj _) F.entry_enumerate_new (Gx I z b8) ⟨f,?_⟩
 have d:(B.heap.push (qk I z)).objs.size=B.heap.objs.size+1:=hE ..;have e:(qk I z).isFreed=U':=by cases I<;>rfl
 rw[d];have c:IsEnum ((B.heap.push (qk I z)).push {cls:=.type "enumerate",data:=.fields #[.none,.bool U',.ref B.heap.objs.size,Z3 0,.none,.none]}) (B.heap.objs.size+1) B.heap.objs.size 0 .none:=by have:=W6 (B.heap.push (qk I z)) (o:={cls:=.type "enumerate",data:=.fields #[.none,.bool U',.ref B.heap.objs.size,Z3 0,.none,.none]}) rfl;rw[d]at this;exact this
 exact⟨⟨_,c,rfl⟩,h _ c (.new (G0 _ (W6 _ e))) λb o x=>G0 _ (G0 _ x)⟩
end
def a0W{prog:L9}{w:E1}(m:L.handled=J)(it l:Addr)(c:l≠it)(xs:Array t2):
  Draws prog w L it [it,l] xs.size (λi v=>xs[i]? = U v) (λi h=>sL I h it l i xs) where
 live:=λi h a=>by
  cases I;exact(Draws.list (prog:=prog) (w:=w) m it l c xs).live i h a;obtain⟨o,y,_⟩:=(show h.IsTupleIter it l i/\h.IsTuple l xs from a).1;exact⟨o,y⟩
 frame:=λi h j a u=>a.kept λb o q e=>u b (by rcases q with rfl|rfl<;>simp) o e
 item:=λi s Q E k a p=>by
  refine mK a c (x:=xs[i]) (by simp[k]) λj d n=>?_;refine p _ j s.toks (by simp[k]) ?_ n;have k2:=λo e=>n.extBut l o c e;cases I;obtain⟨_,o,g,r⟩:=(show s.heap.IsListIter it l i/\s.heap.IsList l xs from a);exact⟨d,o,k2 o g,r⟩;obtain⟨_,o,g,r⟩:=(show s.heap.IsTupleIter it l i/\s.heap.IsTuple l xs from a);exact⟨d,o,k2 o g,r⟩
 done:=λs Q E a t=>pa m a B3 t
def Ite(kd:Bool)(K:v9)(a:Addr):It:=
 ⟨λi H=>∃xs x,gm kd K H a xs/\xs[i]? = U x,
  λi H v H'=>∃p,v=.ref p/\H p=J/\∃x,H'=upd H p (.tup [.int i,x])/\∀xs,gm kd K H a xs->xs[i]? = U x,
  λi H=>∃xs,gm kd K H a xs/\xs.length<=i⟩
def Kz(t:z≠T):
  Turn b5 i5 g (.Tuple Z m p) (Ite I g c7) [z,T] z (λi h=>(∃d,IsEnum h z T i d)/\mF I h T c7 i) where
 mem:=E5
 obj:=λi h P c b=>by
  have j:c=z\/c=T:=by simpa using b
  rcases j with rfl|rfl
  obtain⟨d,q⟩:=P.1;exact⟨_,q,λv e=>by cases e⟩;exact P.2.obj
 keep:=λi h K P kk=>by obtain⟨d,q⟩:=P.1;exact⟨⟨d,kk z E5 _ q⟩,P.2.at λo e=>kk T E5 o e⟩
 item:=by
  intro X G hw hK b i f s S H E O B P hg;subst G hw hK;obtain⟨xs,x,C,ex⟩:=hg;obtain⟨l,w,ox⟩:=O.GP C P.2;obtain⟨u,hu,ru⟩:=w.get ex;obtain⟨d,M⟩:=P.1;have L:=B z E5;have r:i<l.toArray.size:=by
   have:i<l.length:=by
    by_cases c:i<l.length;exact c;rw[uH (jF s9)]at hu;exact nE hu
   omega
  have V:X.A.in1.handled=J:=O.ok.hd b;have D:Draws X.prog X.w X.A.in1 T [T,c7] l.toArray.size (λi v=>l.toArray[i]? = U v) (λi h=>sL I h T c7 i l.toArray):=a0W V T c7 (C.x.ne O (B T E5)) l.toArray;refine wpAny_pyNext_enum_itemD D M ox r t (by simp;exact⟨t,(C.x.ne O L).symm⟩) λx' K N G ho R Y hsz hk=>?_
  have ux:x'=u:=by
   have:l.toArray[i]? = U u:=by simpa using hu
   rw[this]at G;cases G;rfl
  subst ux;have Q:=O.J1.fresh E7;have I1:Inv X f S H {s with heap:=K,toks:=N+1}:=O.uW (ch:=[z,T]) (λc o b e=>hk c o (λq=>b (by simp[q])) (λq=>b (by simp[q])) e) (λc b=>B c O7)
  have I2:Inv X f S (upd H (hz s) (.tup [.int i,x])) {s with heap:=K,toks:=N+1}:=I1.Iy Q (ar O.lt) (.inr O.sz)
   (λn c e q=>by obtain⟨vv,q2⟩:=O.cell n c e;exact absurd q2.lt (by rw[q];exact U9 _))
   (λk hp q=>absurd (F6 (O.pin k hp).1) (by rw[q];exact U9 _))
   ⟨by show 2<=E6;rw[qE];decide,[.int i N,x'],.cons ⟨_,rfl⟩ (.cons ru .nil),⟨_,Y,rfl,_,rfl⟩⟩
  refine⟨_,rfl,wpAny_letOwnedTupleGo_enum ho λh2 z2 b2=>?_⟩
  have uz:∀c,c∈[z,T]->(upd H (hz s) (.tup [.int i,x])) c=J:=λc b=>by
   have r:c<(hz s):=by
    have j:c=z\/c=T:=by simpa using b
    rcases j with rfl|rfl
    exact(F6 M);obtain⟨o,e,_⟩:=P.2.obj;exact F6 e
   rw[J4 (Q1 r)];exact(B c b).1
  have I3:Inv X f S (upd H (hz s) (.tup [.int i,x])) {s with heap:=h2,toks:=N+1}:=Inv.turned (s:={s with heap:=K,toks:=N+1}) I2 (λc o b e=>b2.extBut c o b e) (uz z E5) L.2.1 L.2.2.2.1 L.2.2.2.2.1 L.2.2.2.2.2;refine⟨.ref (hz s),_,I3,rfl,⟨_,rfl,Q,x,rfl,λxs' y=>?_⟩,⟨⟨_,z2⟩,?_⟩,uz⟩;rw[y.inj O C];exact ex
  . have it':mF I K T c7 (i+1):=by
      cases I;exact(show K.IsListIter T c7 (i+1)/\_ from R).1;exact(show K.IsTupleIter T c7 (i+1)/\_ from R).1
    exact it'.at λo q=>b2.extBut _ _ t.symm q
 done:=by
  intro X G hw hK b i f s S H E O B P hg;subst G hw hK;obtain⟨xs,C,hend⟩:=hg;obtain⟨l,w,ox⟩:=O.GP C P.2;obtain⟨d,M⟩:=P.1;have:=w.length;have Q:s.TypeIs (.ref z) "enumerate":=⟨_,M,rfl⟩;refine u4 (qK (mP Q OK (jG OK Q F.entry_enumerate_next ?_ (F.args_enumerate_next_1 _))));show wpAny _ _ (field (.ref z) 2 >>= _) _ _ _;refine u4 (Z1 M rfl rfl ?_);refine u4 (pa (O.ok.hd b) ox (by simp;simp_all) λK x a y=>?_)
  obtain⟨o,ho,j⟩:=y;refine u4 (ER ⟨o,ho,j⟩ Ey ?_);refine z6 ⟨rfl,?_⟩;exact O.uW (ch:=[T]) (λc o b e=>a c o (λq=>b (by simp[q])) e) (λc b=>B c (by
   have:c=T:=by simpa using b
   simp[this]))
 self:=λ_ _ _ _ _ P h=>by obtain⟨d,q⟩:=P.1;exact wpAny_pyIter_enum q h
section
def MP(K:v9)(ta:TA):TI:=λσ H R=>ta σ H λvs H1=>∃a kd,vs=[.ref a]/\(∃xs,gm kd K H1 a xs)/\R (Ite kd K a) H1
def boot_enumerate:dZ "enumerate" = U (.type "enumerate"):=by decide +kernel
def Ru(F:Gl c "enumerate")(o:c.mg "enumerate" = J)(v:PA c [e] M)(hs:autoParam (v7 [e] c.env=[(U',eval e c.env)]) t5):
  PI c (.Tuple Z m c5) (.Call (.Name "enumerate" p) [e] [] A) (MP c.K M):=by
 intro X s N H R I h;refine Call_ (gE I F o boot_enumerate (pG (F1 (v A X s N H _ I h) λz d ⟨G,l,g,w,n⟩=>?_) (by rw[hs];rfl) (by rfl)));obtain⟨x,L,a,⟨k,t⟩,q⟩:=n;subst a;obtain⟨u,a,y⟩:=vals1 w;subst a;cases y;obtain⟨z,D⟩:=g.bH t;refine JX D λK j B C=>?_;refine wpAny_pyIter_enum j ?_;have E:Inv c X N l {d with heap:=K}:=g.kept C;refine⟨(hz d)+1,_,_,_,l,rfl,E,Kz (by show @Ne Nat _ _;simp[*]),⟨⟨_,j⟩,B⟩,λb r=>?_,q⟩
 have i:b=(hz d)+1\/b=(hz d):=by simpa using r
 have f:(hz d)<=b:=by
  rcases i with a|a<;>rw[a]
  exact jI _ _;exact T6 _
 exact g.wK f (g.J1.fresh f)
theorem rM:∀(l:List p9) (k:Int) (i:Nat),(X8 k l)[i]? = (l[i]?).map λd=>.tuple [.int (k+(i:Nat)),d]
 | [],k,i=>by rfl
 |d::r,k,0=>by simp[X8]
 |d::r,k,i+1=>by have:=rM r (k+1) i;simp only[X8,pF];rw[this,show k+1+i=k+((i+1:Nat)) by lia]
def wN:∀(l:List p9) (k:Int),(X8 k l).length=l.length:=by
 intro l_;induction l_ with
 |nil =>
  intro k;exact rfl
 |cons d r ih_ =>
  intro k;rw[X8,Y2,ih_,Y2]
set_option tactic.hygienic true in
def Rq{fr:Bool}(Y:Gl c "enumerate")(E:c.mg "enumerate" = J)(Fl:dq c fr [e] M P)(hs:autoParam (v7 [e] c.env=[(U',eval e c.env)]) t5):
  gp c fr (.Tuple Z m c5) (.Call (.Name "enumerate" p) [e] [] A) (MP c.K M) (F3 cv P):=⟨Ru Y E Fl.p hs,by
 intro O a W G H v h R S b q;obtain⟨l,h1,b⟩:=r4 b;refine Fl.t O a W G H v l _ S h1 λvs D w N=>?_;unfold cv at b;split at b
 . rename_i C;obtain⟨ta,hl,b⟩:=r4 b;cases b;cases N with
   |cons r t =>
    cases t;obtain⟨e,B,f,rfl,n,u⟩:=r.bH hl;refine⟨e,B,rfl,⟨f,C1.bH n⟩,q _ D w λH' g i=>?_⟩;have X:=g.bH (vp.bH n);have:=u.length;rw[wN];refine⟨λs=>⟨f,f[i]'r9,X,L3 _⟩,λs=>⟨f,X,by simp[*]⟩,λx V y s=>?_⟩;obtain⟨pp,Q,d,x',T,F⟩:=y;subst Q;subst T;obtain⟨K,L,I⟩:=u.get' (F f X);refine⟨u9.new d,.tuple [.int i,K],by rw[rM,L];simp,λvb j k=>?_⟩;refine .tup (X9.of (E3.mpr ⟨λz=>?_,λz=>?_,O3⟩)) (.cons (.int _) (.cons (qj I g (u9.new d) j) .nil));obtain⟨o,z⟩:=k _ z;rw[g _ _ z]at d;exact nS d;obtain⟨_,o,z⟩:=j _ z;rw[z]at d;exact nS d
 . exact nE b⟩
end
noncomputable def T3(f:Str):List p9->List p9->Option p9
 | .str n::ns,d::l=>if n=f then U d else T3 f ns l
 |_,_=>J
noncomputable def vo(nm:Str):p9->Option (List p9×List p9)
 | .dict [(.tuple [.str n,.list ns],.tuple l)]=>if n=nm then U (ns,l)else J
 |_=>J
def MN(a:Str)(ns:List Str)(l:List p9):vo a (zY a ns l)=U (ns.map .str,l):=by
 show(if a=a then U (ns.map PyData.str,l)else J)=_;simp
set_option tactic.hygienic true in
def AU{l:List p9}(h:Dt g H a2 g8)(e:vo y g8=U (S,l)):
  ∃a C K fv ms vs,a2=.ref a/\fx g aq y=U (U (.ref C))/\H a=U (.ins C K fv)/\fv=List.zip ms vs/\S=ms.map .str/\C8 g H vs l:=by
 cases h with
 |ins k m i t =>
  rename_i a C K fv b ms vs j;have f:(if b=y then U (ms.map PyData.str,j)else J)=U (S,l):=e;obtain⟨n,f⟩:=I0 f;cases f;subst n;exact⟨a,C,K,fv,ms,vs,rfl,k,m,i,rfl,t⟩
 |_=>exact nE e
def AN(h:C8 g H N S):(T3 y (Q.map .str) S=J/\(List.zip Q N).lookup y=J)\/∃d u,T3 y (Q.map .str) S=U d/\(List.zip Q N).lookup y=U u/\Dt g H u d:=by
 induction Q generalizing N S with
 |nil=>exact .inl ⟨rfl,rfl⟩
 |cons m Q i=>cases h with
  |nil=>exact .inl ⟨rfl,rfl⟩
  | @cons v N d S h t =>
   rw[show T3 y ((m::Q).map .str) (d::S)=if m=y then U d else T3 y (Q.map .str) S from rfl,kU,oB];by_cases c:m=y;subst c;rw[f9 rfl];exact .inr ⟨d,v,rfl,by simp,h⟩
   . have a:(y==m)=U':=by simpa using λz=>c z.symm
     rw[f6 c,a];exact i t
structure dH(K:v9)(nm:Str)(C:Addr):Prop where
 ns:fx K aq nm=U (U (.ref C))
 cl:uS K C
def dH.eq(K:dH g y z)(h:fx g aq y=U (U (.ref T))):T=z:=by
 rw[K.ns]at h;lia
def X6(nm f:Str)(d:p9):Option p9:=(vo nm d).bind λp=>T3 f p.1 p.2
noncomputable def F5(nm f:Str)(F:DV):DV:=λds=>(F ds).bind λpv=>(X6 nm f pv.d).bind λd=>U (.dat d)
def Wb(T:dH c.K y z)(n:ay c.K z a0)(h:PX c I o G r)(K:autoParam (aL o a0 c.env (eval o c.env)=eval o c.env) t5):PX c I (.Attribute o a0 p) (rn c.K G a0) (F5 y a0 r):=⟨tF h.p K,by
 intro O e D A H B pv Q S X q;obtain⟨Z,x,X⟩:=r4 X;obtain⟨d,t,X⟩:=r4 X;cases X;obtain⟨⟨Y,l⟩,k,i⟩:=r4 t;refine h.t O e D A H B Z _ S x λv C w N=>?_
 obtain⟨a,s,M,P,V,R,rfl,E,F,rfl,rfl,f⟩:=AU (N.dt S.dm) k;have m:=T.eq E;subst m;rcases AN f with ⟨g,j⟩|⟨W,u,g,j,L⟩
 have b:=i;rw[g]at b;exact nE b
 . have b:=i;rw[g]at b;cases b;exact⟨a,s,M,_,u,rfl,C1 _ _ F,T.cl,n,j,q u C w L⟩⟩
noncomputable def R1(nm m:Str)(f:FV)(Fo:DV)(Fl:DL):DV:=λds=>(Fo ds).bind λpv=>(vo nm pv.d).bind λp=>match T3 m p.1 p.2 with
 |none=>(Fl ds).bind λl=>f (pv.d::l)
 |some _=>J
def GI{fr:Bool}(T:dH c.K y z)(ho:PX c fr o G r)(h:dq c fr Z M P):TX c.K fr (mI z a0 (E9 c.K i4) [] d9 G M) (R1 y a0 i4 r P):=by
 intro O k i V H W pv Q S j q;obtain⟨p,h1,j⟩:=r4 j;obtain⟨⟨ns,l0⟩,Y,j⟩:=r4 j;refine ho.t O k i V H W p _ S h1 λv H1 B r1=>?_
 have m:=r1.dt S.dm;obtain⟨a,C',dx,fv,ms,vs0,rfl,c1,c2,rfl,rfl,c3⟩:=AU m Y;have t:=T.eq c1;subst t;rcases AN c3 with ⟨I,N⟩|⟨d',u,I,N,z3⟩
 . have g:=j;rw[I]at g;obtain⟨l,h4,j⟩:=r4 g;refine⟨a,dx,_,rfl,C1 _ _ c2,N,?_⟩;refine h.t O k i V H1 W l _ (S.grow B) h4 λvs H2 A r2=>?_;have D:=((S.grow B).grow A).dm (fr:=fr);rw[bV];have L:∀H,A6 H (ag fr i) O=A6 H [] (O++(ag fr i).filterMap id):=λH=>qq (bs:=[]);refine⟨O++(ag fr i).filterMap id,p.d::l,pv,λb E=>?_,by rw[<-L];exact .cons (m.same (S5 A)) r2,j,λv f es n=>q v f ((B.trans A).trans es) ?_⟩
   . rcases List.mem_append.mp E with E|E
     exact D.o b E;obtain⟨x,hx,e⟩:=List.mem_filterMap.mp E;subst e;exact D.a b hx
   . have s:=B.trans A;cases pv with
     |dat d =>
      have K:Dt c.K (A6 f [] (O++(ag fr i).filterMap id)) v d:=n;rw[<-L]at K;exact K
     |own l =>
      obtain⟨b,xs,es,C,F,n⟩:=n;refine⟨b,xs,es,s.free C,F,?_⟩;rw[show(U b::ag fr i)=[U b]++ag fr i from rfl,qq];exact n
     |ob w X =>
      obtain⟨o,R,es,C,F,n⟩:=n;refine⟨o,R,es,C,λb E=>s.free (F b E),?_⟩;rw[qq];rw[bV]at n;exact n
 have g:=j;rw[I]at g;exact nE g
noncomputable def aa(F:DV):DV:=λds=>(F ds).bind λpv=>match pv with
 | .dat d=>if LF d=Uf then U (.dat d)else J
 | .own l=>if lH l=Uf then U (.own l)else J
 | .ob _ _=>J
def DS.Ys{cs:As}(S:DS g O q u D H E)(e:u9 H e8)(l:∀b,U b∈cs->U b∈j1\/U b∈u)(a:Addr)(K:HO)(h:A6 e8 j1 O a=U K)(k:¬Cell K):A6 e8 cs O a=U K:=by
 obtain⟨f,j,d⟩:=E3.mp h;refine E3.mpr ⟨f,λz=>?_,d⟩
 rcases l a z with z|z
 exact j z;obtain⟨_,c,i⟩:=S.new a z;have:=e _ _ i;grind
def Zt(h:PX c U' e G r):PX c I e G (aa r):=⟨h.p,by
 intro O g s n H o pv Q S f q;obtain⟨p,u,f⟩:=r4 f;cases p with
 |dat d =>
  simp only at f;obtain⟨k,f⟩:=I0 f;cases f;refine h.t O g s n H o _ _ S u λv j i m=>q v j i ?_;exact Dt.lf (S.Ys i λb z=>.inr (pT z)) m k
 |own l =>
  simp only at f;obtain⟨k,f⟩:=I0 f;cases f;refine h.t O g s n H o _ _ S u λv j i m=>q v j i ?_;obtain⟨a,y,x,A,B,F⟩:=m;refine⟨a,y,x,A,B,C8.lf (S.Ys i λb z=>?_) F k⟩
  rcases List.mem_cons.mp z with z|z
  exact .inl (by rw[z];exact D1);exact .inr (pT z)
 |ob w X=>exact nE f⟩
noncomputable def P0(f:Str)(p:PF):List (Str×PF)->List (Str×PF)
 | []=>[(f,p)]
 |(g,x)::r=>if g=f then(g,p)::r else(g,x)::P0 f p r
def D2(f:Str):List (Str×PF)->Option PF
 | []=>J
 |(g,x)::r=>if g=f then U x else D2 f r
inductive uP(K:v9)(Hv H:Hp):V->PF->List Addr->Prop
 |dat {x d}:Dt K Hv x d->uP K Hv H x (.dat d) []
 |own {a xs l}:H a=U (.lst xs)->C8 K Hv xs l->uP K Hv H (.ref a) (.own l) [a]
 |dct {a kvs es}:H a=U (.dK kvs)->FT K Hv kvs es->uP K Hv H (.ref a) (.dct es) [a]
section
variable{K:v9}
def Q4.cons{Hv:Hp}{H:Hp}{R:List Addr}{Rf:List Addr}{fv:List (Str×V)}{fs:List (Str×PF)}{y:V}{p:PF}{n:Str}(h:uP K Hv H y p Rf)(d:∀b∈Rf,b∉R)(t:Q4 K Hv H fv fs R):Q4 K Hv H ((n,y)::fv) ((n,p)::fs) (Rf++R):=by
 cases h with
 |dat h=>exact .dat h t
 |own c a=>exact .own c a (d _ D1) t
 |dct c a=>exact .dct c a (d _ D1) t
def Q4.put{f:Str}(t:Q4 K q H k h8 O)(h:uP K q H a2 k7 j6)(d:∀b∈j6,b∉O):∃R',Q4 K q H (cJ f a2 k) (P0 f k7 h8) R'/\∀b∈R',b∈j6\/b∈O:=by
 induction t with
 |nil =>
  refine⟨j6++[],Q4.cons h (λb _=>by simp) .nil,λb e=>.inl (by simpa using e)⟩
 | @dat n x v k h8 O s t j =>
  obtain⟨R',i,g⟩:=j d;rw[cJ,P0];by_cases c:n=f;rw[f9 c,f9 c];exact⟨j6++O,Q4.cons h d t,λb e=>List.mem_append.mp e⟩;rw[f6 c,f6 c];exact⟨R',.dat s i,g⟩
 | @own n a u l k h8 O o m R t j =>
  obtain⟨R',i,g⟩:=j λb e z=>d b e (C6 _ z);rw[cJ,P0];by_cases c:n=f;rw[f9 c,f9 c];exact⟨j6++O,Q4.cons h (λb e z=>d b e (C6 _ z)) t,λb e=>(List.mem_append.mp e).imp id (C6 _)⟩
  . rw[f6 c,f6 c];refine⟨a::R',.own o m (λz=>?_) i,λb e=>?_⟩
    . rcases g a z with z|z
      exact d a z D1;exact R z
    . rcases List.mem_cons.mp e with rfl|e
      exact .inr D1;exact(g b e).imp id (C6 _)
 | @dct n a r w k h8 O o m R t j =>
  obtain⟨R',i,g⟩:=j λb e z=>d b e (C6 _ z);rw[cJ,P0];by_cases c:n=f;rw[f9 c,f9 c];exact⟨j6++O,Q4.cons h (λb e z=>d b e (C6 _ z)) t,λb e=>(List.mem_append.mp e).imp id (C6 _)⟩
  . rw[f6 c,f6 c];refine⟨a::R',.dct o m (λz=>?_) i,λb e=>?_⟩
    . rcases g a z with z|z
      exact d a z D1;exact R z
    . rcases List.mem_cons.mp e with rfl|e
      exact .inr D1;exact(g b e).imp id (C6 _)
def iE:fw y ((a0,a2)::j7)=if a0=y then U a2 else fw y j7:=by
 rw[oB];by_cases c:a0=y;subst c;simp
 . have a:(y==a0)=U':=by simpa using λz=>c z.symm
   rw[a,f6 c]
set_option tactic.hygienic true in
def Q4.a0j(t:Q4 K q H j7 h8 O)(h:D2 y h8=J):j7.lookup y=J:=by
 induction t with
 |nil=>rfl
 | dat hd t ih => rw [D2] at h; rw [iE]; split at h; · exact nS h
                  rename_i c;rw[f6 c];exact ih h
 | own h1 h2 h3 t ih => rw [D2] at h; rw [iE]; split at h; · exact nS h
                        rename_i c;rw[f6 c];exact ih h
 | dct h1 h2 h3 t ih => rw [D2] at h; rw [iE]; split at h; · exact nS h
                        rename_i c;rw[f6 c];exact ih h
def Q4.look(t:Q4 K q H w h8 O)(h:D2 y h8=U k7):∃x Rf,w.lookup y=U x/\uP K q H x k7 Rf/\(∀b∈Rf,b∈O) /\
  ∀{Hv' H':Hp} {m:PF},u9 q Hv'->(∀b∈O,b∉Rf->∀o,H b=U o->H' b=U o)->uP K Hv' H' x m Rf->Q4 K Hv' H' w (P0 y m h8) O:=by
 induction t with
 |nil=>exact nE h
 | @dat n x d w h8 O C t s =>
  rw[D2]at h;rw[iE];by_cases c:n=y;rw[f9 c]at h ⊢;cases h;refine⟨x,[],rfl,.dat C,λb g=>absurd g B3,λ{Hv' H' m} e i k=>?_⟩;rw[P0,f9 c];exact Q4.cons k (λb g=>absurd g B3) (t.same e λb g=>i b g B3);rw[f6 c]at h ⊢;obtain⟨f,Rf,A,u,R,r⟩:=s h;refine⟨f,Rf,A,u,R,λ{Hv' H' m} e i k=>?_⟩;rw[P0,f6 c];exact .dat (C.same e) (r e i k)
 | @own n a F l w h8 O B v j t s =>
  rw[D2]at h;rw[iE];by_cases c:n=y;rw[f9 c]at h ⊢;cases h;refine⟨_,[a],rfl,.own B v,λb g=>by rw[mem_singleton.mp g];exact D1,λ{Hv' H' m} e i k=>?_⟩;rw[P0,f9 c];refine Q4.cons k (λb g=>by rw[mem_singleton.mp g];exact j) (t.same e λb g=>i b (C6 _ g) λz=>?_);rw[mem_singleton.mp z]at g;exact j g;rw[f6 c]at h ⊢;obtain⟨f,Rf,A,u,R,r⟩:=s h;refine⟨f,Rf,A,u,λb g=>C6 _ (R b g),λ{Hv' H' m} e i k=>?_⟩;rw[P0,f6 c];exact .own (i a D1 (λz=>j (R a z)) _ B) (v.same e) j (r e (λb g=>i b (C6 _ g)) k)
 | @dct n a D E w h8 O B v j t s =>
  rw[D2]at h;rw[iE];by_cases c:n=y;rw[f9 c]at h ⊢;cases h;refine⟨_,[a],rfl,.dct B v,λb g=>by rw[mem_singleton.mp g];exact D1,λ{Hv' H' m} e i k=>?_⟩;rw[P0,f9 c];refine Q4.cons k (λb g=>by rw[mem_singleton.mp g];exact j) (t.same e λb g=>i b (C6 _ g) λz=>?_);rw[mem_singleton.mp z]at g;exact j g;rw[f6 c]at h ⊢;obtain⟨f,Rf,A,u,R,r⟩:=s h;refine⟨f,Rf,A,u,λb g=>C6 _ (R b g),λ{Hv' H' m} e i k=>?_⟩;rw[P0,f6 c];exact .dct (i a D1 (λz=>j (R a z)) _ B) (v.same e) j (r e (λb g=>i b (C6 _ g)) k)
end
noncomputable def gw(nm:Str)(i:Nat)(ds:Ds):Option (Option Addr×List (Str×PF)):=match ds[i]? with
 |some (U (.ob w (.ins n fs)))=>if n=nm then U (w,fs)else J
 |_=>J
def cK(h:gw y m E=U (j8,h8)):E[m]? = U (U (.ob j8 (.ins y h8))):=by
 unfold gw at h;split at h
 . simp_all
 exact nE h
def DH:PF->Option p9
 | .dat d=>U d
 |_=>J
def tG:PF->Option (List p9)
 | .own l=>U l
 |_=>J
def Tg(h:DH k7=U g8):k7=.dat g8:=by cases k7<;>cases h;rfl
def wB(h:tG k7=U S):k7=.own S:=by cases k7<;>cases h;rfl
noncomputable def N0(nm:Str)(i:Nat)(f:Str):DV:=λds=>(gw nm i ds).bind λx=>(D2 f x.2).bind λp=>(DH p).bind λd=>U (.dat d)
noncomputable def hZ(nm:Str)(i:Nat)(f:Str)(Fb:DV):DV:=λds=>(gw nm i ds).bind λx=>(D2 f x.2).bind λp=>(tG p).bind λl=>(Fb ds).bind λk=>D5 (.list l) k.d
section
def VX(T:dH c.K y z)(n:ay c.K z a0)(h:PE c o (P7 m))(A:autoParam (aL o a0 c.env (eval o c.env)=eval o c.env) t5):PX c I (.Attribute o a0 p) (rn c.K (P7 m) a0) (N0 y m a0):=⟨tF h A,by
 intro O X D i H F pv Q S a q;obtain⟨⟨w,fs⟩,s,a⟩:=r4 a;obtain⟨L,l,a⟩:=r4 a;obtain⟨d,t,a⟩:=r4 a;cases a;have K:=Tg t;subst K;obtain⟨v,R,k,_,_,u,j,f,E,rfl,e,r,g⟩:=S.slot m _ (cK s);have B:=T.eq e;subst B;obtain⟨x,G,C,b,_⟩:=g.look l;cases b with
 |dat b=>exact⟨_,k,v,u,j,f,x,rfl,r,T.cl,n,C,q x H (u9.refl H) (b.same nc)⟩⟩
set_option tactic.hygienic true in
def Zn(T:dH c.K y z)(n:ay c.K z a0)(h:PE c o (P7 m))(Fb:PX c I e G r)(s:autoParam (aL o a0 c.env (eval o c.env)=eval o c.env) t5)(hs:autoParam (qA e) vA):PX c I (.Subscript (.Attribute o a0 A) e p) (sx (GY c.K) (rn c.K (P7 m) a0) G) (hZ y m a0 r):=⟨IX Dc (tF h s) Fb.p hs,by
 intro O g i σ H Y pv Q S f q;obtain⟨⟨w,fs⟩,h1,f⟩:=r4 f;obtain⟨tb,V,f⟩:=r4 f;obtain⟨l,u,f⟩:=r4 f;obtain⟨k,b,t⟩:=r4 f;have e3:=wB u;subst e3;obtain⟨v,R,L,_,hR,C',C,W,R',rfl,E,c2,F⟩:=S.slot m _ (cK h1);have ec:=T.eq E;subst ec;obtain⟨x,Rf,l1,l2,l3,l4⟩:=F.look V;cases l2 with
 |own P D =>
  rename_i a Z;refine⟨_,L,v,C',C,W,_,rfl,c2,T.cl,n,l1,Fb.t O g i σ H Y k _ S b λK N fr M=>?_⟩
  have B:=M.dt S.dm;generalize k.d=kk at t B;cases B with
  |int j =>
   have X:=t;obtain⟨d,h5,X⟩:=r4 X;cases X;obtain⟨v,u,b⟩:=D.aS h5;exact .inl ⟨a,Z,j,v,rfl,rfl,M8.of (fr _ _ P),u,q v N fr (Dt.same (nc.trans (S5 fr)) b)⟩
  |_=>exact nE t⟩
end
section
variable{K:v9}
set_option tactic.hygienic true in
def DS.adopt(S:DS K O q u D H E)(m:u9 H e8)(i:Nat)(r:∀b∈j6,H b=J)(x:∀b∈j6,∃R:Cl,e8 b=U R.1):
  DS K O q (j6.map U++u) D e8 E/\∀c:Nat->List Addr,(∀i b,b∈c i->U b∈u)->(∀i j b,b∈c i->b∈c j->i=j)->(∀(i:Nat) (pv:PV),E[i]? = U (U pv)->cy K O u H D[i]? (c i) pv) ->
   ∃a:Nat->List Addr,(∀i b,b∈a i->U b∈j6.map U++u)/\(∀i j b,b∈a i->b∈a j->i=j)/\(∀(i:Nat) (pv:PV),E[i]? = U (U pv)->cy K O (j6.map U++u) e8 D[i]? (a i) pv)/\(∀b∈j6,b∈a i)/\∀b∈c i,b∈a i:=by
 have s:∀b∈j6,U b∉u:=λb d z=>by obtain⟨_,o,z⟩:=S.new b z;rw[r b d]at z;exact nE z
 have l:∀c:Nat->List Addr,(∀i b,b∈c i->U b∈u)->(∀i j b,b∈c i->b∈c j->i=j)->(∀i pv,E[i]? = U (U pv)->cy K O u H D[i]? (c i) pv) ->
   ∃a:Nat->List Addr,(∀i b,b∈a i->U b∈j6.map U++u)/\(∀i j b,b∈a i->b∈a j->i=j)/\(∀i pv,E[i]? = U (U pv)->cy K O (j6.map U++u) e8 D[i]? (a i) pv)/\(∀b∈j6,b∈a i)/\∀b∈c i,b∈a i:=λc f h p=>by
  refine⟨λj=>if j=i then j6++c j else c j,λj b d=>?_,λj k b g e=>?_,λj pv t=>(p j pv t).AG (lA m r) (λb _ o z=>m _ _ z) λb z=>?_,λb d=>by dsimp only;rw[f9 rfl];exact T9 _ d,λb d=>by dsimp only;rw[f9 rfl];exact K6 _ d⟩
  . dsimp only at d;split at d
    . rcases List.mem_append.mp d with z|z
      exact T9 _ (mem_map.mpr ⟨b,z,rfl⟩);exact K6 _ (f j b z)
    exact K6 _ (f j b d)
  . dsimp only at g e;split at g
    . rename_i n;split at e;rename_i σ;rw[n,σ]
      . rcases List.mem_append.mp g with z|z
        exact absurd (f k b e) (s b z);exact h j k b z e
    . split at e
      . rcases List.mem_append.mp e with z|z
        exact absurd (f j b g) (s b z);exact h j k b g z
      exact h j k b g e
  dsimp only;split;exact K6 _ z;exact z
 obtain⟨c,f,h,p⟩:=S.iy;obtain⟨a,v,k2,w,_⟩:=l c f h p;refine⟨⟨S.ls,S.same.trans m,λb d=>?_,S.eT,a,v,k2,w⟩,l⟩
 rcases List.mem_append.mp d with z|z
 obtain⟨y,n,σ⟩:=mem_map.mp z;cases σ;exact⟨S.same.free (r b n),x b n⟩;exact⟨(S.new b z).1,let ⟨o,z⟩:=(S.new b z).2;⟨o,m _ _ z⟩⟩
end
noncomputable def hB:PV->Option PF
 | .dat d=>U (.dat d)
 | .own l=>U (.own l)
 | .ob _ (.dct es)=>U (.dct es)
 |_=>J
def jm(pv:PV):Option PF:=U (.dat pv.d)
noncomputable def X5(nm:Str)(i:Nat)(f:Str)(kp:PV->Option PF)(F:DV):DO:=λds=>(F ds).bind λpv=>(kp pv).bind λp=>(gw nm i ds).bind λx=>if x.2.length<900 then U (.next (ds.set i (U (.ob x.1 (.ins nm (P0 f p x.2))))))else J
def Q4.len(h:Q4 g q H j7 h8 O):j7.length=h8.length:=by
 induction h with
 |nil=>rfl
 |dat _ _ a=>simp_all
 |own _ _ _ _ a=>simp_all
 |dct _ _ _ _ a=>simp_all
section
def HH(D:ri H u O)(r:RX g O u H q a2 i3)(h:hB i3=U k7\/jm i3=U k7):∃Rf,(∀b∈Rf,H b=J)/\(∀b∈Rf,∃f:Cl,q b=U f.1)/\uP g (A6 q (Rf.map U++u) O) q a2 k7 Rf:=by
 rcases h with h|h
 . cases i3 with
   |dat d=>cases h;exact⟨[],λb e=>absurd e B3,λb e=>absurd e B3,.dat r⟩
   |own l =>
    cases h;obtain⟨a,k,rfl,n,K,r⟩:=r;refine⟨[a],λb e=>?_,λb e=>?_,.own K r⟩;rw[mem_singleton.mp e];exact n;rw[mem_singleton.mp e];exact⟨Cl.l k,K⟩
   |ob w c =>
    cases c with
    |dct o =>
     cases h;obtain⟨a,R,rfl,_,K,i,rfl,j,m⟩:=r;refine⟨[a],K,λb e=>?_,.dct j m⟩;rw[mem_singleton.mp e];exact⟨Cl.d i,j⟩
    |ins _ _=>exact nE h
    |seq _ _=>exact nE h
 cases h;exact⟨[],λb e=>absurd e B3,λb e=>absurd e B3,.dat (r.dt D)⟩
def QY{f:Str}{kp:PV->Option PF}(T:dH c.K y z)(n:ay c.K z f)(h:PE c o (P7 m))(hk:∀pv K,kp pv=U K->hB pv=U K\/jm pv=U K)(Y:PX c Uf e G r)(hs:autoParam (bS e (U (.Attribute o f A)) p.line c.env=pure U') t5):O1 c (.Assign [.Attribute o f A] e p) (YS c.K (P7 m) G f) (X5 y m f kp r):=⟨ZE h Y.p hs,by
 intro O g as σ H ds D C S a q;obtain⟨pv,h1,a⟩:=r4 a;obtain⟨K,h2,a⟩:=r4 a;obtain⟨⟨w,fs⟩,I,a⟩:=r4 a;obtain⟨hl,a⟩:=I0 a;cases a;refine Y.t O g as σ H ds pv _ S h1 λt H1 s r1=>?_
 obtain⟨Rf,M,k2,k3⟩:=HH (S.dm) r1 (hk pv K h2);obtain⟨S1,ad⟩:=S.adopt s m M k2;obtain⟨rg,N,B,l⟩:=S.iy;obtain⟨rg',g1,g2,W,g4,g5⟩:=ad rg N B l;obtain⟨v,R,te,ew,hR,L,x,Z,R',rfl,V,F,c3⟩:=W m _ (cK I);have ec:=T.eq V;subst ec;obtain⟨v0,R0,j,ew0,Q,C0,dx0,fv0,R0',rfl,c10,P,d⟩:=l m _ (cK I);rw[te]at j;cases j;have k:=s _ _ P;rw[F]at k;cases k;have dj:∀b∈Rf,b∉R0':=λb X E=>by obtain⟨u,_,E⟩:=d.at b E;rw[M b X]at E;exact nE E
 obtain⟨R2,p1,p2⟩:=(d.same (lA s M) λb _ o E=>s _ _ E).put (f:=f) k3 dj;refine⟨_,te,v,L,x,Z,rfl,F,T.cl,n,by rw[d.len];exact pd,q (Rf.map U++as) σ _ ?_⟩
 have nv:∀b∈R2,b≠v:=λb X E=>by subst E;obtain⟨u,i,E⟩:=p1.at b X;rw[F]at E;cases E;rcases i with ⟨_,i⟩|⟨_,i⟩<;>cases i
 have hv:=hR v D1;refine S1.Bx (u:=Cl.i L x (cJ f t Z)) (cK I) g1 g2 W hv λsm=>⟨v,v::R2,te,ew,λb X=>?_,L,x,_,R2,rfl,V,O3,p1.same sm λb X o E=>by rw[J4 (nv b X)];exact E⟩
 rcases List.mem_cons.mp X with rfl|X
 exact hv
 . rcases p2 b X with E|E
   exact g4 b E
   . exact g5 b (Q b (C6 _ E))⟩
noncomputable def cu(nm:Str)(i:Nat)(f:Str)(Fk Fv:DV):DO:=λds=>(Fv ds).bind λpv=>(Fk ds).bind λk=>(gw nm i ds).bind λx=>(D2 f x.2).bind λp=>(tG p).bind λl=>match k.d with
 | .int k=>(jd l.length k).bind λj=>U (.next (ds.set i (U (.ob x.1 (.ins nm (P0 f (.own (l.set j pv.d)) x.2))))))
 |_=>J
noncomputable def mM(nm:Str)(i:Nat)(f:Str)(F:DV):DO:=λds=>(F ds).bind λpv=>(gw nm i ds).bind λx=>(D2 f x.2).bind λp=>(tG p).bind λl=>if l.length<1000000 then U (.next (ds.set i (U (.ob x.1 (.ins nm (P0 f (.own (l++[pv.d])) x.2))))))else J
def DS.Ui{t:PF}{u:Cl}(S:DS g O q j1 D H E)(hd:E[m]? = U (U (.ob j8 (.ins y h8))))(I:D2 a0 h8=U k7)(s:D[m]? = U (U (.ref T)))(l:H T=U (.ins c7 e9 j7))(N:j7.lookup a0=U (.ref z))(a:∀d,k7≠.dat d)(X:∀{Hv':Hp},u9 (A6 H j1 O) Hv'->uP g Hv' (upd H z u.1) (.ref z) t [z]):DS g O q j1 D (upd H z u.1) (E.set m (U (.ob j8 (.ins y (P0 a0 t h8))))):=by
 obtain⟨rg,w,G,x⟩:=S.iy;obtain⟨v0,R0,c,i,h,Z,C,M,e,rfl,n,f,j⟩:=x m _ hd;rw[s]at c;cases c;rw[l]at f;cases f;obtain⟨x0,R,A,P,Q,F⟩:=j.look I;rw[N]at A;cases A;have L:R=[z]:=by
  cases P with
  |dat _=>exact absurd rfl (a _)
  |own _ _=>rfl
  |dct _ _=>rfl
 subst L;have B:=Q z D1;have Y:T≠z:=λp=>by subst p;obtain⟨u',k,p⟩:=j.at T B;rw[l]at p;cases p;rcases k with ⟨_,k⟩|⟨_,k⟩<;>cases k
 refine S.Bx hd w G x (h z (C6 _ B)) λsm=>⟨T,T::e,s,i,h,c7,e9,j7,e,rfl,n,by rw[J4 Y];exact l,F sm (λb hb K o p=>?_) (X sm)⟩;rw[J4 (λp=>K (by rw[p];exact D1))];exact p
set_option tactic.hygienic true in
def QX (T:dH c.K y z) (n:ay c.K z a0) (ho:PE c o (P7 m)) (Z:PX c Uf b7 G d2) (I:PX c Uf e b9 r) (f:autoParam (aL o a0 c.env (eval o c.env)=eval o c.env) t5) (ha:autoParam (∀v,assign (.Subscript (.Attribute o a0 A) b7 c5) c.env v=(do
   let ov <- holding [v] (eval (.Attribute o a0 A) c.env)
   let iv <- holding [v,ov] (eval b7 c.env)
   dw c5
   holding [v,ov,iv] (setItem ov iv v)
   release [v,ov,iv] [])) W0)
  (hs:autoParam (qN [.Subscript (.Attribute o a0 A) b7 c5] e p.line c.env=pure U') t5) (hw:autoParam (qM [.Subscript (.Attribute o a0 A) b7 c5] e c.env=pure J) t5)
  (h1:autoParam ((jy [.Subscript (.Attribute o a0 A) b7 c5] c.env).map (·.2)=[assign (.Subscript (.Attribute o a0 A) b7 c5) c.env]) t5) :
  O1 c (.Assign [.Subscript (.Attribute o a0 A) b7 c5] e p) (iT b9 (JL (rn c.K (P7 m) a0) G BB)) (cu y m a0 d2 r):=⟨Cn I.p (Cr (tF ho f) Z.p set_list ha) hs hw h1,by
 intro O g B E H L D F S X q;obtain⟨pv,e1,X⟩:=r4 X;obtain⟨kv,e2,X⟩:=r4 X;obtain⟨⟨w,fs⟩,P,X⟩:=r4 X;obtain⟨k,Q,X⟩:=r4 X;obtain⟨l,e5,h⟩:=r4 X;have e6:=wB e5;subst e6;split at h
 . rename_i kk b;obtain⟨j,e7,h⟩:=r4 h;cases h;refine I.t O g B E H L pv _ S e1 λv H1 s1 r1=>?_
   have s:=S.grow s1;obtain⟨v0,R,V,_,hR,C',dx,fv,R',rfl,c1,M,c3⟩:=s.slot m _ (cK P);have ec:=T.eq c1;subst ec;obtain⟨x,Rf,Y,l2,l3,l4⟩:=c3.look Q;cases l2 with
   |own y1 W =>
    rename_i a xs;refine⟨_,V,v0,C',dx,fv,_,rfl,M,T.cl,n,Y,?_⟩;refine Z.t O g B E H1 L kv _ s e2 λw' H2 i r2=>?_;have N:=r2.dt s.dm;rw[b]at N;cases N;refine⟨a,xs,kk,j,rfl,rfl,i _ _ y1,by rw[W.length];exact e7,q B E _ ?_⟩;exact(s.grow i).Ui (u:=Cl.l _) (cK P) Q V (i _ _ M) Y (λd C=>by cases C) λsm=>.own O3 (((W.same (S5 i)).set j ((r1.grow i).dt S.dm)).same sm)
 . exact nE h⟩
set_option tactic.hygienic true in
def QZ {cpos:Pos} (T:dH c.K y z) (n:ay c.K z a0) (ho:PE c o (P7 m)) (B:PX c Uf e G r) (te:autoParam (aL o a0 c.env (eval o c.env)=eval o c.env) t5) (k:autoParam (v7 [e] c.env=(U',eval e c.env)::v7 [] c.env) t5) (g:autoParam (aL (.Attribute o a0 A) "append" c.env (eval (.Attribute o a0 A) c.env)=eval (.Attribute o a0 A) c.env) t5) (i:autoParam (((F9 cpos (v7 [e] c.env)).all (λx=>!x.1)&&(bO cpos (dX [] c.env)).all (λx=>x.1.isSome)
   && decide ([e].length+([]:List aT).length+(if ([]:List aT).isEmpty then 0 else 1)<30))=Uf) t5)
  (X:autoParam ((c5.endLine==cpos.line)=Uf) t5) (b:autoParam ((F9 cpos (v7 [] c.env)).any (·.1)=U') t5)
  (hs:autoParam (bS (.Call (.Attribute (.Attribute o a0 A) "append" c5) [e] [] cpos) J p.line c.env=pure U') t5) :
  O1 c (.Expr (.Call (.Attribute (.Attribute o a0 A) "append" c5) [e] [] cpos) p) (uZ (GK c.K "list" zF (rn c.K (P7 m) a0) (iS G nA))) (mM y m a0 r):=
 ⟨pZ (xD rh Pd Pc AJ (tF ho te) (iA B.p qb k) g i X k b) hs,by
 intro O j N W H ds D f S h q;obtain⟨pv,e1,h⟩:=r4 h;obtain⟨⟨w,fs⟩,F,h⟩:=r4 h;obtain⟨K,I,h⟩:=r4 h;obtain⟨l,e5,C⟩:=r4 h;have e6:=wB e5;subst e6;obtain⟨hl,C⟩:=I0 C;cases C;obtain⟨v0,R,L,_,hR,C',Z,fv,R',rfl,Y,E,c3⟩:=S.slot m _ (cK F);have ec:=T.eq Y;subst ec;obtain⟨x,Rf,V,l2,l3,l4⟩:=c3.look I;cases l2 with
 |own P M =>
  rename_i a Q;refine⟨_,L,v0,C',Z,fv,_,rfl,E,T.cl,n,V,.inl ⟨rfl,Q,M8.of P⟩,?_⟩;refine B.t O j N W H ds pv _ S e1 λv H1 s r1=>?_
  have:=M.length;refine⟨a,Q,v,rfl,rfl,s _ _ P,M5 z9 (oW E7),q N W _ ?_⟩;exact(S.grow s).Ui (u:=Cl.l _) (cK F) I L (s _ _ E) V (λd t=>by cases t) λsm=>.own O3 (((M.same (S5 s)).append (.cons (r1.dt S.dm) .nil)).same sm)⟩
end
def lu(K:v9)(f:List PV->Option (PV×Ds)):Sp:=λvs H Q _=>∃(O:List Addr) (D7:Hp) (as:As) (args:List PV) (pv:PV) (ds':Ds),
 DS K O D7 as (vs.map U) H (args.map U)/\f args=U (pv,ds')/\∀as' Hm H' v,DS K O D7 as' (vs.map U) Hm ds'->u9 Hm H'->RX K O as' Hm H' v pv->Q v H'
noncomputable def cZ(t:Nat->Addr):Nat->List PV->List PV
 |_,[]=>[]
 |i,.ob _ c::r=>.ob (U (t i)) c::cZ t (i+1) r
 |i,x::r=>x::cZ t (i+1) r
noncomputable def S7(t:Nat->Addr):Nat->List PV->Ds->Ds
 |_,[],_=>[]
 |i,.ob _ _::a,U (.ob w c)::r=>(if w=U (t i)then U (.ob J c)else J)::S7 t (i+1) a r
 |i,_::a,_::r=>J::S7 t (i+1) a r
 |i,_::a,[]=>J::S7 t (i+1) a []
noncomputable def mm(args:List PV)(t:Nat->Addr):Out->Option (PV×Ds)
 | .retO pv ds=>U (pv,S7 t 0 args ds)
 | .next ds=>U (.dat .none,S7 t 0 args ds)
 |_=>J
noncomputable def qt(n N:Nat)(G:DO):List PV->Option (PV×Ds):=λargs=>if args.length=n then
 (open Classical in if h:∃r,∀t,(G ((cZ t 0 args).map U++D3 (N-n) J)).bind (mm args t)=U r then U h.choose else J)else J
def nU{r:PV×Ds}(b:l9.length=m)(h:∀t,(a9 ((cZ t 0 l9).map U++D3 (c8-m) J)).bind (mm l9 t)=U r):qt m c8 a9 l9=U r:=by
 delta qt;rw[f9 b];have a:∃r,∀t,(a9 ((cZ t 0 l9).map U++D3 (c8-m) J)).bind (mm l9 t)=U r:=⟨r,h⟩;rw[dif_pos a];have:=a.choose_spec λ_=>0;rw[h λ_=>0]at this;exact this.symm
set_option tactic.hygienic true in
def HQ{r:PV×Ds}(h:qt m c8 a9 l9=U r):l9.length=m/\∀t,(a9 ((cZ t 0 l9).map U++D3 (c8-m) J)).bind (mm l9 t)=U r:=by
 unfold qt at h;split at h;rename_i a;split at h;rename_i b;cases h;exact⟨a,b.choose_spec⟩;exact nE h;exact nE h
theorem BR(t:Nat->Addr):∀(args:List PV) (i k:Nat),(cZ t i args)[k]? = (args[k]?).map λpv=>match pv with
  | .ob _ c=>.ob (U (t (i+k))) c
  |pv=>pv
 | [],i,k=>by simp[cZ]
 |x::r,i,0=>by cases x<;>simp[cZ]
 |x::r,i,k+1=>by
  have:=BR t r (i+1) k;rw[show i+1+k=i+(k+1)from zi _ _ _]at this
  cases x<;>(assumption)
set_option tactic.hygienic true in
theorem wM(t:Nat->Addr):∀(args:List PV) (i k:Nat) (ds:Ds) (pv:PV),(S7 t i args ds)[k]? = U (U pv)->∃c w b,pv=.ob J c/\args[k]? = U (.ob w b)/\ds[k]? = U (U (.ob (U (t (i+k))) c))
 | [],i,k,ds,pv,h=>by simp[S7]at h
 |x::a,i,0,[],pv,h=>by cases x<;>simp[S7]at h
 |x::a,i,k+1,[],pv,h=>by
  have d:(S7 t (i+1) a [])[k]? = U (U pv):=by cases x<;>simpa [S7]using h
  obtain⟨c,w,b,_,_,h⟩:=wM t a (i+1) k [] pv d;simp at h
 |x::a,i,0,y::r,pv,h=>by
  cases x with
  |ob e b =>
   cases y with
   |none=>simp[S7]at h
   |some y =>
    cases y with
    |ob w c =>
     simp only[S7]at h;split at h;rename_i j;cases h;exact⟨c,e,b,rfl,rfl,by simp[j]⟩;cases h
    |dat _=>simp[S7]at h
    |own _=>simp[S7]at h
  |dat _=>simp[S7]at h
  |own _=>simp[S7]at h
 |x::a,i,k+1,y::r,pv,h=>by
  have d:(S7 t (i+1) a r)[k]? = U (U pv):=by
   cases x with
   |ob e b =>
    cases y with
    |none=>assumption
    |some y=>cases y<;>simpa [S7]using h
   |dat _=>assumption
   |own _=>assumption
  obtain⟨c,w,b,f,g,l⟩:=wM t a (i+1) k r pv d;exact⟨c,w,b,f,by assumption,by rw[pF,l,show i+1+k=i+(k+1)from zi _ _ _]⟩
theorem kD(t:Nat->Addr):∀(args:List PV) (i:Nat) (ds:Ds),(S7 t i args ds).length=args.length
 | [],_,_=>by simp[S7]
 |x::a,i,[]=>by cases x<;>simp[S7,kD t a]
 |x::a,i,y::r=>by
  cases x with
  |ob w c =>
   cases y with
   |none=>simp[S7,kD t a]
   |some y=>cases y<;>simp[S7,kD t a]
  |dat _=>simp[S7,kD t a]
  |own _=>simp[S7,kD t a]
section
variable{K:v9}
def DS.slots(S:DS K O q u D H E){b:St}{ds':Ds}(l:b.length=ds'.length)(h:∀(i:Nat) (pv:PV),ds'[i]? = U (U pv)->∃a,E[i]? = U (U a)/\∀c,cy K O u H D[i]? c a->cy K O u H b[i]? c pv):DS K O q u b H ds':=by
 obtain⟨c,j,e,k⟩:=S.iy;refine⟨l,S.same,S.new,S.eT,c,j,e,λi pv f=>?_⟩;obtain⟨a,d,g⟩:=h i pv f;exact g _ (k i a d)
end
section
variable{w:E1}{K:v9}{mg:Str->Option t2}
def addrOf:Option V->Addr
 |some (.ref a)=>a
 |_=>(0:Nat)
set_option tactic.hygienic true in
def DS.YH{vs:List V}{N:List Str}(S:DS K O q u (vs.map U) H (l9.map U)):
  DS K O q u (L2.start N vs) H ((cZ (λi=>addrOf vs[i]?) 0 l9).map U++D3 (N.length-l9.length) J):=by
 have m:vs.length=l9.length:=by have:=S.ls;simpa using this
 have lt:(cZ (λi=>addrOf vs[i]?) 0 l9).length=l9.length:=by
  have:∀a i t,(cZ t i a).length=a.length:=by
   intro a;induction a with
   |nil=>intro i t;rfl
   |cons x r p=>intro i t;cases x<;>simp[cZ,p]
  exact this _ _ _
 refine S.slots (by delta L2.start;simp[lt,m]) λi pv b=>?_;rw[OE]at b;split at b
 . rename_i z;rw[L1,BR,Option.map_map]at b;have f:i<l9.length:=by simpa [lt]using z
   have e:i<vs.length:=by lia
   rw[L3 f]at b;have k:(L2.start N vs)[i]? = (vs.map U)[i]?:=by delta L2.start;rw[fZ (by simpa using e)]
   have s:(l9.map U)[i]? = U (U l9[i]):=by rw[L1,L3 f];rfl
   refine⟨l9[i],s,λy h=>?_⟩
   rw[k];simp only[qP,Function.comp,Oe]at b;generalize l9[i]=x at b h;cases x with
   |dat d=>simp only at b;rw[<-b];exact h
   |own l=>simp only at b;rw[<-b];exact h
   |ob w c =>
    rw[<-b];obtain⟨v,R,g,A,o,n⟩:=h;refine⟨v,R,g,.inr ?_,o,n⟩;rw[L1]at g;rw[L3 e]at g;have j:vs[i]=.ref v:=by simpa using g
    rw[qG,L3 e,j];rfl
 have:=oJ b;simp[Om]at this
set_option tactic.hygienic true in
def uN.okO {N:List Str} (F:uN K y a0 j3 z d5) (S:kK N Q (M3 j3)) (hN:Q.length<=N.length) (u:∀(j:t2) (A:Z4) (outer:List Env) (s:v5) (H:Hp) (E:XK),N7 m (A.deeper (fq a0 (M3 j3) (hz s) z j)) ->
   ∃t,mw (pQ sS b5 w K mg a7 N a0 (M3 j3) z j A outer s H E).AI (cj j3) t a9):bc b5 w K mg a7 sS (m+1) z d5 Q (lu K (qt Q.length N.length a9)):=by
 have ln:∀g H x E,lu K (qt Q.length N.length a9) g H x E->g.length=Q.length:=λg H x E h=>by obtain⟨O,d,as,q,pv,Z,D,I,X⟩:=h;have:=D.ls;have hl:=(HQ I).1;simp at this;simp[*]
 refine F.ok S ln λj A outer s H g x E hr h=>?_
 obtain⟨O,d,as,q,pv,Z,D,I,X⟩:=h;obtain⟨t,ht⟩:=u j A outer s H E hr;refine⟨t,ht.p,?_⟩;obtain⟨hl,I⟩:=HQ I;have W:=I λi=>addrOf g[i]?
 obtain⟨o,W,C⟩:=r4 W;have S1:=DS.YH (N:=N) D;rw[hl]at S1;have:g.length=Q.length:=by have:=D.ls;simp at this;simp[*]
 have L:∀a l T b,DS K O d a l T b->DS K O d a (g.map U) T (S7 (λi=>addrOf g[i]?) 0 q b):=λa l T b S2=>by
  refine S2.slots (by rw[kD,C5];simp[*]) λi pv hd=>?_;obtain⟨c,w0,c0,rfl,h4,h5⟩:=wM _ _ _ _ _ _ hd;refine⟨_,h5,λrg hs=>?_⟩
  obtain⟨v,R,z1,z2,z3,z4⟩:=hs;refine⟨v,R,?_,.inl rfl,z3,z4⟩;have n:addrOf g[0+i]? = v:=by
   rcases z2 with P|P
   exact nS P;exact V0 P
  rw[qG]at n;obtain⟨v',_,B,_⟩:=D.slot i (.ob w0 c0) (by rw[L1,h4];rfl)
  rw[B];rw[L1]at B;cases e:g[i]? with
  |none=>rw[e]at B;exact nE B
  |some y =>
   rw[e]at B n;have y1':y=.ref v':=by simpa using B
   rw[y1']at n;have Y:v'=v:=n;rw[Y]
 refine ht.t O d as (L2.start N g) H _ _ o S1 W ?_;cases o with
 |next b=>cases C;exact λa l V S'=>X a V V _ (L _ _ _ _ S') (u9.refl _) Dt.non
 |retO pv' b=>cases C;exact λa l T V v S' s r=>X a T V v (L _ _ _ _ S') s r
 |ret pv'=>exact nE C
 |brk b=>exact nE C
 |cont b=>exact nE C
 |up y=>exact nE C
end
inductive AV where
 |d (x:p9)
 |s (i:Nat)
variable{l8:Ds->Option (List AV)}
inductive Bj(K:v9)(Hv:Hp)(σ:St):List V->List AV->Prop
 |nil:Bj K Hv σ [] []
 |d {v x vs l}:Dt K Hv v x->Bj K Hv σ vs l->Bj K Hv σ (v::vs) (.d x::l)
 |s {v i vs l}:σ[i]? = U (U v)->Bj K Hv σ vs l->Bj K Hv σ (v::vs) (.s i::l)
def TAO(K:v9)(t:TA)(F:Ds->Option (List AV)):Prop:=
 ∀(O:List Addr) (D7:Hp) (as:As) (σ:St) (H:Hp) (ds:Ds) (l:List AV) (Q:List V->Hp->Prop),DS K O D7 as σ H ds->F ds=U l->(∀vs H',u9 H H'->Bj K (A6 H' as O) σ vs l->Q vs H')->t σ H Q
structure ud(X:Cx)(es:List Expr)(t:TA)(F:Ds->Option (List AV)):Prop where
 p:PA X es t
 t:TAO X.K t F
noncomputable def eN:Ds->Option (List AV):=λ_=>U []
noncomputable def O5(F:DV)(G:Ds->Option (List AV)):Ds->Option (List AV):=λds=>(F ds).bind λx=>(G ds).bind λl=>U (.d x.d::l)
noncomputable def gZ(i:Nat)(G:Ds->Option (List AV)):Ds->Option (List AV):=λds=>match ds[i]? with
 |some (U (.ob _ _))=>(G ds).bind λl=>U (.s i::l)
 |_=>J
section
def WJ:ud c [] nA eN:=⟨qb,by intro O a d e H X l Q S b q;cases b;exact q [] H (u9.refl H) .nil⟩
def RE(h:PX c Uf e G r)(k:ud c Z M l8)(hs:autoParam (v7 (e::Z) c.env=(U',eval e c.env)::v7 Z c.env) t5):ud c (e::Z) (iS G M) (O5 r l8):=⟨iA h.p k.p hs,by
 intro O a j f H i l Q S b q;obtain⟨x,s,b⟩:=r4 b;obtain⟨m,y,b⟩:=r4 b;cases b;refine h.t O a j f H i x _ S s λv n g u=>?_;refine k.t O a j f n i m _ (S.grow g) y λo w X t=>?_
 exact q (v::o) w (g.trans X) (.d ((u.grow X).dt (S.dm)) t)⟩
set_option tactic.hygienic true in
def RD(i:Nat)(h:PE c e (P7 i))(k:ud c Z M l8)(hs:autoParam (v7 (e::Z) c.env=(U',eval e c.env)::v7 Z c.env) t5):ud c (e::Z) (iS (P7 i) M) (gZ i l8):=⟨iA h k.p hs,by
 intro O b y n H u l Q S a q;unfold gZ at a;split at a;rename_i w X f;obtain⟨m,r,a⟩:=r4 a;cases a;obtain⟨v,R,d,_⟩:=S.slot i _ f;refine⟨_,d,?_⟩;refine k.t O b y n H u m _ S r λg x j o=>?_;exact q (_::g) x j (.s d o)
 . exact nE a⟩
end
noncomputable def rX(ds:Ds):List AV->Option (List PV)
 | []=>U []
 | .d x::l=>(rX ds l).bind λr=>U (.dat x::r)
 | .s i::l=>match ds[i]? with
  |some (U (.ob _ c))=>(rX ds l).bind λr=>U (.ob J c::r)
  |_=>J
noncomputable def U2:List AV->List Nat
 | []=>[]
 | .d _::l=>U2 l
 | .s i::l=>i::U2 l
noncomputable def Jm:Option PV->Option (Option PV)->Option PV
 |some (.ob _ c),U (U (.ob w _))=>U (.ob w c)
 |_,_=>J
set_option tactic.hygienic true in
def Mj{x:Option PV}{o:Option (Option PV)}(h:Jm x o=U i3):∃w c b a,o=U (U (.ob w a))/\x=U (.ob b c)/\i3=.ob w c:=by
 unfold Jm at h;split at h;rename_i b c w a;cases h;exact⟨w,c,b,a,rfl,rfl,rfl⟩;exact nE h
noncomputable def gs:List AV->Ds->Ds->Ds
 | .s i::l,x::r,ds=>gs l r (ds.set i (Jm x ds[i]?))
 | .d _::l,_::r,ds=>gs l r ds
 |_,_,ds=>ds
noncomputable def ja:List AV->Nat->Option Nat
 | [],_=>J
 | .d _::l,j=>(ja l j).map (· + 1)
 | .s i::l,j=>if i=j then U 0 else(ja l j).map (· + 1)
set_option tactic.hygienic true in
theorem lx:∀{l:List AV} {j k:Nat},ja l j=U k->l[k]? = U (.s j)
 | [],j,k,h=>nE h
 | .d x::l,j,k,h=>by simp only[ja,FF]at h;obtain⟨m,a,rfl⟩:=h;rw[pF];exact lx a
 | .s i::l,j,k,h=>by
  simp only[ja]at h;split at h;rename_i e;cases h;rw[e];rfl;simp only[FF]at h;obtain⟨m,a,rfl⟩:=h;rw[pF];exact lx a
theorem cm:∀{l:List AV} {j:Nat},j∈U2 l ↔ ∃k:Nat,l[k]? = U (AV.s j)
 | [],j=>by simp[U2]
 | .d x::l,j=>by
  rw[U2,cm];constructor;rintro⟨k,h⟩;exact⟨k+1,by assumption⟩
  . rintro⟨k,h⟩;cases k with
    |zero=>simp at h
    |succ k=>exact⟨k,by assumption⟩
 | .s i::l,j=>by
  rw[U2,T8,cm];constructor;rintro(h|⟨k,h⟩);exact⟨0,by rw[h];rfl⟩;exact⟨k+1,by assumption⟩
  . rintro⟨k,h⟩;cases k with
    |zero =>
     have a:i=j:=by simpa using h
     exact .inl a.symm
    |succ k=>exact .inr ⟨k,by assumption⟩
theorem kq:∀{l:List AV} {j k:Nat},(U2 l).Nodup->l[k]? = U (.s j)->ja l j=U k
 | [],j,k,_,h=>by simp at h
 | .d x::l,j,k,n,h=>by
  cases k with
  |zero=>simp at h
  |succ k =>
   simp only[ja,kq (l:=l) n h,qP]
 | .s i::l,j,k,n,h=>by
  rw[U2,NM]at n;cases k with
  |zero =>
   have b:i=j:=by simpa using h
   simp[ja,b]
  |succ k =>
   have a:i≠j:=λz=>n.1 (cm.mpr ⟨k,by rw[z];exact h⟩);simp only[ja,f6 a,kq n.2 h,qP]
set_option tactic.hygienic true in
def a1c{l:List AV}(o:Bj g H D N l)(h:rX E l=U l9):N.length=l.length/\l9.length=l.length/\∀(k:Nat) (pv:PV),l9[k]? = U pv ->
  (∃x v,l[k]? = U (AV.d x)/\pv=.dat x/\N[k]? = U v/\Dt g H v x)\/∃i w c v,l[k]? = U (AV.s i)/\E[i]? = U (U (.ob w c))/\pv=.ob J c/\N[k]? = U v/\D[i]? = U (U v):=by
 induction o generalizing l9 with
 |nil =>
  cases h;exact⟨rfl,rfl,λk pv h=>nE h⟩
 |d e t i =>
  obtain⟨r,f,h⟩:=r4 h;cases h;obtain⟨b,K,a⟩:=i f;refine⟨B9 (· + 1) b,B9 (· + 1) K,λk pv h=>?_⟩
  cases k with
  |zero=>exact .inl ⟨_,_,rfl,(V0 h).symm,rfl,e⟩
  |succ k=>exact a k pv h
 |s e t i =>
  rw[rX]at h;split at h
  . rename_i w c n;obtain⟨r,f,h⟩:=r4 h;cases h;obtain⟨b,K,a⟩:=i f;refine⟨B9 (· + 1) b,B9 (· + 1) K,λk pv h=>?_⟩
    cases k with
    |zero=>exact .inr ⟨_,w,c,_,rfl,n,(V0 h).symm,rfl,e⟩
    |succ k=>exact a k pv h
  exact nE h
theorem wy:∀{l:List AV} {ds' ds:Ds},(gs l ds' ds).length=ds.length
 | [],_,_=>by simp[gs]
 | .d _::l,x::r,ds=>by rw[gs];exact wy
 | .d _::l,[],ds=>by simp[gs]
 | .s i::l,[],ds=>by simp[gs]
 | .s i::l,x::r,ds=>by rw[gs,wy,NQ]
theorem wz:∀{l:List AV} {ds' ds:Ds} {j:Nat} {pv:PV},(U2 l).Nodup->ds'.length=l.length->(gs l ds' ds)[j]? = U (U pv) ->
  (j∉U2 l/\ds[j]? = U (U pv))\/∃(k:Nat) (w:Option Addr) (c:OD) (f:Option Addr) (e:OD),l[k]? = U (AV.s j)/\ds[j]? = U (U (.ob w e))/\ds'[k]? = U (U (.ob f c))/\pv=.ob w c
 | [],_,ds,j,pv,_,_,h=>.inl ⟨by simp[U2],by assumption⟩
 | .d x::l,[],ds,j,pv,n,hl,h=>by simp at hl
 | .s x::l,[],ds,j,pv,n,hl,h=>by simp at hl
 | .d x::l,y::r,ds,j,pv,n,hl,h=>by
  rcases wz (l:=l) n (by simpa using hl) h with h|⟨k,w,c,f,e,g,b,o,m⟩
  exact .inl h;exact .inr ⟨k+1,w,c,f,e,by assumption,b,by assumption,m⟩
 | .s i::l,y::r,ds,j,pv,n,hl,h=>by
  rw[U2,NM]at n;rcases wz n.2 (by simpa using hl) h with ⟨g,b⟩|⟨k,v,q,f,e,g,b,o,m⟩
  by_cases a:i=j;subst a;rw[ze,f9 rfl]at b;obtain⟨_,b⟩:=I0 b;obtain⟨w,c,f,e,t,p,u⟩:=Mj (V0 b);exact .inr ⟨0,w,c,f,e,rfl,t,by rw[p];rfl,u⟩;rw[hH a]at b;exact .inl ⟨by rw[U2,T8];exact λz=>z.elim (λz=>a z.symm) g,b⟩;have a:i≠j:=λz=>n.1 (cm.mpr ⟨k,by rw[z];exact g⟩);rw[hH a]at b;exact .inr ⟨k+1,v,q,f,e,by assumption,b,by assumption,m⟩
def MQ(h:∀b,(b∈O\/U b∈u)↔(b∈j6\/U b∈j1)):A6 H u O=A6 H j1 j6:=by
 funext b
 delta A6
 simp_all
section
variable{K:v9}
set_option tactic.hygienic true in
def DS.UX(S:DS K O q u D H E){l:List AV}(ha:Bj K (A6 H u O) D N l)(hp:rX E l=U l9)(hn:(U2 l).Nodup):
  ∃Oc Hc ac,DS K Oc Hc ac (N.map U) H (l9.map U)/\∀f X ds',DS K Oc Hc f (N.map U) X ds'->∃as2,DS K O q as2 D X (gs l ds' E)/\∀H' v pv,u9 X H'->RX K Oc f X H' v pv->RX K O as2 X H' v pv:=by
 obtain⟨rg,r1,r2,r3⟩:=S.iy;obtain⟨l1,l2,l3⟩:=a1c ha hp;have C:∀b,b∈(U2 l).flatMap rg ↔ ∃i∈U2 l,b∈rg i:=λb=>mem_flatMap;generalize hR:(U2 l).flatMap rg=RI at C;generalize hT:(u.filterMap id).filter (λb=>decide (b∉RI))=B
 have n:∀b,b∈B↔U b∈u/\b∉RI:=λb=>by rw[<-hT,List.mem_filter,Fg,qW];simp
 have g:∀b,b∈RI->U b∈u:=λb F=>by obtain⟨i,_,h⟩:=(C b).mp F;exact r1 i b h
 have L:∀(R:List Addr) b,U b∈R.map U↔b∈R:=λR b=>by simp
 have G:∀b o,A6 H (RI.map U) [] b=U o↔b∉RI/\H b=U o:=λb o=>by rw[E3,L];simp
 have e0:∀H,A6 H (RI.map U) (O++B)=A6 H u O:=λH=>MQ λb=>by
  rw[L,jC,n];constructor;rintro((h|⟨h,_⟩)|h);exact .inl h;exact .inr h;exact .inr (g b h);rintro(h|h);exact .inl (.inl h);by_cases c:b∈RI;exact .inr c;exact .inl (.inr ⟨h,c⟩)
 refine⟨O++B,A6 H (RI.map U) [],RI.map U,⟨?_,C1,λa h=>?_,λa h=>?_,λk=>match l[k]? with|some (.s i)=>rg i|_=>[],λk b h=>?_,λk k' b h A=>?_,λk pv h=>?_⟩,?_⟩;simp[l1,l2];rw[L]at h;exact⟨by delta A6;rw[f9 (.inr ((L _ _).mpr h))],(S.new a (g a h)).2⟩
 . rcases List.mem_append.mp h with h|h
   obtain⟨o,z⟩:=S.eT a h;exact⟨o,(G a o).mpr ⟨λσ=>S.nO (g a σ) h,S.same _ _ z⟩⟩;obtain⟨m,p⟩:=(n a).mp h;obtain⟨_,I,z⟩:=S.new a m;exact⟨_,(G a _).mpr ⟨p,z⟩⟩
 dsimp only at h;split at h;rename_i i M;rw[L,C];exact⟨i,cm.mpr ⟨k,M⟩,h⟩;simp at h;dsimp only at h A;split at h;rename_i i M;split at A;rename_i i' hi';have:=r2 i i' b h A;subst this;have q1:=kq hn M;rw[kq hn hi']at q1;exact(V0 q1).symm;simp at A;simp at h
 . rw[L1]at h;cases t:l9[k]? with
   |none=>rw[t]at h;exact nE h
   |some pv0 =>
    rw[t]at h;have A:pv0=pv:=by simpa using h
    subst A;rcases l3 k pv0 t with ⟨x,v,D7,rfl,z3,z4⟩|⟨i,w,c,v,D7,z2,rfl,z3,z4⟩
    exact⟨v,by rw[L1,z3];rfl,by rw[e0];exact z4⟩
    . dsimp only;rw[D7];obtain⟨v',R,Q,y2,Y,Z⟩:=r3 i _ z2;rw[z4]at Q;have W:v=.ref v':=by simpa using Q
      subst W;exact⟨v',R,by rw[L1,z3];rfl,.inl rfl,Y,by rw[e0];exact Z⟩
 intro f X ds' P;obtain⟨rg',q1,q2,q3⟩:=P.iy;have hl':ds'.length=l.length:=by have:=P.ls;simp at this;lia
 have na:∀b,U b∈f->b∉O/\b∉B/\q b=J:=λb F=>by
  have z:=(P.new b F).1;refine⟨λσ=>?_,λσ=>?_,?_⟩;obtain⟨o,y⟩:=S.eT b σ;rw[(G b o).mpr ⟨λq'=>S.nO (g b q') σ,S.same _ _ y⟩]at z;exact nS z;obtain⟨m,p⟩:=(n b).mp σ;obtain⟨_,I,y⟩:=S.new b m;rw[(G b _).mpr ⟨p,y⟩]at z;exact nS z
  . cases y:q b with
    |none=>rfl
    |some o =>
     rw[(G b o).mpr ⟨λq'=>?_,S.same _ _ y⟩]at z;exact nS z;rw[(S.new b (g b q')).1]at y;exact nE y
 have e1:∀H xs,A6 H (xs++f) (O++B)=A6 H (xs++(f++B.map U)) O:=λH xs=>MQ λb=>by
  rw[jC,jC,jC,jC,L];constructor;rintro((h|h)|h|h);exact .inl h;exact .inr (.inr (.inr h));exact .inr (.inl h);exact .inr (.inr (.inl h));rintro(h|h|h|h);exact .inl (.inl h);exact .inr (.inl h);exact .inr (.inr h);exact .inl (.inr h)
 have e2:∀H:Hp,A6 H f (O++B)=A6 H (f++B.map U) O:=λH=>e1 H []
 have sm:u9 (A6 H u O) (A6 X (f++B.map U) O):=fm λb o m p T=>by
  have F:=λz=>p (g b z);refine⟨m,λz=>?_,P.same _ _ ((G b o).mpr ⟨F,T⟩)⟩
  rcases List.mem_append.mp z with z|z
  have:=(P.new b z).1;rw[(G b o).mpr ⟨F,T⟩]at this;exact nS this;exact p ((n b).mp ((L _ _).mp z)).1
 refine⟨f++B.map U,⟨by rw[wy];exact S.ls,λb o h=>P.same _ _ ((G b o).mpr ⟨λq'=>?_,S.same _ _ h⟩),λb h=>?_,S.eT,λj=>match ja l j with|some k=>rg' k|none=>rg j,λj b h=>?_,λj ds b h A=>?_,λj pv h=>?_⟩,λH' v pv s r=>?_⟩;rw[(S.new b (g b q')).1]at h;exact nE h
 . rcases List.mem_append.mp h with h|h
   exact⟨(na b h).2.2,(P.new b h).2⟩;obtain⟨m,p⟩:=(n b).mp ((L _ _).mp h);obtain⟨z,I,y⟩:=S.new b m;exact⟨z,I,P.same _ _ ((G b _).mpr ⟨p,y⟩)⟩
 dsimp only at h;split at h;exact T9 _ (q1 _ b h);rename_i hj;refine K6 _ ((L _ _).mpr ((n b).mpr ⟨r1 j b h,λz=>?_⟩));obtain⟨i,M,z⟩:=(C b).mp z;have:=r2 i j b z h;subst this;obtain⟨k,t⟩:=cm.mp M;rw[kq hn t]at hj;exact nS hj
 . have no:∀(j ds k),ja l j=U k->ja l ds=J->b∈rg' k->b∈rg ds->False:=λj ds k hj hj' F hb'=>by
     have z:=q1 k b F;have:b∉RI:=λz=>by obtain⟨i,M,z⟩:=(C b).mp z;have:=r2 i ds b z hb';subst this;obtain⟨k,t⟩:=cm.mp M;rw[kq hn t]at hj';exact nS hj'
     exact(na b z).2.1 ((n b).mpr ⟨r1 ds b hb',this⟩)
   dsimp only at h A;split at h;rename_i k t;split at A;rename_i k' as;have:=q2 k k' b h A;subst this;have D7:=lx t;rw[lx as]at D7;cases D7;rfl;rename_i as;exact(no j ds k t as h A).elim;rename_i t;split at A;rename_i k' as;exact(no ds j k' as t A h).elim;exact r2 j ds b h A
 . rcases wz hn hl' h with ⟨m,p⟩|⟨k,w,c,w0,c0,m,p,T,rfl⟩
   . have:ja l j=J:=by
       cases z:ja l j with
       |none=>rfl
       |some k=>exact absurd (cm.mpr ⟨k,lx z⟩) m
     dsimp only;rw[this];refine(r3 j pv p).AG sm (λb F o z=>P.same _ _ ((G b o).mpr ⟨λσ=>?_,z⟩)) λb z=>z;obtain⟨i,M,y⟩:=(C b).mp σ;have e:=r2 i j b y F;subst e;exact m M
   . dsimp only;rw[kq hn m];obtain⟨v',R,Q,y2,Y,Z⟩:=q3 k _ T;obtain⟨v0,R0,x1,x2,_⟩:=r3 j _ p;have t:k<l9.length:=by rw[l2];exact(List.getElem?_eq_some_iff.mp m).1
     rcases l3 k _ (L3 t)with ⟨x,v,D7,_⟩|⟨i,w',c',v,D7,z2,z3,z4,z5⟩
     rw[m]at D7;cases D7
     . rw[m]at D7;cases D7;rw[L1,z4]at Q;have W:v=.ref v':=by simpa using Q
       subst W;rw[z5]at x1;have x1':v'=v0:=by simpa using x1
       subst x1';exact⟨v',R,z5,x2,Y,by rw[<-e2];exact Z⟩
 . cases pv with
   |dat d =>
    have r':Dt K (A6 H' f (O++B)) v d:=r;rw[e2]at r';exact r'
   |own l =>
    obtain⟨a,xs,Q,y2,Y,Z⟩:=r;refine⟨a,xs,Q,y2,Y,?_⟩;have:=e1 H' [U a];rw[show(U a::(f++B.map U))=[U a]++(f++B.map U)from rfl,<-this];exact Z
   |ob w c =>
    obtain⟨o,R,Q,y2,Y,Z⟩:=r;refine⟨o,R,Q,y2,Y,?_⟩;rw[<-e1 H' (R.map U)];exact Z
end
def TXO(K:v9)(te:TE)(F:Ds->Option (PV×Ds)):Prop:=
 ∀(O:List Addr) (D7:Hp) (as:As) (σ:St) (H:Hp) (ds:Ds) (pv:PV) (ds':Ds) (Q:VK),DS K O D7 as σ H ds->F ds=U (pv,ds')->(∀as' Hm H' v,DS K O D7 as' σ Hm ds'->u9 Hm H'->RX K O as' Hm H' v pv->Q v H')->te σ H Q
structure vW(X:Cx)(e:Expr)(te:TE)(F:Ds->Option (PV×Ds)):Prop where
 p:PE X e te
 t:TXO X.K te F
noncomputable def jl(f:List PV->Option (PV×Ds))(Fl:Ds->Option (List AV)):Ds->Option (PV×Ds):=λds=>(Fl ds).bind λl=>if (U2 l).Nodup then(rX ds l).bind λargs=>(f args).bind λr=>U (r.1,gs l r.2 ds)else J
section
def PQ{f':List PV->Option (PV×Ds)}(z:ud c Z M l8):TXO c.K (ro (lu c.K f') [] d9 M) (jl f' l8):=by
 intro O b I p H s pv o Q S a q;obtain⟨l,D,a⟩:=r4 a;obtain⟨r,a⟩:=I0 a;obtain⟨X,y,a⟩:=r4 a;obtain⟨⟨d,j⟩,w,a⟩:=r4 a;cases a;refine z.t O b I p H s l _ S D λL t m u=>?_;obtain⟨F,A,k,C,back⟩:=(S.grow m).UX u y r;rw[bV];refine⟨F,A,k,X,d,j,C,w,λe i h v G g B=>?_⟩;obtain⟨f,n,x⟩:=back e i j G;exact q f i h v n g (x h v d g B)
def QF{f':List PV->Option (PV×Ds)}(G:bc c.prog c.w c.K c.mg c.base i6 m z d5 Q (lu c.K f'))(l:N7 m c.A)(n:Gl c y)(h:c.mg y=U (.ref z))(i:gT c.K (.ref z)=Uf)(X:Binds c.K d5 Q [])(g:Passes i6 c d9)(d:ud c (e::Z) M l8)(b:autoParam ((y==("__debug__" : Str))=U') F8)(j:autoParam (v7 (e::Z) c.env=(U',eval e c.env)::v7 Z c.env) t5)(a:autoParam ((F9 A (v7 Z c.env)).any (·.1)=U') t5):
  vW c (.Call (.Name y p) (e::Z) [] A) (ro (lu c.K f') [] d9 M) (jl f' l8):=⟨Hj G l n h i X .nil g d.p b j a,PQ d⟩
noncomputable def O0(nm m:Str)(i:Nat)(f:List PV->Option (PV×Ds))(Fl:Ds->Option (List AV)):Ds->Option (PV×Ds):=λds=>(gw nm i ds).bind λx=>match D2 m x.2 with
 |none=>jl f (gZ i Fl) ds
 |some _=>J
def PN{f':List PV->Option (PV×Ds)}(T:dH c.K y z)(I:ud c Z M l8):TXO c.K (mI z a0 (lu c.K f') [] d9 (P7 c8) M) (O0 y a0 c8 f' l8):=by
 intro O X Y F H ds pv ds' Q S a q;obtain⟨⟨w,fs⟩,W,a⟩:=r4 a;have n:=cK W;have b:=a;obtain⟨v,R,u,_,hR,C',dx,A,R',rfl,P,N,x⟩:=S.slot c8 _ n;have ec:=T.eq P;subst ec;cases hl:D2 a0 fs with
 |some _=>simp_all
 |none =>
  rw[hl]at b;refine⟨_,u,v,dx,A,rfl,N,x.a0j hl,?_⟩;obtain⟨l,h,a⟩:=r4 b;unfold gZ at h;rw[n]at h;obtain⟨L,g,f⟩:=r4 h;cases f;obtain⟨hn,a⟩:=I0 a;obtain⟨d,h2,a⟩:=r4 a;obtain⟨⟨e,m⟩,h3,a⟩:=r4 a;cases a;refine I.t O X Y F H ds L _ S g λvs H1 D r1=>?_;obtain⟨V,Hc,B,Sc,back⟩:=(S.grow D).UX (.s u r1) h2 hn;rw[bV];refine⟨V,Hc,B,d,e,m,Sc,h3,λj p o v S' r C=>?_⟩;obtain⟨k,t,G⟩:=back j p m S';exact q k p o v t r (G o v e r C)
def ko {f':List PV->Option (PV × Ds)} {pl:Sem Bool} (X:dH c.K y T) (r:PE c o (P7 c8)) (l:Meth c.K T a0 z) (G:bc c.prog c.w c.K c.mg c.base i6 m z d5 Q (lu c.K f')) (n:N7 m c.A) (q:Binds c.K d5 Q []) (j:Passes i6 c d9) (g:ud c (e::Z) M l8) (a:autoParam (v7 (e::Z) c.env=(U',eval e c.env)::v7 Z c.env) t5) (b:autoParam ((F9 p (v7 Z c.env)).any (·.1)=U') t5) (h:autoParam (eval (.Call (.Attribute o a0 A) (e::Z) [] p) c.env=(do
   let ov <- eval o c.env
   dw A.atName
   let (z,first) <- holding [ov] (jx ov a0 pl)
   callWith p z first (F9 p (v7 (e::Z) c.env)) (bO p (dX [] c.env)))) t5) :
  vW c (.Call (.Attribute o a0 A) (e::Z) [] p) (mI T a0 (lu c.K f') [] d9 (P7 c8) M) (O0 y a0 c8 f' l8):=⟨Hh r X.cl l G n q .nil j g.p a b h,PN X g⟩
def VY (d:dH c.K y T) (l:PX c I o G r) (s:Meth c.K T a0 z) (t:bc c.prog c.w c.K c.mg c.base i6 m z d5 Q (E9 c.K i4)) (u:N7 m c.A) (v:Binds c.K d5 Q []) (n:Passes i6 c d9) (i:dq c I (e::Z) M P) (a:autoParam (v7 (e::Z) c.env=(U',eval e c.env)::v7 Z c.env) t5) (X:autoParam ((F9 p (v7 Z c.env)).any (·.1)=U') t5) (q:autoParam (eval (.Call (.Attribute o a0 A) (e::Z) [] p) c.env=(do
   let ov <- eval o c.env
   dw A.atName
   let (z,first) <- holding [ov] (jx ov a0 m3)
   callWith p z first (F9 p (v7 (e::Z) c.env)) (bO p (dX [] c.env)))) t5) :
  PX c I (.Call (.Attribute o a0 A) (e::Z) [] p) (mI T a0 (E9 c.K i4) [] d9 G M) (R1 y a0 i4 r P):=⟨Hh l.p d.cl s t u v .nil n i.p a X q,GI d l i⟩
def QI (g:dH c.K y T) (e:PX c I o G r) (j:Meth c.K T a0 z) (X:bc c.prog c.w c.K c.mg c.base i6 m z d5 Q (E9 c.K i4)) (l:N7 m c.A) (n:Binds c.K d5 Q []) (i:Passes i6 c d9) (h:autoParam (eval (.Call (.Attribute o a0 A) [] [] p) c.env=(do
   let ov <- eval o c.env
   dw A.atName
   let (z,first) <- holding [ov] (jx ov a0 m3)
   callWith p z first (F9 p (v7 [] c.env)) (bO p (dX [] c.env)))) t5) :
  PX c I (.Call (.Attribute o a0 A) [] [] p) (mI T a0 (E9 c.K i4) [] d9 G nA) (R1 y a0 i4 r u3):=⟨Ry e.p g.cl j X l n .nil i h,GI g e Hk⟩
noncomputable def P1(F:Ds->Option (PV×Ds)):DO:=λds=>(F ds).bind λr=>U (.next r.2)
noncomputable def lB:DO:=λds=>U (.retO (.dat .none) ds)
def Lz{FO:Ds->Option (PV×Ds)}(b:vW c e G FO)(hs:autoParam (bS e J p.line c.env=pure U') t5):O1 c (.Expr e p) (uZ G) (P1 FO):=⟨pZ b.p hs,by intro O a l f H j D o S h q;obtain⟨⟨pv,X⟩,g,h⟩:=r4 h;cases h;exact b.t O a l f H j pv X _ S g λi m r v k d n=>q _ _ _ (k.grow d)⟩
def Lx:O1 c (.Return J p) Ul lB:=⟨Wv,by intro O a b X H d D o S h q;cases h;exact q b X H H _ S (u9.refl H) Dt.non⟩
noncomputable def Jr:PV×Ds->Option OD
 |(.dat .none,U (.ob _ c)::_)=>U c
 |_=>J
set_option tactic.hygienic true in
def Ms{r:PV×Ds}{c:OD}(h:Jr r=U c):∃w d,r=(.dat .none,U (.ob w c)::d):=by
 unfold Jr at h;split at h;rename_i w a d;cases h;exact⟨w,d,rfl⟩;exact nE h
noncomputable def rL(nm:Str)(f:List PV->Option (PV×Ds))(Fl:DL):DV:=λds=>(Fl ds).bind λl=>(f (.ob J (.ins nm [])::l.map .dat)).bind λr=>(Jr r).bind λc=>U (.ob J c)
set_option tactic.hygienic true in
def VZ{f':List PV->Option (PV×Ds)}(C:dH c.K y T)(E:Mk c.K T z)(G:bc c.prog c.w c.K c.mg c.base i6 m z d5 Q (lu c.K f'))(hr:N7 (m+1) c.A)(hg:Gl c y)(hm:c.mg y=U (.ref T))(r:Binds c.K d5 Q [])(hx:Passes i6 c d9)(ha:dq c Uf (e::Z) M P)(hdb:autoParam ((y==("__debug__" : Str))=U') F8)(he:autoParam (v7 (e::Z) c.env=(U',eval e c.env)::v7 Z c.env) t5)(hpl:autoParam ((F9 A (v7 Z c.env)).any (·.1)=U') t5):
  PX c Uf (.Call (.Name y p) (e::Z) [] A) (Uq T (lu c.K f') [] d9 M) (rL y f' P):=⟨WE E G hr hg hm r .nil hx ha.p hdb he hpl,by
 intro O D as σ H ds pv x S k q;obtain⟨l,K,k⟩:=r4 k;obtain⟨r0,h2,k⟩:=r4 k;obtain⟨X,h3,k⟩:=r4 k;cases k;obtain⟨w,dr,rfl⟩:=Ms h3;refine ha.t O D as σ H ds l _ S K λvs g Y r1=>λf j hz hdx hne=>?_
 have S1:=S.grow Y;have nas:∀b,U b∈as->∃u,g b=U u:=λb r=>let ⟨_,u,i⟩:=S1.new b r;⟨_,i⟩
 generalize hT:as.filterMap id=RT;have n:∀b,b∈RT↔U b∈as:=λb=>by rw[<-hT,Fg];simp
 have I:u9 g (upd g j (.own f)):=u9.new hdx;have B:upd g j (.own f) f=J:=by rw[J4 (λi=>hne i.symm)];exact hz
 have sz:u9 (upd g j (.own f)) (upd (upd g j (.own f)) f (.ins T j [])):=u9.new B;have nz:∀b u,g b=U u->b≠f:=λb u h i=>by rw[i,hz]at h;exact nE h
 refine⟨O++RT,upd g j (.own f),[U f],_,_,_,?_,h2,λas' Hm H' v S' s' r'=>?_⟩
 . have hl:=r1.length;refine⟨by simp[hl],sz,λa h=>?_,λa h=>?_,λm=>if m=0 then[f]else[],λm b h=>?_,λm k' b h L=>?_,λm pv h=>?_⟩
   . have:a=f:=by simpa using h
     subst this;exact⟨B,Cl.i T j [],O3⟩
   . rcases List.mem_append.mp h with h|h
     obtain⟨u,i⟩:=S1.eT a h;exact⟨u,I _ _ (S1.same _ _ i)⟩;obtain⟨u,i⟩:=nas a ((n a).mp h);exact⟨u,I _ _ i⟩
   dsimp only at h;split at h;rw[mem_singleton.mp h];exact D1;simp at h;dsimp only at h L;split at h;split at L;rename_i s F;rw[s,F];simp at L;simp at h
   . cases m with
     |zero =>
      have L:PV.ob J (OD.ins y [])=pv:=by simpa using h
      rw[<-L];exact⟨f,[f],rfl,.inl rfl,λb r=>r,T,j,[],[],rfl,C.ns,O3,.nil⟩
     |succ m =>
      simp only[C7,pF,cW,L1,FF,Function.comp,Oe]at h;obtain⟨d,h3,rfl⟩:=h;obtain⟨v,y1,V⟩:=r1.get h3;refine⟨v,by simp[y1],V.same (fm λb o s F N=>⟨λi=>?_,λi=>?_,sz _ _ (I _ _ N)⟩)⟩
      . rcases List.mem_append.mp i with i|i
        exact s i;exact F ((n b).mp i)
      . have:b=f:=by simpa using i
        exact nz b o N this
 . obtain⟨v',R,y1,_,V,y3⟩:=S'.slot 0 (.ob w X) rfl;have t:f=v':=by simpa using y1
   subst t;have ev:v=.non:=by cases r';rfl
   refine⟨ev,q _ H' (Y.trans ((I.trans S'.same).trans s')) ⟨f,R,rfl,.inl rfl,λb r=>?_,y3.same (fm λb o s F N=>⟨λi=>s (T9 _ i),λi=>?_,s' _ _ N⟩) λb _ o i=>s' _ _ i⟩⟩;have:=(S'.new b (V b r)).1;exact Y.free (I.free this)
   . rcases List.mem_append.mp i with i|i
     obtain⟨b',q1,q2⟩:=mem_map.mp i;cases q2;exact F (V b q1)
     . exact s (K6 _ ((n b).mpr i))⟩
end
def QM(a:c.K=g)(T:dH g y z)(n:ay g z a0)(h:PX c I o G r)(b:autoParam (aL o a0 c.env (eval o c.env)=eval o c.env) t5):PX c I (.Attribute o a0 p) (rn g G a0) (F5 y a0 r):=by subst a;exact Wb T n h b
def QH(a:c.K=g)(T:dH g y z)(n:ay g z a0)(h:PE c o (P7 m))(b:autoParam (aL o a0 c.env (eval o c.env)=eval o c.env) t5):PX c I (.Attribute o a0 p) (rn g (P7 m) a0) (N0 y m a0):=by subst a;exact VX T n h b
def VW(X:c.K=g)(T:dH g y z)(n:ay g z a0)(h:PE c o (P7 m))(d:PX c I e G r)(a:autoParam (aL o a0 c.env (eval o c.env)=eval o c.env) t5)(hs:autoParam (qA e) vA):PX c I (.Subscript (.Attribute o a0 A) e p) (sx (GY g) (rn g (P7 m) a0) G) (hZ y m a0 r):=by subst X;exact Zn T n h d a hs
def wx {pl:Sem Bool} (j:c.K=g) (t:dH g y z) (h:PX c I o G r) (i:Meth g z a0 T) (k:bc c.prog c.w g c.mg c.base i6 m T d5 Q (E9 g i4)) (n:N7 m c.A) (C:Binds g d5 Q []) (d:Passes i6 c d9) (l:dq c I (e::Z) M P) (b:autoParam (v7 (e::Z) c.env=(U',eval e c.env)::v7 Z c.env) t5) (a:autoParam ((F9 p (v7 Z c.env)).any (·.1)=U') t5) (X:autoParam (eval (.Call (.Attribute o a0 A) (e::Z) [] p) c.env=(do
   let ov <- eval o c.env
   dw A.atName
   let (f,first) <- holding [ov] (jx ov a0 pl)
   callWith p f first (F9 p (v7 (e::Z) c.env)) (bO p (dX [] c.env)))) t5) :
  PX c I (.Call (.Attribute o a0 A) (e::Z) [] p) (mI z a0 (E9 g i4) [] d9 G M) (R1 y a0 i4 r P):=by subst j;exact VY t h i k n C d l b a X
def Ll {pl:Sem Bool} (e:c.K=g) (C:dH g y z) (X:PX c I o G r) (d:Meth g z a0 T) (k:bc c.prog c.w g c.mg c.base i6 m T d5 Q (E9 g i4)) (h:N7 m c.A) (i:Binds g d5 Q []) (b:Passes i6 c d9) (a:autoParam (eval (.Call (.Attribute o a0 A) [] [] p) c.env=(do
   let ov <- eval o c.env
   dw A.atName
   let (f,first) <- holding [ov] (jx ov a0 pl)
   callWith p f first (F9 p (v7 [] c.env)) (bO p (dX [] c.env)))) t5) :
  PX c I (.Call (.Attribute o a0 A) [] [] p) (mI z a0 (E9 g i4) [] d9 G nA) (R1 y a0 i4 r u3):=by subst e;exact QI C X d k h i b a
def Jp(Fc:DB)(G:DO):Ds->Nat:=λds=>open Classical in if h:∃m,∃o,N2 Fc G m ds=U o then h.choose else 0
set_option tactic.hygienic true in
def Ga:∀{m:Nat} {ds:Ds} {o:Out},N2 a6 a9 m ds=U o->N2 a6 a9 (m+1) ds=U o:=by
 intro l_;induction l_ with
 |zero =>
  intro ds o h;exact nE h
 |succ m ih_ =>
  intro ds o h;rw[N2]at h ⊢;obtain⟨b,c,h⟩:=r4 h;rw[c];cases b with
  |false=>exact h
  |true =>
   obtain⟨r,d,h⟩:=r4 h;rw[d];cases r with
   |next a=>exact ih_ h
   |cont a=>exact ih_ h
   |brk a=>exact h
   |ret pv=>exact h
   |up x=>exact h
   |retO pv a=>exact h
def Aw{o:Out}(h:N2 a6 a9 m E=U o)(n:Nat):N2 a6 a9 (m+n) E=U o:=by
 induction n with
 |zero=>exact h
 |succ n a=>exact Ga a
def JK{o:Out}(h:N2 a6 a9 m E=U o):jh (Jp a6 a9) a6 a9 E=U o:=by have a:∃m,∃o,N2 a6 a9 m E=U o:=⟨m,o,h⟩;delta jh Jp;rw[dif_pos a];obtain⟨d,c⟩:=a.choose_spec;rw[c];have b:=Aw h a.choose;rw[qH]at b;rw[(Aw c m)]at b;exact b
def mul_list{u:Tok}(j:B.heap.IsList z j2.toArray)(g : -(2 ^ 63:Int)<=a1)(n:a1<2 ^ 63)(hsz:j2.length*a1.toNat<=100000)(h:c6 (.ref (hz B)) {B with heap:=B.heap.push {cls:=yD "list",data:=Data.seq (D3 a1.toNat j2).flatten.toArray}}):wpAny (model b5 i5) L (aA .Mult (.ref z) (.int a1 u)) c6 Y B:=by
 obtain⟨⟨e,d,b,f⟩,a,c,k,i⟩:=id j;subst c i;have:j2.toArray.size*a1.toNat<=100000:=by omega
 refine wpAny_binaryOp_repeat_ref f5 ⟨_,a,rfl⟩ (λm=>typeIs_int m a1 u) noFill_list_mul F.fills_int_mul F.slot_int_rmul repeat_list F.slot_int_index.lookup
  (lM F.slot_int_rmul (typeIs_int B a1 u) F.entry_int_rmul (F.args_int_rmul_2 _ _) (lm_int_rmul_list_any a1 u z j2.toArray k d f)
   ⟨a,rfl,⟨_,a,rfl⟩,lM F.slot_list_mul ⟨_,a,rfl⟩ F.entry_list_mul (F.args_list_mul_2 _ _)
    (lm_list_mul_any z j2.toArray k d f a1 u (by simp[Builtin.List.listFitsIndex];exact⟨s9,s9⟩) r9 (by simp[FP,E6];exact pd))
    ⟨a,?_⟩⟩)
 rw[listMul_foldl_if];exact h
def IH(K:v9):R2:=λx y H Q=>∃a xs j,x=.ref a/\y=.int j/\M8 K H a xs/\(-(2 ^ 62)<j/\j<2 ^ 62)/\xs.length*j.toNat<=100000/\∀p,H p=J->Q (.ref p) (upd H p (.lst (D3 j.toNat xs).flatten))
def PJ(h:Vals N j2):∀n,Vals (D3 n N).flatten (D3 n j2).flatten:=by
 intro l_;induction l_ with
 |zero =>
  exact .nil
 |succ n ih_ =>
  exact h.append (ih_)
def WM:U5 c (aA .Mult) (IH c.K):=by
 intro b s k H x y v u Q I g f h;obtain⟨a,n,j,rfl,rfl,i,l,X,q⟩:=h;cases g;obtain⟨t,rfl⟩:=f;obtain⟨d,r,e,m⟩:=I.list i;refine mul_list e.isList r9 r9 (by rw[<-r.length];exact X) ?_;refine⟨.ref _,_,I.a0r (PJ r _) ?_,rfl,q _ I.fresh⟩;rw[List.length_flatten,Ol,List.sum_replicate_nat,uq];exact B6 X (oW f5)
noncomputable def eS:p9->p9->Option PV
 | .list l,.int j=>if (0<=j/\j.toNat<=100000)/\l.length*j.toNat<=100000 then U (.own (D3 j.toNat l).flatten)else J
 |_,_=>J
def XE(h:C8 g H N S):∀n,C8 g H (D3 n N).flatten (D3 n S).flatten:=by
 intro l_;induction l_ with
 |zero =>
  exact .nil
 |succ n ih_ =>
  exact h.append (ih_)
set_option tactic.hygienic true in
def Yc:cQ g (IH g) eS:=by
 intro O o H x y d e pv Q D k i c q;cases k with
 |lst h f =>
  cases i with
  |int j =>
   rename_i a n l;have b:(if (0<=j/\j.toNat<=100000)/\l.length*j.toNat<=100000 then U (PV.own (D3 j.toNat l).flatten)else J)=U pv:=c;obtain⟨m,b⟩:=I0 b;cases b;exact⟨a,n,j,rfl,rfl,C1.seq h,by omega,by rw[f.length];exact m.2,λp K=>q _ _ (u9.new K) (nG K (XE f _))⟩
  |_=>exact nE c
 |_=>exact nE c
def QC(K:v9):R2:=λx y H Q=>(mD λi j=>.bl (decide (i<j))) x y H Q\/Zc K x y H Q
def ZZ(a:c.A.units+64<R3):U5 c (W5 .Lt) (QC c.K):=BC.or (a0a r9)
noncomputable def zS(a b:p9):Option PV:=
 match a with
 | .int i=>match b with
  | .int j=>U (.dat (.bool (decide (i<j))))
  |_=>J
 | .tuple l=>match b with
  | .tuple m=>(intsOf l).bind λx=>(intsOf m).map λy=>.dat (.bool (HT.lexLt x y))
  |_=>J
 |_=>J
def a1u:cQ g (QC g) zS:=by
 intro O p H x y d e pv Q D h i a q;cases h with
 |int=>cases i with
  |int=>cases a;exact .inl ⟨_,_,rfl,rfl,q _ H (u9.refl H) (Dt.bl _)⟩
  |_=>cases a
 |tup k n=>cases i with
  |tup b K =>
   have⟨_,u,a⟩:=Option.bind_eq_some_iff.1 a;have⟨_,v,a⟩:=Option.map_eq_some_iff.1 a;cases a;cases n.ints u;cases K.ints v;exact .inr ⟨_,_,_,_,rfl,rfl,C1.gr k,C1.gr b,q _ H (u9.refl H) (Dt.bl _)⟩
  |_=>cases a
 |_=>cases a
def kh(l:List d3):List (Str×d3):=l.map λx=>(lL,x)
def a1X(l:List d3):(kh l).map (·.2)=l:=by delta kh;rw[cW];exact List.map_id l
def TAF(K:v9)(t:TA)(F:Ds->Option (List PF)):Prop:=
 ∀(O:List Addr) (D7:Hp) (as:As) (σ:St) (H:Hp) (ds:Ds) (fs:List PF) (Q:List V->Hp->Prop),DS K O D7 as σ H ds->F ds=U fs->(∀vs H' R,u9 H H'->(∀b∈R,H b=J)->Q4 K (A6 H' (R.map U++as) O) H' (kh vs) (kh fs) R->Q vs H')->t σ H Q
structure PAF(X:Cx)(es:List Expr)(t:TA)(F:Ds->Option (List PF)):Prop where
 p:PA X es t
 t:TAF X.K t F
def Q4.pos(t:Q4 g q H j7 h8 O):∀{k:Nat},h8[k]? = U (y,.own S) ->
  ∃a xs,j7[k]? = U (y,.ref a)/\H a=U (.lst xs)/\a∈O/\∀{Hv' H':Hp} {m:List p9} {ys:List V},u9 q Hv'->(∀b∈O,b≠a->∀o,H b=U o->H' b=U o)->H' a=U (.lst ys)->C8 g Hv' ys m->Q4 g Hv' H' j7 (h8.set k (y,.own m)) O:=by
 induction t with
 |nil=>intro k h;simp at h
 | @dat R x d j7 h8 O F t C =>
  intro k h;cases k with
  |zero=>simp at h
  |succ k =>
   obtain⟨a,xs,u,s,f,r⟩:=C (by simpa using h);exact⟨a,xs,by simpa using u,s,f,λe c j K=>.dat (F.same e) (r e c j K)⟩
 | @own R w B E j7 h8 O v A i t C =>
  intro k h;cases k with
  |zero =>
   have G:(R,PF.own E)=(y,PF.own S):=by simpa using h
   cases G;exact⟨w,B,rfl,v,D1,λe c j K=>.own j K i (t.same e λb p=>c b (C6 _ p) λz=>i (z▸p))⟩
  |succ k =>
   obtain⟨a,xs,u,s,f,r⟩:=C (by simpa using h);exact⟨a,xs,by simpa using u,s,C6 _ f,λe c j K=>.own (c w D1 (λz=>i (z▸f)) _ v) (A.same e) i (r e (λb p=>c b (C6 _ p)) j K)⟩
 | @dct R w D I j7 h8 O v A i t C =>
  intro k h;cases k with
  |zero=>simp at h
  |succ k =>
   obtain⟨a,xs,u,s,f,r⟩:=C (by simpa using h);exact⟨a,xs,by simpa using u,s,C6 _ f,λe c j K=>.dct (c w D1 (λz=>i (z▸f)) _ v) (A.same e) i (r e (λb p=>c b (C6 _ p)) j K)⟩
section
variable{j}
end
def Q4.snoc(h:uP g q H a2 k7 O)(t:Q4 g q H j7 h8 j6)(d:∀b∈O,b∉j6):∃R',Q4 g q H (j7++[(y,a2)]) (h8++[(y,k7)]) R'/\∀b,b∈R'↔b∈O\/b∈j6:=by
 induction t with
 |nil=>exact⟨O++[],Q4.cons h (λb _=>by simp) .nil,λb=>by simp⟩
 |dat j t f =>
  obtain⟨R',e,c⟩:=f d;exact⟨R',.dat j e,c⟩
 | @own o a s l j7 h8 j6 i k m t f =>
  obtain⟨R',e,c⟩:=f λb K z=>d b K (C6 _ z);refine⟨a::R',.own i k (λz=>?_) e,λb=>?_⟩
  . rcases(c a).mp z with z|z
    exact d a z D1;exact m z
  rw[T8,T8,c];constructor;rintro(z|z|z);exact .inr (.inl z);exact .inl z;exact .inr (.inr z);rintro(z|z|z);exact .inr (.inl z);exact .inl z;exact .inr (.inr z)
 | @dct o a r u j7 h8 j6 i k m t f =>
  obtain⟨R',e,c⟩:=f λb K z=>d b K (C6 _ z);refine⟨a::R',.dct i k (λz=>?_) e,λb=>?_⟩
  . rcases(c a).mp z with z|z
    exact d a z D1;exact m z
  rw[T8,T8,c];constructor;rintro(z|z|z);exact .inr (.inl z);exact .inl z;exact .inr (.inr z);rintro(z|z|z);exact .inr (.inl z);exact .inl z;exact .inr (.inr z)
noncomputable def ym(gt:p9->Option (List p9))(Fe:DV)(ds:Ds):List p9->Option (List PF)
 | []=>U []
 |x::r=>(gt x).bind λbs=>(Fe (S8 bs++ds)).bind λy=>(hB y).bind λp=>(ym gt Fe ds r).bind λl=>U (p::l)
noncomputable def lC(Fi:DL)(gt:p9->Option (List p9))(Fe:DV):DV:=λds=>(Fi ds).bind λitems=>if items.length<=1000000 then(ym gt Fe ds items).bind λl=>U (.ob J (.seq Uf (kh l)))else J
def HN(h:∀b,U b∈u↔U b∈j1):A6 H u O=A6 H j1 O:=by
 funext b
 delta A6
 simp_all
def QN{pos:Pos}(hc:c.calm=Uf)(B:jX c Q d6 d8)(hi:gp c Uf o b7 j4 P)(go:jN Q.length j5)(hg:∀cl C fp s H pins,PG (W8 c Q d6 d8 cl C fp s H pins) o j5)(V:ub c.K Q.length j5 l5)(he:∀cl C fp s H pins,PX (W8 c Q d6 d8 cl C fp s H pins) Uf e b9 r)(hs:autoParam (∀x,ee b7 c.env x=pure x) W0):PX c Uf (.ListComp e [⟨o,b7,[],0⟩] d8 pos) (gW Q j4 j5 xl b9) (lC P l5 r):=⟨Hi hc B hi.p go hg (λ_ _ _ _ _ _=>wA) (λ_ _ _ _ _ _=>(he _ _ _ _ _ _).p) hs,by
 intro O k j σ H ds pv G S v q;obtain⟨a,h1,v⟩:=r4 v;obtain⟨hn,v⟩:=I0 v;obtain⟨l,h2,v⟩:=r4 v;cases v;refine hi.t O k j σ H ds a _ S h1 λJff H1 t it=>?_;have S1:=S.grow t;refine⟨a.length,λi ys E=>i<=a.length/\u9 H1 E/\∃R T l2,Q4 c.K (A6 E (R.map U++j) O) E (kh ys) (kh T) R/\(∀b∈R,H1 b=J)/\ym l5 r ds (a.drop i)=U l2/\T++l2=l,oW hn,⟨gP _,u9.refl _,[],[],l,.nil,λb X=>absurd X B3,h2,rfl⟩,?_⟩
 rintro i ys E ⟨hi',w,R,T,l2,d1,N,f,Y⟩;have Z:∀b∈R,∃u:Cl,E b=U u.1:=λb X=>by
  obtain⟨u,z|z,y⟩:=d1.at b X;exact⟨⟨u,.inl z⟩,y⟩;exact⟨⟨u,.inr (.inl z)⟩,y⟩
 obtain⟨S2,_⟩:=S1.adopt w 0 N Z;obtain⟨go',st',yl'⟩:=it E (C1.trans w) i;by_cases h:i<a.length
 . refine .inr ⟨go' h,h,λx n y=>?_⟩
   obtain⟨A,d,ed,dt⟩:=yl' x n y h;have dx:=dt (R.map U++j) (λb X=>⟨by
     rcases List.mem_append.mp X with z|z
     . obtain⟨b',z1,I⟩:=mem_map.mp z;cases I;delta A6;rw[N b z1];split<;>rfl
     . delta A6;rw[f9 (.inr z)],let ⟨_,z⟩:=(S2.new b X).2;⟨_,z⟩⟩) λb X=>by
    obtain⟨g,z⟩:=S.eT b X;refine⟨g,E3.mpr ⟨by simp,λI=>?_,S1.same _ _ z⟩⟩;rw[(S.new b I).1]at z;exact nE z
   have ed':a.drop i=d::a.drop (i+1):=by
    rw[rZ h];have:a[i]=d:=by have z:=L3 h;rw[ed]at z;exact(V0 z).symm
    rw[this]
   rw[ed']at f;obtain⟨F,h3,f⟩:=r4 f;obtain⟨yv,h5,f⟩:=r4 f;obtain⟨p,h7,f⟩:=r4 f;obtain⟨l3,h6,f⟩:=r4 f;cases f;refine V O (R.map U++j) n x d σ F _ dx h3 λvs dv lv=>?_;have S4:=(S2.grow A).pre dv;refine((he [] 0 [] c.V4 c.D7 []).t) O k _ _ n _ yv _ S4 h5 λu M e6 r6=>?_
   obtain⟨Rf,k1,k2,k3⟩:=HH (S4.dm) r6 (.inl h7);have hh:∀W,A6 W (Rf.map U++(D3 F.length J++(R.map U++j))) O=A6 W (Rf.map U++(R.map U++j)) O:=λW=>HN λb=>by
    simp only[jC];constructor;rintro(z|z|z);exact .inl z;exact absurd z mY;exact .inr z;rintro(z|z);exact .inl z;exact .inr (.inr z)
   have k3':uP c.K (A6 M (Rf.map U++(R.map U++j)) O) M u p Rf:=by rw[<-hh];exact k3
   have dj:∀b∈Rf,b∉R:=λb X z=>by obtain⟨g,y⟩:=Z b z;have:=A _ _ y;rw[k1 b X]at this;exact nE this
   obtain⟨R',f1,f2⟩:=Q4.snoc k3' (d1.same (lA (A.trans e6) λb X=>A.free (k1 b X)) λb X g z=>e6 _ _ (A _ _ z)) dj;refine⟨h,(w.trans A).trans e6,R',T++[p],l3,?_,λb X=>?_,h6,by rw[<-Y];simp⟩
   . have:A6 M (Rf.map U++(R.map U++j)) O=A6 M (R'.map U++j) O:=HN λb=>by
       have m:∀(L:List Addr),U b∈L.map U↔b∈L:=λL=>by simp
       simp only[jC,m,f2];constructor;rintro(z|z|z);exact .inl (.inl z);exact .inl (.inr z);exact .inr z;rintro((z|z)|z);exact .inl z;exact .inr (.inl z);exact .inr (.inr z)
     rw[<-this];unfold kh at f1 ⊢;rw[Z2,Z2];exact f1
   . rcases(f2 b).mp X with z|z
     exact w.free (A.free (k1 b z));exact N b z
 . have hi2:i=a.length:=by lia
   subst hi2;rw[za]at f;cases f;rw[bV]at Y;subst Y;refine .inl ⟨st' E7,λp D=>?_⟩;refine q _ _ ((t.trans w).trans (u9.new D)) ⟨p,p::R,rfl,.inl rfl,λb X=>?_,kh ys,R,rfl,λz=>?_,by rw[a1X];exact O3,d1.same (fm λb g z1 I z3=>⟨z1,λz=>?_,u9.new D _ _ z3⟩) λb _ g z=>u9.new D _ _ z⟩
   . rcases List.mem_cons.mp X with rfl|X
     exact t.free (w.free D);exact t.free (N b X)
   obtain⟨u,y⟩:=Z p z;rw[D]at y;exact nE y
   . rcases List.mem_cons.mp z with z|z
     cases z;rw[D]at z3;exact nE z3
     . exact I z⟩
def DS.wr(l:DS g O q j1 D H E)(hd:E[m]? = U (U (.ob j8 (.seq Uf h8))))(M:h8[c8]? = U (y,.own S)):
  ∃v vs a xs,D[m]? = U (U (.ref v))/\H v=U (.lst vs)/\vs[c8]? = U (.ref a)/\vs.length=h8.length/\H a=U (.lst xs)/\C8 g (A6 H j1 O) xs S/\∀{A:Hp} {ys:List V} {w:List p9},u9 H A->C8 g (A6 A j1 O) ys w->DS g O q j1 D (upd A a (.lst ys)) (E.set m (U (.ob j8 (.seq Uf (h8.set c8 (y,.own w)))))):=by
 have c:∀{d:List (Str×V)} {a:Addr},d[c8]? = U (y,.ref a)->(d.map (·.2))[c8]? = U (.ref a):=λ{d a} z=>by rw[L1,z];rfl
 have L:∀{G:Hp} {d:List (Str×V)} {h8:List (Str×PF)} {R:List Addr} {c8:Nat} {a:Addr} {xs:List V} {S:List p9},Q4 g G H d h8 R->h8[c8]? = U (y,.own S)->d[c8]? = U (y,.ref a)->H a=U (.lst xs)->C8 g G xs S:=by
  intro G d h8 R c8 a xs S h;induction h generalizing c8 with
  |nil=>intro z;simp at z
  |dat hd t j =>
   intro e c f;cases c8 with
   |zero=>simp at e
   |succ c8=>exact j (by simpa using e) (by simpa using c) f
  |own X s x t j =>
   intro e c f;cases c8 with
   |zero =>
    obtain⟨_,rfl⟩:=e;obtain⟨_,rfl⟩:=c;rw[X]at f;cases f;exact s
   |succ c8=>exact j (by simpa using e) (by simpa using c) f
  |dct X s x t j =>
   intro e c f;cases c8 with
   |zero=>simp at e
   |succ c8=>exact j (by simpa using e) (by simpa using c) f
 obtain⟨v,R,N,ew,hR,d,R',rfl,nv,s,x⟩:=l.slot m _ hd;obtain⟨a,xs,I,p2,p3,_⟩:=x.pos M;refine⟨v,d.map (·.2),a,xs,N,s,c I,by rw[C5,x.len],p2,L x M I p2,λ{A ys w} P dy=>?_⟩
 have Y:=l.grow P;obtain⟨rg,r1,r2,Q⟩:=Y.iy;obtain⟨v',R2,i,k,n,B,r,rfl,K,p,F⟩:=Q m _ hd;rw[N]at i;cases i;have T:=P _ _ s;rw[p]at T;obtain⟨C,xs',q1,q2,Z,q4⟩:=F.pos M;have ea:C=a:=by have z:=c q1;rw[HO.lst.inj (V0 T),c I]at z;cases z;rfl
 subst ea;have ne:v≠C:=λz=>K (z▸Z);exact Y.Bx (u:=Cl.l ys) hd r1 r2 Q (n C (C6 _ Z)) λsm=>⟨v,v::r,N,k,n,B,r,rfl,K,by rw[J4 ne];exact p,q4 sm (λb _ nb o z=>by rw[J4 nb];exact z) O3 (dy.same sm)⟩
noncomputable def zL(i:Nat)(k:Int)(ds:Ds):Option (Option Addr×List (Str×PF)×Str×Nat×List p9):=match ds[i]? with
 |some (U (.ob w (.seq Uf fs)))=>(jd fs.length k).bind λr=>match fs[r]? with
  |some (n,.own l)=>U (w,fs,n,r,l)
  |_=>J
 |_=>J
set_option tactic.hygienic true in
def RH(h:zL m a1 E=U (j8,h8,y,c8,S)):E[m]? = U (U (.ob j8 (.seq Uf h8)))/\jd h8.length a1=U c8/\h8[c8]? = U (y,.own S):=by
 unfold zL at h;split at h;rename_i f c b;obtain⟨g,d,h⟩:=r4 h;split at h;rename_i e j a;cases h;exact⟨b,d,a⟩;exact nE h;exact nE h
noncomputable def vr(i:Nat)(Fr Fk Fv:DV):DO:=λds=>(Fv ds).bind λpv=>(Fr ds).bind λr=>(Fk ds).bind λk=>match r.d,k.d with
 | .int r,.int k=>(zL i r ds).bind λx=>(jd x.2.2.2.2.length k).bind λj=>U (.next (ds.set i (U (.ob x.1 (.seq Uf (x.2.1.set x.2.2.2.1 (x.2.2.1,.own (x.2.2.2.2.set j pv.d))))))))
 |_,_=>J
section
set_option tactic.hygienic true in
def QV {k:Expr} {tk:TE} {Fk F:DV} (ho:PE c o (P7 m)) (E:PX c Uf b7 b9 d2) (M:PX c Uf k tk Fk) (L:PX c Uf e G F) (hx:autoParam (qA b7) vA) (ha:autoParam (∀v,assign (.Subscript (.Subscript o b7 c5) k A) c.env v=(do
   let f <- holding [v] (eval (.Subscript o b7 c5) c.env)
   let iv <- holding [v,f] (eval k c.env)
   dw A
   holding [v,f,iv] (setItem f iv v)
   release [v,f,iv] [])) W0)
  (hs:autoParam (qN [.Subscript (.Subscript o b7 c5) k A] e p.line c.env=pure U') t5) (N:autoParam (qM [.Subscript (.Subscript o b7 c5) k A] e c.env=pure J) t5)
  (h1:autoParam ((jy [.Subscript (.Subscript o b7 c5) k A] c.env).map (·.2)=[assign (.Subscript (.Subscript o b7 c5) k A) c.env]) t5) :
  O1 c (.Assign [.Subscript (.Subscript o b7 c5) k A] e p) (iT G (JL (sx (GY c.K) (P7 m) b9) tk BB)) (vr m d2 Fk F):=⟨Cn L.p (Cr (IX Dc ho E.p hx) M.p set_list ha) hs N h1,by
 intro O X s h H B D q0 S b q;obtain⟨pv,e1,b⟩:=r4 b;obtain⟨rv,Q,b⟩:=r4 b;obtain⟨kv,e3,b⟩:=r4 b;split at b;rename_i rr kk z u;obtain⟨⟨w,fs,n,r',l⟩,Y,b⟩:=r4 b;obtain⟨j,e5,b⟩:=r4 b;cases b;obtain⟨hd,i,x⟩:=RH Y;refine L.t O X s h H B pv _ S e1 λv T R r1=>?_;have g:=S.grow R;obtain⟨f,P,a,W,z1,z2,z3,V,z5,I,wr⟩:=g.wr hd x;refine⟨_,z1,?_⟩;refine E.t O X s h T B rv _ g Q λy H2 d r2=>?_;have C:=r2.dt g.dm;rw[z]at C;cases C;refine .inl ⟨f,P,rr,.ref a,rfl,rfl,M8.of (d _ _ z2),by delta aS;rw[V,i];exact z3,?_⟩;refine M.t O X s h H2 B kv _ (g.grow d) e3 λy' H3 t Z=>?_;have r:=Z.dt (g.grow d).dm;rw[u]at r;cases r;refine⟨a,W,kk,j,rfl,rfl,t _ _ (d _ _ z5),by rw[I.length];exact e5,q s h _ ?_⟩;exact wr (d.trans t) ((I.same (S5 (d.trans t))).set j ((r1.grow (d.trans t)).dt S.dm))
 . exact nE b⟩
end
def vJ(k:ReadsAll a7 j2 S O)(e:S[m]? = U g8):∃v bs,j2[m]? = U v/\Reads a7 v g8 bs:=by
 induction S generalizing j2 O m with
 |nil=>exact nE e
 |cons _ _ i=>cases k with
  |cons r t=>cases m with
   |zero=>cases e;exact⟨_,_,rfl,r⟩
   |succ m=>exact(i t e :)
def GZ(K:v9):V->List V->Hp->VK->Prop:=λx vs H Q=>∃(p:Addr) (xs:List V) (l:List p9) (y:V) (d:p9) (j:Nat),x=.ref p/\vs=[y]/\M8 K H p xs/\C8 K H xs l/\Dt K H y d/\fX l=Uf/\d.canLay0=Uf/\d.depth<=10/\l.length<=1000000/\(l.findIdx? λe=>Y0 e d)=U j/\Q (.int j) H
def yp(h:fX S=Uf):∀{m:Nat} {e:p9},S[m]? = U e->e.canLay0=Uf:=by
 induction S with
 |nil=>intro m e z;simp at z
 |cons x S a =>
  rw[fX,qV]at h;intro m e z;cases m with
  |zero=>simp at z;rw[<-z];exact h.1
  |succ m=>exact a h.2 (by simpa using z)
def Mq(hu:c.A.units+64<R3):Vh c "list.index" (GZ c.K):=by
 intro L s σ H x vs v us Q I rx rv h;obtain⟨p,xs,l,y,d,j,rfl,rfl,hq,D,hy,z,C,c3,hz,R,q⟩:=h;cases rx;obtain⟨u,rfl,ru⟩:=vals1 rv;obtain⟨b,N,S,_⟩:=I.list hq;obtain⟨as,M⟩:=I.readsAll D N z;obtain⟨bs,rb⟩:=I.reads hy ru C;obtain⟨⟨cls,P,G,sl⟩,O,V,n,hd⟩:=id S.isList;subst V hd;have g:b.length=l.length:=by rw[<-N.length,D.length]
 obtain⟨W,h2,h3⟩:=List.findIdx?_eq_some_iff_getElem.mp R
 classical
 let e:=λv=>decide (∃a o,Reads s.heap v a o/\a.canLay0=Uf/\Y0 a d=Uf)
 have w:∀(m:Nat) f,e b[m]=Y0 (l[m]'r9) d:=λm f=>by
  have X:m<l.length:=by lia
  have B:=L3 X;obtain⟨Y,o,i,k⟩:=vJ M B;rw[L3 f]at i;cases i;cases hb:Y0 l[m] d with
  |true=>exact fW ⟨_,_,k,(yp z B),hb⟩
  |false =>
   refine aM λ⟨a,T,Z,z4,E⟩=>?_;rw[(Z.unique _ _ k).1,hb]at E;exact nT E
 refine lM zp ⟨_,O,rfl⟩ Pa (Pe _ _)
  (OZ p b.toArray n P sl u e j (by simpa [g]using W) r9 ?_ ?_) ⟨O,λy' t=>?_,?_⟩
 show e b[j]=Uf;rw[w];exact h2;intro m f r;show e b[m]=U';rw[w m O7];simpa using h3 m r
 . obtain⟨m,f,rfl⟩:=List.getElem_of_mem (by simpa using t)
   have X:m<l.length:=by lia
   obtain⟨Y,o,i,k⟩:=vJ M (L3 X);rw[L3 f]at i;cases i;rw[w m f];exact SeqAt.eqAt_reads _ _ _ _ _ _ _ _ k rb (yp z (L3 X)) C (by lia)
 exact⟨.int _,H,I.tok _,⟨_,rfl⟩,q⟩
noncomputable def zZ:p9->FV
 | .list l,[d]=>if fX l=Uf/\d.canLay0=Uf/\d.depth<=10/\l.length<=1000000 then(l.findIdx? λe=>Y0 e d).bind λj=>U (.dat (.int (j:Nat)))else J
 |_,_=>J
def Itv(K:v9)(a:Addr)(n:Nat):It:=
 ⟨λi H=>∃xs,M8 K H a xs/\xs.length=n/\i<n,λi H x H'=>H'=H/\∀xs,M8 K H a xs->xs.length=n->xs[n-1-i]? = U x,λi _=>n<=i⟩
def PY(a it:Addr)(n:Nat):Turn b5 i5 g e (Itv g a n) [it] it (λi h=>h.IsRevIter it a (((n-i:Nat):Int)-1)) where
 mem:=E5
 obj:=λi h f b j=>by
  have w:b=it:=by simpa using j
  subst w;obtain⟨o,w,c,d⟩:=f;exact⟨o,w,λv z=>by simp_all⟩
 keep:=λi h r f k=>f.at λo w=>k it E5 o w
 item:=by
  intro X N F L G i P s O H E I q f x;subst N F L;obtain⟨M,hq,hn,hi⟩:=x;obtain⟨its,Z,p,hz⟩:=I.list hq;have Q:M[n-1-i]? = U (M[n-1-i]'r9):=L3 _;obtain⟨u,R,Y⟩:=Z.get Q;obtain⟨C,y,f2,B,A,D⟩:=q it E5;have l:s.heap.IsRevIter it a ((n-1-i:Nat)):=by rw[show((n-1-i:Nat):Int)=((n-i:Nat))-1 by lia];exact f
  refine wpAny_pyNext_rev_item l p.isList (by simpa using R) λr m S=>?_;have V:Inv X P O H {s with heap:=r}:=I.turned (λb o j w=>(S.2 b j).trans w) C y B A D
  have t:r.IsRevIter it a (((n-(i+1):Nat))-1):=by rw[show n-(i+1)=n-1-i by lia];exact m
  obtain⟨o,w,c,d⟩:=id m;exact⟨u,rfl,BF w c d f5 ⟨_,H,V,Y,⟨rfl,λys hy _=>by rw[I.wH hy hq];exact Q⟩,t,λb j=>(q b j).1⟩⟩
 done:=by
  intro X N F L G i P s O H E I q f x;have:n<=i:=x;obtain⟨C,y,f2,B,A,D⟩:=q it E5;have l:s.heap.IsRevIter it a (-1):=by rw[show(-1:Int)=((n-i:Nat))-1 by simp[*]];exact f
  exact wpAny_pyNext_rev_end (I.ok.hd G) l λr T=>⟨rfl,I.turned (λb o j w=>T b o j w) C y B A D⟩
 self:=λ_ _ _ _ _ f h=>OB f h
def a0H(K:v9)(ta:TA):TI:=λσ H R=>ta σ H λvs H1=>∃a xs,vs=[.ref a]/\M8 K H1 a xs/\R (Itv K a xs.length) H1
def ZI(t:Gl c "reversed")(m:c.mg "reversed" = J)(n:PA c [o] M)(hs:autoParam (v7 [o] c.env=[(U',eval o c.env)]) t5):PI c e (.Call (.Name "reversed" p) [o] [] A) (a0H c.K M):=by
 intro X s u H R I h;refine Call_ (gE I t m PyProof.Rows.boot_reversed (pG (F1 (n A X s u H _ I h) λB f ⟨C,k,d,j,z⟩=>?_) hs rfl))
 obtain⟨b,l,x,hq,q⟩:=z;subst x;cases j with
 |cons r g =>
  cases g;cases r;obtain⟨y,v,w,D⟩:=d.list hq;refine call_reversed_list w.isList (OB ⟨_,W6 _ rfl,rfl,rfl⟩ ?_);refine⟨f.heap.objs.size,[f.heap.objs.size],_,_,k,rfl,d.kept λb a x=>G0 _ x,PY b _ l.length,⟨_,W6 _ rfl,rfl,?_⟩,λb i=>?_,q⟩;simp[revObj,v.length]
  . have x:b=f.heap.objs.size:=by simpa using i
    subst x;exact d.wK E7 (d.J1.fresh E7)
noncomputable def tq:List p9->Option (List p9)
 | [.list l]=>U l.reverse
 |_=>J
set_option tactic.hygienic true in
def WB{K':v9}{n:DL}(t:c.K=K')(G:Gl c "reversed")(F:c.mg "reversed" = J)(m:dq c I [o] M n)(hs:autoParam (v7 [o] c.env=[(U',eval o c.env)]) t5):gp c I e (.Call (.Name "reversed" p) [o] [] A) (a0H K' M) (F3 tq n):=by
 subst t;refine⟨ZI G F m.p hs,?_⟩;intro O f K L H E j R S X q;obtain⟨l,C,X⟩:=r4 X;refine m.t O f K L H E l _ S C λZ D T z=>?_;unfold tq at X;split at X
 . rename_i l';cases X;cases z with
   |cons r V =>
    cases V;cases r with
    |lst g s =>
     rename_i b h;have Q:=s.length;refine⟨b,h,rfl,C1.seq g,q _ D T λY u i=>?_⟩;have a:=u.seq (vp.seq g);rw[Fp];refine⟨λk=>⟨h,a,rfl,by simp[*]⟩,λk=>by show h.length<=i;simp[*],λx N y k=>?_⟩;obtain⟨B,y⟩:=y;subst B;obtain⟨d,P,w⟩:=s.get' (y h a rfl);refine⟨u9.refl _,d,?_,λvb v _=>qj w u (u9.refl _) v⟩;rw[List.getElem?_reverse k,<-Q];exact P
 exact nE X
abbrev fD(h:Heap)(z TI TO:Addr)(f0:t2)(f1:Bool):Prop:=
 h.get? z=U {cls:=.type "zip",dict:=J,data:=.fields #[f0,.bool f1,.bool U',.ref TI,.ref TO],slots:=#[]}
section
variable{prog:L9}{w:E1}
def PB{M:Model}{Q:Option Obj->v5->Prop}(h:Q (B.heap.get? z) B):wpAny M L (loadIfAlive z) Q Y B:=λ_ _ _=>h
def xE{Q:Bool->v5->Prop}(hz:fD B.heap z c7 e9 (Z3 T) I)(b:∃o,B.heap.get? T=U o)(d:∀h',fD h' z c7 e9 (Z3 T) Uf->ow z B.heap h'->Q U' {B with heap:=h'}):wpAny (model prog w) L (Builtin.SmallTypes.ownedTupleIsFree (.ref z)) Q Y B:=by
 obtain⟨o,b⟩:=b;refine u4 (Z1 hz rfl rfl ?_);show wpAny _ _ (loadIfAlive T >>= _) _ _ _
 refine u4 (PB ?_);rw[b];refine u4 (Z1 hz rfl rfl ?_);cases I with
 |true=>exact z6 (d _ hz (Heap.SameBut.refl ..))
 |false=>exact u4 (oG hz E5 λh' a c=>z6 (d h' a c))
def Kk {l:Addr} {k2:Nat} {ys:Array t2} (D:gN z c7 e9 i8 i9 j0 l) (hz:fD B.heap z c7 e9 (Z3 T) I) (P:∃o,B.heap.get? T=U o) (n:U6 B.heap c7 (.ref i8) (.ref i9)) (M:B.heap.IsListIter i8 j0 c8) (s:B.heap.IsListIter i9 l k2) (p:B.heap.IsList j0 b8) (E:B.heap.IsList l ys) (A:b8[c8]? = U b6) (O:ys[k2]? = U i7) (H:∀h',fD h' z c7 e9 (Z3 T) Uf->h'.IsListIter i8 j0 (c8 + 1)->h'.IsListIter i9 l (k2 + 1)->U6 h' B.heap.objs.size b6 i7->h'.objs.size=B.heap.objs.size + 1 ->
   (∀c o,c≠z->c≠i8->c≠i9->B.heap.get? c=U o->h'.get? c=U o)->c6 (.ref B.heap.objs.size) {B with heap:=h'}) :
  wpAny (model prog w) L (Builtin.«zip.__next__» ⟨[.ref z],[]⟩) (λu s'=>∃v,u=.done (.ret v)/\c6 v s') Y B:=by
 show wpAny _ _ (field (.ref z) 2 >>= _) _ _ _;refine u4 (Z1 hz rfl rfl ?_);refine u4 (Z1 hz rfl rfl ?_);refine u4 (fB n rfl ?_);refine u4 (xE hz P λG i a=>?_);refine u4 ?_;refine u4 (u4 (fy ?_));refine u4 (FI (M.extBut a.extBut D.i1z) (p.extBut a.extBut D.l1z) A λF j b=>z6 ?_);refine z6 ?_;refine u4 (u4 (fy ?_));refine u4 (FI ((s.extBut a.extBut D.i2z).extBut b.extBut D.i12.symm) ((E.extBut a.extBut D.l2z).extBut b.extBut D.l2i1) O λf h d=>z6 ?_);refine z6 (z6 ?_);show wpAny _ _ (newTuple [b6,i7] >>= _) _ _ _
 refine u4 (wpAny_newTuple (z6 ⟨_,rfl,?_⟩));have g:f.objs.size=B.heap.objs.size:=by rw[d.1,b.1,a.1]
 have N:∀c o,c≠z->c≠i8->c≠i9->B.heap.get? c=U o->f.get? c=U o:=λc o C t q e=>d.extBut _ _ q (b.extBut _ _ t (a.extBut _ _ C e));have k:U6 (f.push {cls:=.type "tuple",data:=.seq #[b6,i7]}) f.objs.size b6 i7:=W6 _ rfl;rw[g]at k;rw[g];exact H _ (G0 _ (d.extBut _ _ D.i2z.symm (b.extBut _ _ D.i1z.symm i))) ((j.extBut d.extBut D.i12).at λo e=>G0 _ e) (h.at λo e=>G0 _ e) k (by rw[hE,g]) λc o C t q e=>G0 _ (N c o C t q e)
def FY{p:Addr}{Q:Fin->v5->Prop}(u:L.handled=J)(D:gN z c7 e9 i8 i9 j0 p)(hz:fD B.heap z c7 e9 (Z3 T) I)(q:∃o,B.heap.get? T=U o)(f:U6 B.heap c7 (.ref i8) (.ref i9))(r:B.heap.IsListIter i8 j0 m)(h:B.heap.IsList j0 b8)(A:b8[m]? = J)(t:∀h' e,(∀c o,c≠z->c≠i8->B.heap.get? c=U o->h'.get? c=U o)->(∃o,h'.get? e=U o/\o.cls=.type "StopIteration")->Y (.ref e) {B with heap:=h'}):
  wpAny (model prog w) L (Builtin.«zip.__next__» ⟨[.ref z],[]⟩) Q Y B:=by
 show wpAny _ _ (field (.ref z) 2 >>= _) _ _ _;refine u4 (Z1 hz rfl rfl ?_);refine u4 (Z1 hz rfl rfl ?_);refine u4 (fB f rfl ?_);refine u4 (xE hz q λk g a=>?_);refine u4 ?_;refine u4 (u4 (fy ?_));refine u4 (OM u (r.extBut a.extBut D.i1z) (h.extBut a.extBut D.l1z) A λd e b v=>?_);exact t d e (λc o y n x=>b _ _ n (a.extBut _ _ y x)) v
def Jn {b:Addr} {ys:Array t2} {x y:t2} (D:gN z c7 e9 i8 i9 j0 b) (hz:fD B.heap z c7 e9 (Z3 T) I) (v:∃o,B.heap.get? T=U o) (e:U6 B.heap c7 (.ref i8) (.ref i9)) (n:B.heap.IsListIter i8 j0 m) (j:B.heap.IsListIter i9 b c8) (f:B.heap.IsList j0 b8) (h:B.heap.IsList b ys) (l:b8[m]? = U x) (u:ys[c8]? = U y) (i:∀h',fD h' z c7 e9 (Z3 T) Uf->h'.IsListIter i8 j0 (m + 1)->h'.IsListIter i9 b (c8 + 1)->U6 h' B.heap.objs.size x y->h'.objs.size=B.heap.objs.size + 1 ->
   (∀c o,c≠z->c≠i8->c≠i9->B.heap.get? c=U o->h'.get? c=U o)->k9 (U (.ref B.heap.objs.size)) {B with heap:=h'}):wpAny (model prog w) L (oi (.ref z)) k9 Y B:=by
 have a:B.TypeIs (.ref z) "zip":=⟨_,hz,rfl⟩;exact u4 (qK (mP a lR
  (jG lR a zb
   (Kk D hz v e n j f h l u λh' t E q A p r=>z6 (i h' t E q A p r)) (zf _))))
def CI{n:Addr}(r:L.handled=J)(D:gN z c7 e9 i8 i9 j0 n)(hz:fD B.heap z c7 e9 (Z3 T) I)(p:∃o,B.heap.get? T=U o)(b:U6 B.heap c7 (.ref i8) (.ref i9))(q:B.heap.IsListIter i8 j0 m)(d:B.heap.IsList j0 b8)(A:b8[m]? = J)(j:∀h',(∀c o,c≠z->c≠i8->B.heap.get? c=U o->h'.get? c=U o)->k9 J {B with heap:=h'}):wpAny (model prog w) L (oi (.ref z)) k9 Y B:=by
 have a:B.TypeIs (.ref z) "zip":=⟨_,hz,rfl⟩;refine u4 (qK (mP a lR
  (jG lR a zb (FY r D hz p b q d A λh' e i t=>?_) (zf _))))
 obtain⟨o,k,h⟩:=t;refine u4 (ER ⟨o,k,h⟩ Ey ?_);exact z6 (j _ i)
end
def wc:ui (.type "zip") "__getattr__" = pure J:=by rw[typeLookup_type,OJ];kernel_rfl
def Pu:ui (.type "zip") "keys" = pure J:=by rw[typeLookup_type,OJ];kernel_rfl
def DF:entryFor table "zip.__getattribute__" = U Builtin.«object.__getattribute__»:=
 entryFor_alias (id':="object.__getattribute__") (by kernel_rfl) A3 A3 (by kernel_rfl)
def Sm(z TI TO:Addr)(h:t2)(f:Bool)(name:Str)(u:Tok)(c:ui (.type "zip") name=pure J)(a:(["__module__","__name__","__qualname__","__doc__","__annotations__"]:List Str).contains name=U')(hsz:name.length+100<=E6:=by size_fits):
  Meets (Builtin.«object.__getattribute__» ⟨[.ref z,.str name u],[]⟩) (λA R s=>fD s.heap z TI TO h f/\raisesAttr (.ref z) name A R s):=
 Meets.of_wp λe w A R s b=>by
  obtain⟨j,g,d,i,l⟩:=s;obtain⟨k,b⟩:=b;repeat (any_goals (first|assumption|wp_step))
  simp only[a];repeat (any_goals (first|assumption|wp_step))
  exact wpAny_raiseAttrError b.1 b.2 (attrMsg_fits A3 hsz)
section
variable{prog:L9}{w:E1}
def FX(j:fD B.heap z T c7 b6 I)(l:L.handled=J)(h:∀h' f,(∀b o,B.heap.get? b=U o->h'.get? b=U o)->k9 J {B with heap:=h',toks:=f}):wpAny (model prog w) L (getAttr? (.ref z) "keys") k9 Y B:=by
 obtain⟨n,g,d,f,p⟩:=B;have i:∀c,(⟨n,g,d,c,p⟩:v5).TypeIs (.ref z) "zip":=λ_=>⟨_,j,rfl⟩
 have:=sub_AttributeError;have:=F.slot_zip_getattribute.lookup;have:=F.slot_zip_getattribute.bind (.ref z);have:=wc;repeat (any_goals (first|assumption|exact i _|((with_reducible show wpAny _ _ (call (Value.builtin "zip.__getattribute__") _ _) _ _ _);refine lM F.slot_zip_getattribute (i _) DF (F.args_zip_getattribute_2 _ _) (Sm z T c7 b6 _ "keys" _ Pu A3) ⟨j,l,λh' c e a=>?_⟩)|wp_step))
 obtain⟨q,t,r⟩:=a.there;show wpAny _ _ (getattributeRaised _ _ _ _ _ _ _) _ _ _
 repeat (any_goals (first|assumption|wp_step))
 exact h _ _ a.keeps
end
set_option backward.match.sparseCases true
def ku:plainId "dict.update.loop" = Uf:=by decide +kernel
def kE:entryFor table "dict.update.loop" = U Builtin.«dict.update.loop»:=entryFor_of_fast (by kernel_rfl)
section
variable{prog:L9}{w:E1}{κ:Type}[DecidableEq κ]{knd:HeapKind prog w κ}
def sZ{X:List (κ×Addr×t2)}(d:(X.map (·.1)).Nodup){x:κ×Addr×t2}(b:X[m]? = U x):storedH (X.take m) x.1 x.2.1 x.2.2=X.take (m+1):=by
 have e:atKey (X.take m) x.1=J:=atKey_none_of_get λi p a=>by
  rw[Oj]at a;obtain⟨f,a⟩:=I0 a;have:=idxH_unique d a b
  simp_all
 rw[storedH_new e];obtain⟨c,rfl⟩:=List.getElem?_eq_some_iff.mp b;rw[List.take_succ,L3 c];rfl
def BQ{A:Z4}{E:t2->v5->Prop}{s:v5}{d T z:Addr}{x:κ×Addr×t2}{a:List (κ×Addr×t2)}{i:Int}{res:t2}{Q:Fin->v5->Prop}(j:knd.room A)(f:U6 s.heap T (.ref x.2.1) x.2.2)(m:knd.is s.heap x.1 x.2.1)(hd:s.heap.DictOfH knd d a)(hsz:a.length<=E6)(g:∀h' h,h'.DictOfH knd d (storedH a x.1 x.2.1 x.2.2)->ow d s.heap h'->Q (.again (.builtin "dict.update.loop" ⟨[.ref d,.ref z,Z3 (i+1),res],[]⟩)) {s with heap:=h',toks:=h}):
  wpAny (model prog w) A (holding [.ref T] (do
   let pair <- (Builtin.Dict.pairItems (.ref T)).tryCatch λe=>do
    if !(<- isInstance e (.type "TypeError"))then throw e
    rule "dict.update.element-no-sequence"
    raiseError "TypeError" s!"cannot convert dictionary update sequence element #{i} to a sequence"
   match pair with
   | [k,v]=>holding [k,v] (dictSet d k v)
   |l =>
    rule "dict.update.element-length"
    raiseError "ValueError" s!"dictionary update sequence element #{i} has length {l.length}; 2 is required") >>= λ_=>again (.builtin "dict.update.loop" ⟨[.ref d,.ref z,Z3 (i+1),res],[]⟩)) Q E s:=by refine u4 (fy (u4 (wpAny_tryCatch ?_)));refine u4 (ur ⟨_,f,rfl⟩ ?_);refine u4 (fB f rfl (z6 ?_));refine fy (wpAny_dictSet_heap j m hd λh' b c=>z6 (g h' _ b c))
structure Zs(knd:HeapKind prog w κ)(h0:Heap)(X:List (κ×Addr×t2))(z TI TO i1 i2 l1 l2 d:Addr):Prop where
 D:gN z TI TO i1 i2 l1 l2
 dz:d≠z
 HZ:d≠i1
 Nk:d≠i2
 dTI:d≠TI
 dTO:d≠TO
 pTI:U6 h0 TI (.ref i1) (.ref i2)
 pl1:h0.IsList l1 (X.map λx=>aU x.2.1).toArray
 pl2:h0.IsList l2 (X.map λx=>x.2.2).toArray
 key:∀x∈X,∃o,h0.get? x.2.1=U o/\∀h:Heap,h.get? x.2.1=U o->knd.is h x.1 x.2.1
 ka:∀x∈X,x.2.1≠z/\x.2.1≠TO/\x.2.1≠i1/\x.2.1≠i2/\x.2.1≠d
 l1d:l1≠d
 l2d:l2≠d
 nd:(X.map (·.1)).Nodup
 sz:X.length<=E6
def Kp(z TO i1 i2 d:Addr)(h h':Heap):Prop:=∀c o,c≠z->c≠TO->c≠i1->c≠i2->c≠d->h.get? c=U o->h'.get? c=U o
def PL{X:List (κ×Addr×t2)}{d:Addr}(hu:knd.room L.in1)(hh:L.in1.handled=J)(Z:Zs knd a7 X z T c7 e9 i8 i9 j0 d):
  ∀(k j:Nat) (s:v5) (i:Int) (G:Addr) (f1:Bool),X.length-j=k->j<=X.length->Kp z c7 e9 i8 d a7 s.heap->fD s.heap z T c7 (Z3 G) f1->(∃o,s.heap.get? G=U o)->G≠z/\G≠e9/\G≠i8/\G≠d->d<(hz s) ->
   s.heap.IsListIter e9 i9 j->s.heap.IsListIter i8 j0 j->s.heap.DictOfH knd d (X.take j) ->
   (∀h' tk,h'.DictOfH knd d X->Kp z c7 e9 i8 d s.heap h'->m7 (.ok (.ret b6)) {s with heap:=h',toks:=tk}) ->
   codeAny (model prog w) L (.builtin "dict.update.loop" ⟨[.ref d,.ref z,Z3 i,b6],[]⟩) m7 s:=by
 have F:∀{h:Heap},Kp z c7 e9 i8 d a7 h->U6 h T (.ref e9) (.ref i8):=λk=>k _ _ Z.D.TIz Z.D.TITO Z.D.TIi1 Z.D.TIi2 Z.dTI.symm Z.pTI;have I:∀{h:Heap},Kp z c7 e9 i8 d a7 h->h.IsList i9 (X.map λx=>aU x.2.1).toArray:=λk=>Z.pl1.at λo e=>k _ _ Z.D.l1z Z.D.l1TO Z.D.l1i1 Z.D.l1i2 Z.l1d e;have kl2:∀{h:Heap},Kp z c7 e9 i8 d a7 h->h.IsList j0 (X.map λx=>x.2.2).toArray:=λk=>Z.pl2.at λo e=>k _ _ Z.D.l2z Z.D.l2TO Z.D.l2i1 Z.D.l2i2 Z.l2d e
 intro k;induction k with
 |zero =>
  intro j s i G f1 hk hj t hz B b N h1 h2 hd hR;have e:j=X.length:=by lia
  subst e;refine EF kE ?_;refine u4 (CI hh Z.D hz B (F t) h1 (I t) B3 λh' q=>?_);refine u4 (z6 (z6 (hR h' s.toks ?_ λc o m C l r p e=>q c o m l e)));rw[uA]at hd;obtain⟨o,es,ep,e1,e2,e3,e4,e5,e6⟩:=hd;exact⟨o,es,ep,q _ _ Z.dz Z.HZ e1,e2,e3,e4,λx g=>by obtain⟨o',H,q2⟩:=Z.key x g;obtain⟨n,u,E,A,O⟩:=Z.ka x g;exact q2 _ (q _ _ n E (t _ _ n u E A O H)),e6⟩
 |succ k ih =>
  intro j s i G f1 hk hj t hz B b N h1 h2 hd hR;have f:j<X.length:=by lia
  have g:=L3 f;refine EF kE ?_;refine u4 (Jn Z.D hz B (F t) h1 h2 (I t) (kl2 t) (x:=.ref X[j].2.1) (y:=X[j].2.2) (by simp[f]) (by simp[f]) λh1' z1 b1 b2 p1 nB q=>?_);have K:=qU f;have v:=λc o m C l r p e=>q c o m l r (t c o m C l r p e)
  have hd1:h1'.DictOfH knd d (X.take j):=by
   obtain⟨o,es,ep,e1,e2,e3,e4,e5,e6⟩:=hd;exact⟨o,es,ep,q _ _ Z.dz Z.HZ Z.Nk e1,e2,e3,e4,λx g=>by have g:=OA g;obtain⟨o',H,q2⟩:=Z.key x g;obtain⟨n,u,E,A,O⟩:=Z.ka x g;exact q2 _ (v _ _ n u E A O H),e6⟩
  refine BQ hu p1 ?_ hd1 (by rw[jH];have:=Z.sz;lia) λh2' tk M a=>?_;obtain⟨o',H,q2⟩:=Z.key _ K;obtain⟨n,u,E,A,O⟩:=Z.ka _ K;exact q2 _ (v _ _ n u E A O H);rw[sZ Z.nd g]at M;refine⟨Eu ku _,ih (j+1) _ (i+1) G Uf r9 f ?_ ?_ ?_ b ?_ ?_ ?_ M λh' tk' n u=>hR h' tk' n ?_⟩;exact λc o m C l r p e=>a.extBut _ _ p (v c o m C l r p e);exact a.extBut _ _ Z.dz.symm z1;obtain⟨o,B⟩:=B;exact⟨o,a.extBut _ _ b.2.2.2 (q _ _ b.1 b.2.1 b.2.2.1 B)⟩;show d<h2'.objs.size;rw[a.1,nB];exact qY N;exact b1.extBut a.extBut Z.HZ.symm;exact b2.extBut a.extBut Z.Nk.symm;exact λc o m C l r p e=>u c o m C l r p (a.extBut _ _ p (q c o m l r e))
def Kt{X:List (κ×Addr×t2)}{d:Addr}(hu:knd.room L.in1)(hh:L.in1.handled=J)(Z:Zs knd a7 X z T c7 e9 i8 i9 j0 d){res:t2}(F:Kp z c7 e9 i8 d a7 B.heap)(hz:IsZip B.heap z T c7 .none)(E:U6 B.heap c7 b6 i7)(A:B.heap.IsListIter e9 i9 0)(h2:B.heap.IsListIter i8 j0 0)(hd:B.heap.DictOfH knd d [])(hR:∀h' tk,h'.DictOfH knd d X->Kp z c7 e9 i8 d B.heap h'->m7 (.ok (.ret res)) {B with heap:=h',toks:=tk}):
  codeAny (model prog w) L (.builtin "dict.update.loop" ⟨[.ref d,.ref z,Z3 0,res],[]⟩) m7 B:=by
 have s:=F _ _ Z.D.TIz Z.D.TITO Z.D.TIi1 Z.D.TIi2 Z.dTI.symm Z.pTI;have p:=Z.pl1.at λo e=>F _ _ Z.D.l1z Z.D.l1TO Z.D.l1i1 Z.D.l1i2 Z.l1d e;have C:=Z.pl2.at λo e=>F _ _ Z.D.l2z Z.D.l2TO Z.D.l2i1 Z.D.l2i2 Z.l2d e
 have m:d<B.heap.objs.size:=by obtain⟨o,_,_,e,_⟩:=hd;exact F6 e
 refine EF kE ?_;by_cases hX:X=[];subst hX;refine u4 (wpAny_pyNext_zip_end hh Z.D hz s E A h2 p C (.inl rfl) λh' n=>?_);refine u4 (z6 (z6 (hR h' B.toks ?_ λc o k h i j l e=>n c o k h i j e)));obtain⟨o,M,ep,e1,e2,e3,I,e5,e6⟩:=hd;exact⟨o,M,ep,n _ _ Z.dz Z.dTO Z.HZ Z.Nk e1,e2,e3,I,λx q=>by simp at q,e6⟩
 . have g:=List.length_pos_iff.mpr hX;have q:=L3 g;have r:=qU g;refine u4 (wpAny_pyNext_zip_item Z.D hz s E A h2 p C (x:=.ref X[0].2.1) (y:=X[0].2.2) (by simp[g]) (by simp[g]) λG z1 t1 b1 b2 p1 nB n=>?_);have u:=λc o k h i j l e=>n c o k h i j (F c o k h i j l e)
   have hd1:G.DictOfH knd d (X.take 0):=by obtain⟨o,M,ep,e1,e2,e3,I,e5,e6⟩:=hd;exact⟨o,M,ep,n _ _ Z.dz Z.dTO Z.HZ Z.Nk e1,e2,e3,I,λx q=>by simp at q,e6⟩
   refine BQ hu p1 ?_ hd1 (gP _) λh2' tk v f=>?_;obtain⟨o',q1,q2⟩:=Z.key _ r;obtain⟨K,H,a3,a4,a5⟩:=Z.ka _ r;exact q2 _ (u _ _ K H a3 a4 a5 q1);rw[sZ Z.nd q]at v;have lt:∀{c:Addr} {o:Obj},B.heap.get? c=U o->B.heap.objs.size≠c:=λe=>ar (F6 e);refine⟨Eu ku _,PL hu hh Z (X.length-1) 1 _ (0+1) B.heap.objs.size U' rfl g ?_ ?_ ?_ ⟨lt hz,?_,?_,ar m⟩ ?_ ?_ ?_ v λh' N K H=>hR h' N K ?_⟩;exact λc o k h i j l e=>f.extBut _ _ l (u c o k h i j l e);exact f.extBut _ _ Z.dz.symm z1;exact⟨_,f.extBut _ _ (ar m) p1⟩;obtain⟨t,e⟩:=A;exact lt e.1;obtain⟨t,e⟩:=h2;exact lt e.1;show d<h2'.objs.size;rw[f.1,nB];exact qY m;exact b1.extBut f.extBut Z.HZ.symm;exact b2.extBut f.extBut Z.Nk.symm;exact λc o k h i j l e=>H c o k h i j l (f.extBut _ _ l (n c o k h i j e))
def Bv{X:List (κ×Addr×t2)}(O:knd.room L.in1.in1)(n:L.in1.in1.handled=J)(Z:Zs knd B.heap X z T c7 e9 i8 i9 j0 B.heap.objs.size)(hz:IsZip B.heap z T c7 .none)(l:U6 B.heap c7 b6 i7)(A:B.heap.IsListIter e9 i9 0)(C:B.heap.IsListIter i8 j0 0)(h:∀h' p,h'.DictOfH knd B.heap.objs.size X->Kp z c7 e9 i8 B.heap.objs.size B.heap h'->c6 (.ref B.heap.objs.size) {B with heap:=h',toks:=p}):
  wpAny (model prog w) L (call (.type "dict") [.ref z]) c6 Y B:=by
 refine callType_codes (Q₁:=λobj i=>obj=.ref B.heap.objs.size/\i={B with heap:=B.heap.push {cls:=.type "dict",data:=.dict #[]}}) F.kt_called_dict (F.kt_typeCall_dict_1 _) F.entry_dict_init (kt_code_dict_new _ ⟨rfl,rfl⟩) ?_;rintro obj i ⟨rfl,rfl⟩;have d:(B.heap.push {cls:=.type "dict",data:=.dict #[]}).DictOfH knd B.heap.objs.size []:=Heap.DictOfH.new B.heap;have f:∀{c:Addr} {o:Obj},B.heap.get? c=U o->(B.heap.push {cls:=.type "dict",data:=.dict #[]}).get? c=U o:=λe=>G0 _ e;refine⟨d.typeIs,F.args_dict_init_2 _ _,?_⟩;refine u4 ?_;refine u4 (wpAny_notOrdered_dict d.typeIs ?_);refine z6 ?_;refine u4 (ur ⟨_,f hz,rfl⟩ ?_);refine u4 (FX (f hz) n λh' p g=>?_);refine u4 (lO ?_);refine u4 (EO (g _ _ (f hz)) (z6 ?_));refine⟨Eu ku _,Kt O n Z (λc o _ _ _ _ _ e=>g _ _ (f e)) (g _ _ (f hz)) (g _ _ (f l)) (A.at λo e=>g _ _ (f e)) (C.at λo e=>g _ _ (f e)) ?_ λk j D t=>⟨rfl,h k j D λc o N v E K u e=>t c o N v E K u (g _ _ (f e))⟩⟩;obtain⟨o,M,P,H,r,R,y,S,G⟩:=d;exact⟨o,M,P,g _ _ H,r,R,y,λx I=>by simp at I,G⟩
set_option backward.match.sparseCases false
end
noncomputable def asK:p9->Option Key
 | .int i=>U (.inl i)
 | .str x=>U (.inr x)
 |_=>J
noncomputable def kI:List p9->Option (List Key)
 | []=>U []
 |d::r=>(asK d).bind λk=>(kI r).bind λks=>U (k::ks)
noncomputable def pA:p9->Option (List Key)
 | .dict [(.list l,.none)]=>kI l
 |_=>J
noncomputable def lF:List p9->Option (List (List Key))
 | []=>U []
 |d::r=>(pA d).bind λk=>(lF r).bind λks=>U (k::ks)
def oa(k:List Key):kI (k.map bN)=U k:=by
 induction k with
 |nil=>rfl
 |cons a k h=>cases a<;>exact B9 (yH · λs=>U (_::s)) h
theorem C8.kI{K:v9}{H:Hp}{l:List p9}:∀{vs:List V} {k:List Key},C8 K H vs l->L2.kI l=U k->vs=k.map kV:=by
 induction l with
 |nil=>intro _ _ h e;cases h;cases e;rfl
 |cons d l i =>
  intro _ _ h e;cases h with
  |cons h t =>
  obtain⟨a,b,e⟩:=r4 e;obtain⟨d,c,e⟩:=r4 e;cases e;rw[i t c];cases h<;>first|(cases b;rfl)|exact nE b
theorem Dt.pA{K:v9}{H:Hp}{v:V}{d:p9}{k:List Key}(h:Dt K H v d)(e:L2.pA d=U k):∃a,v=.ref a/\H a=U (.tup (k.map kV)):=by
 cases h with
 |key h =>
  cases(oa _).symm.trans e;exact⟨_,rfl,h⟩
 |_=>exact nE e
theorem C8.lF{K:v9}{H:Hp}{l:List p9}:∀{vs:List V} {ks:List (List Key)},C8 K H vs l->L2.lF l=U ks->∃as:List Addr,vs=as.map V.ref/\Paired (λa k=>H a=U (.tup (k.map kV))) as ks:=by
 induction l with
 |nil=>intro _ _ h e;cases h;cases e;exact⟨[],rfl,.nil⟩
 |cons d l i =>
  intro _ _ h e;cases h with
  |cons h t =>
  obtain⟨k,b,e⟩:=r4 e;obtain⟨f,d,e⟩:=r4 e;cases e;obtain⟨a,rfl,g⟩:=h.pA b;obtain⟨as,rfl,c⟩:=i t d;exact⟨a::as,rfl,.cons g c⟩
noncomputable def W4(Fl:DL):DV:=λds=>(Fl ds).bind λl=>(kI l).bind λk=>if l.length<=1000000 then U (.dat (L7 k))else J
def VV{x1}(h:dq c I Z M P):PX c I (.Tuple Z x1 p) (Qe M) (W4 P):=⟨LM h.p,by
 intro O b n f H s pv Q S a q;obtain⟨l,o,a⟩:=r4 a;obtain⟨k,m,a⟩:=r4 a;obtain⟨j,a⟩:=I0 a;cases a;refine h.t O b n f H s l _ S o λv u e r=>⟨by rw[r.length];exact oW j,λX d=>q _ _ (e.trans (u9.new d)) ?_⟩
 obtain⟨g,i⟩:=(S.grow e).dm.fresh d;rw[r.kI m];exact Dt.key (E3.mpr ⟨g,i,O3⟩)⟩
noncomputable def un:p9->p9
 | .dict [(.list l,.none)]=>.tuple l
 |d=>d
theorem Ak{K:v9}{H:Hp}:∀k:List Key,C8 K H (k.map kV) (k.map bN)
 | []=>.nil
 | .inl i::k=>.cons (.int i) (Ak k)
 | .inr i::k=>.cons (.str i) (Ak k)
theorem Dt.un{K:v9}{H:Hp}{v:V}{d:p9}(h:Dt K H v d):Dt K H v (un d):=by
 cases h with
 |key h=>exact .tup (X9.of h) (Ak _)
 |non=>exact .non
 |bl b=>exact .bl b
 |int i=>exact .int i
 |str x=>exact .str x
 |tup h t=>exact .tup h t
 |lst h t=>exact .lst h t
 |exc c n e a t=>exact .exc c n e a t
 |fn h=>exact .fn h
 |ins e a f t=>exact .ins e a f t
 |dct e a t=>exact .dct e a t
 |dtt e a f t=>exact .dtt e a f t
theorem C8.un{K:v9}{H:Hp}{vs:List V}{l:List p9}(h:C8 K H vs l):C8 K H vs (l.map L2.un):=by
 induction l generalizing vs with
 |nil=>exact h
 |cons _ _ i=>cases h with
  |cons a t=>exact .cons a.un (i t)
def x3(ks:List (List Key))(as:List Addr)(vs:List t2)(g:as.length=ks.length)(h:vs.length=ks.length):
  (ks.zip (as.zip vs)).map (λx=>x.1)=ks/\(ks.zip (as.zip vs)).map (λx=>aU x.2.1)=as.map aU/\(ks.zip (as.zip vs)).map (λx=>x.2.2)=vs/\(ks.zip (as.zip vs)).length=ks.length:=by
 induction ks generalizing as vs with
 |nil=>exact⟨rfl,by cases as<;>trivial,by cases vs<;>trivial,rfl⟩
 |cons k ks i=>cases as with
  |nil=>cases g
  |cons a as=>cases vs with
   |nil=>cases h
   |cons v vs =>
    obtain⟨b,e,d,c⟩:=i as vs (yJ g) (yJ h);exact⟨B9 (k::·) b,B9 (_::·) e,B9 (v::·) d,B9 (· + 1) c⟩
def Yj(vs:List t2)(p:Paired p7 O p8):∀x∈p8.zip (O.zip vs),p7 x.2.1 x.1:=by
 induction p generalizing vs with
 |nil=>intro _ h;cases h
 |cons r t i=>cases vs with
  |nil=>intro _ h;cases h
  |cons v vs =>
   intro x h;rcases List.mem_cons.1 h with rfl|h
   exact r;exact i vs x h
def Vk{S:Addr->List Key->Prop}(f:∀a k,p7 a k->S a k)(p:Paired p7 O p8)(v:Vals N j2)(h:N.length=p8.length):
  Paired (λ(p:List Key×V) (q:List Key×Addr×t2)=>p.1=q.1/\S q.2.1 p.1/\RelV p.2 q.2.2) (p8.zip N) (p8.zip (O.zip j2)):=by
 induction p generalizing N j2 with
 |nil=>exact .nil
 |cons r t i=>cases v with
  |nil=>cases h
  |cons a b=>exact .cons ⟨rfl,f _ _ r,a⟩ (i b (yJ h))
def Kr:∀{as:List Addr} {us:List t2},Vals (as.map V.ref) us->us=as.map aU:=by
 intro l_;induction l_ with
 |nil =>
  intro _ r;cases r;rfl
 |cons a as ih_ =>
  intro _ r;cases r with
  |cons h t=>rw[C7,<-ih_ t];exact B9 (·::_) h
def IY{b:Type}{R:d3->b->Prop}{l:List d3}{m:List b}(h:Paired R l m):l.length=m.length:=by
 induction h with
 |nil=>rfl
 |cons _ _ i=>exact B9 (· + 1) i
def Ci(K:v9):List V->Hp->VK->Prop:=λvs H Q=>∃(p1 p2:Addr) (as:List Addr) (ys:List V) (ks:List (List Key)),vs=[.ref p1,.ref p2]/\M8 K H p1 (as.map V.ref)/\M8 K H p2 ys /\
 Paired (λa k=>H a=U (.tup (k.map kV))) as ks/\ks.Nodup/\ys.length=ks.length/\∀p,H p=J->Q (.ref p) (upd H p (.dT (ks.zip ys)))
def JY{Q:VK}(hu:c.A.units+2<R3)(hh:c.A.handled=J)(I:Inv c c9 D H B)(rv:Vals N j2)(h:Ci c.K N H Q):
  wpAny (model c.prog c.w) c.A (call (.type "zip") j2) (λz s1=>wpAny (model c.prog c.w) c.A (call (.type "dict") [z]) (EP c c9 D Q) c.xe s1) c.xe B:=by
 obtain⟨Y,T,O,ys,C,rfl,hs1,W,hk,hn,R,q⟩:=h;cases rv with
 |cons r1 rr =>
 cases rr with
 |cons r2 rr =>
 cases rr;cases r1;cases r2;obtain⟨its1,ri1,t,z1⟩:=I.list hs1;obtain⟨d,G,m,z2⟩:=I.list W;have e1:=Kr ri1;subst e1;have la:=IY hk;have lv:d.length=C.length:=by rw[<-G.length,R]
 obtain⟨x1,x2,x3',x4⟩:=x3 C O d la lv;have E:∀x∈C.zip (O.zip d),∃o,B.heap.get? x.2.1=U o/\∀h:Heap,h.get? x.2.1=U o->(om (aH c.prog c.w)).is h x.1 x.2.1:=λx y=>by
  have y:=Yj d hk x y;obtain⟨_,its,r,o,v,F,n,g3⟩:=(show ao c.prog c.w H B.heap x.2.1 (.tup (x.1.map kV))from I.J1 _ _ y);exact⟨o,v,λh e=>⟨o,its.toArray,n,e,F,g3,by simpa using AS r⟩⟩
 have w:Y<B.heap.objs.size:=by obtain⟨o,e,_⟩:=t.isList;exact F6 e
 have M:T<B.heap.objs.size:=by obtain⟨o,e,_⟩:=m.isList;exact F6 e
 have ls:∀{X:Nat} j,X<B.heap.objs.size->X≠B.heap.objs.size+j:=λj h=>by exact Q1 (M5 s9 (jI _ _))
 have l:∀{X:Nat},X<B.heap.objs.size->X≠B.heap.objs.size:=λh=>by exact Q1 s9
 have g:∀{i j:Nat},i≠j->B.heap.objs.size+i≠B.heap.objs.size+j:=λh=>by simp[*]
 have L:∀{j:Nat},j≠0->B.heap.objs.size≠B.heap.objs.size+j:=λh=>by simp[*]
 refine call_zip_2 t.isList m.isList λs hz AW HP i1 i2 p P=>?_
 have σ:gN (B.heap.objs.size+4) (B.heap.objs.size+2) (B.heap.objs.size+3) B.heap.objs.size (B.heap.objs.size+1) Y T:=
  ⟨g f5,g f5,L f5,g f5,g f5,(L f5).symm,g f5,(L f5).symm,g f5,L f5,ls _ w,ls _ w,l w,ls _ w,ls _ M,ls _ M,l M,ls _ M⟩
 have Z:Zs (om (aH c.prog c.w)) s (C.zip (O.zip d)) (B.heap.objs.size+4) (B.heap.objs.size+2) (B.heap.objs.size+3) B.heap.objs.size (B.heap.objs.size+1) Y T s.objs.size:=by
  rw[p];refine⟨σ,g f5,(L f5).symm,g f5,g f5,g f5,AW,?_,?_,λx y=>?_,λx y=>?_,ls _ w,ls _ M,?_,?_⟩;rw[x2];exact t.isList.at λo e=>P _ _ e;rw[x3'];exact m.isList.at λo e=>P _ _ e;obtain⟨o,v,F⟩:=E x y;exact⟨o,P _ _ v,F⟩;obtain⟨o,v,_⟩:=E x y;have:=F6 v;exact⟨ls _ this,ls _ this,l this,ls _ this,ls _ this⟩;rw[x1];exact hn;rw[x4,<-la];simpa using z1
 refine Bv (show c.A.in1.in1.units<R3 from hu) hh Z hz HP i1 i2 λh' tk hd kp=>?_
 have keep:∀b u,B.heap.get? b=U u->h'.get? b=U u:=λb u e=>by have:=F6 e;exact kp b u (ls _ this) (ls _ this) (l this) (ls _ this) (by show b≠s.objs.size;rw[p];exact ls _ this) (P _ _ e)
 have hp:B.heap.objs.size<=s.objs.size:=by rw[p];simp[*]
 have f:=I.J1.fresh hp;refine⟨.ref s.objs.size,_,I.laid keep hp ?_,rfl,q _ f⟩;obtain⟨o,es,ep,v,F,g3,g4,g5,g6⟩:=hd;refine⟨?_,?_,C.zip (O.zip d),Vk (S:=λa k=>upd H s.objs.size (HO.dT (C.zip ys)) a=U (HO.tup (List.map kV k))) (λa k e=>?_) hk G R,o,es,ep,v,F,g3,g4,g6⟩;rw[List.length_zip,R,Nat.min_self,<-R];exact z2;have:=I.big;exact beq_eq_false_iff_ne.mpr (ar (M5 this hp));rw[J4 (ai e f)];exact e
def RA{X:Pos}(m:c.A.units+2<R3)(r:c.A.handled=J)(u:Gl c "dict")(y:c.mg "dict" = J)(x:dZ "dict" = U (.type "dict"))(g:Gl c "zip")(l:c.mg "zip" = J)(k:dZ "zip" = U (.type "zip"))(b:PA c [e,o] M)(v:autoParam (v7 [.Call (.Name "zip" A) [e,o] [] X] c.env=(U',eval (.Call (.Name "zip" A) [e,o] [] X) c.env)::v7 [] c.env) t5)(j:autoParam ((F9 c5 (v7 [] c.env)).any (·.1)=U') t5)(i:autoParam (v7 [e,o] c.env=(U',eval e c.env)::v7 [o] c.env) t5)(d:autoParam ((F9 X (v7 [o] c.env)).any (·.1)=U') t5)(F:autoParam (F9 c5 (v7 [] c.env)=[]) t5):
  PE c (.Call (.Name "dict" p) [.Call (.Name "zip" A) [e,o] [] X] [] c5) (xm (Ci c.K) M):=by
 intro a s B H Q I h;refine ra (gE I u y x ?_ f5 f5);refine pG ?_ v j;refine zj (ra (gE I g l k ?_ f5 f5));refine pG (F1 (b X a s B H _ I h) λt G ⟨L,D,C,q,n⟩=>?_) i d;exact F1 (JY m r C q n) λz E w=>EW w
def a0u{H2:Hp}{a:Bool}(S:DS g O q u D H E)(e:u9 H e8)(k:u9 e8 H2):∀b o,A6 e8 (ag I u) O b=U o->¬Cell o->A6 H2 (ag a u) O b=U o:=by
 intro b o K l;obtain⟨i,_,f⟩:=E3.mp K;refine E3.mpr ⟨i,λz=>?_,k _ _ f⟩;obtain⟨_,c,h⟩:=S.new b (pT z);have:=e _ _ h;rw[f]at this;have d:=c.2;rw[<-V0 this]at d;exact l d
noncomputable def US:FV
 | [.list a,.list b]=>(lF a).bind λks=>if ks.Nodup/\b.length=ks.length/\lH b=Uf then U (.dat (wQ ks b))else J
 |_=>J
def yk(Fl:DL):DV:=λds=>(Fl ds).bind US
set_option tactic.hygienic true in
def QK{K':v9}{X:Pos}(R:c.K=K')(hu:c.A.units+2<R3)(B:c.A.handled=J)(i:Gl c "dict")(L:c.mg "dict" = J)(Y:dZ "dict" = U (.type "dict"))(m:Gl c "zip")(u:c.mg "zip" = J)(s:dZ "zip" = U (.type "zip"))(w:dq c U' [e,o] M P)(E:autoParam (v7 [.Call (.Name "zip" A) [e,o] [] X] c.env=(U',eval (.Call (.Name "zip" A) [e,o] [] X) c.env)::v7 [] c.env) t5)(g:autoParam ((F9 c5 (v7 [] c.env)).any (·.1)=U') t5)(k:autoParam (v7 [e,o] c.env=(U',eval e c.env)::v7 [o] c.env) t5)(f:autoParam ((F9 X (v7 [o] c.env)).any (·.1)=U') t5)(hn:autoParam (F9 c5 (v7 [] c.env)=[]) t5):
  PX c I (.Call (.Name "dict" p) [.Call (.Name "zip" A) [e,o] [] X] [] c5) (xm (Ci K') M) (yk P):=by
 subst R;refine⟨RA hu B i L Y m u s w.p E g k f hn,?_⟩;intro O b as V H ds pv Q S d q;obtain⟨l,h1,d⟩:=r4 d;refine w.t O b as V H ds l _ S h1 λvs H1 j N=>?_;unfold US at d;split at d
 . rename_i la lb;obtain⟨D,h2,d⟩:=r4 d;obtain⟨F,d⟩:=I0 d;obtain⟨T,z,Z⟩:=F;cases d;cases N with
   |cons t h =>
   cases h with
   |cons r h =>
   cases h;cases t with
   |lst a G =>
   cases r with
   |lst C v =>
   obtain⟨bs,rfl,y⟩:=(G.same C1).lF h2;have x:=v.length;refine⟨_,_,bs,_,D,rfl,C1.seq a,C1.seq C,y,T,x.trans z,λp n=>q _ _ (j.trans (u9.new n)) ?_⟩;obtain⟨t,r⟩:=(S.grow j).dm.fresh n;exact Dt.dtt (E3.mpr ⟨t,r,O3⟩) (x.trans z).symm rfl (C8.lf (a0u S j (u9.new n)) v Z)
 exact nE d
noncomputable def tZ:List p9->Option (List (List Key))
 | []=>U []
 | .tuple l::r=>(kI l).bind λk=>(tZ r).bind λks=>U (k::ks)
 |_=>J
def yt(ks:List (List Key)):tZ (ks.map λk=>.tuple (k.map bN))=U ks:=by
 induction ks with
 |nil=>rfl
 |cons k s h =>
  change (kI _).bind _=_;rw[oa];exact B9 (yH · λs=>U (k::s)) h
noncomputable def mj(d:p9)(k:List Key):Option (Option p9):=match d with
 | .dict [(.list l,.list vs)]=>(tZ l).bind λks=>U (((ks.zip vs).find? λp=>decide (p.1=k)).map (·.2))
 |_=>J
theorem GH{K:v9}{H:Hp}(k:List Key):∀{ks:List (List Key)} {vs:List V} {l:List p9},C8 K H vs l ->
  (iQ (ks.zip vs) k=J/\((ks.zip l).find? λp=>decide (p.1=k)).map (·.2)=J)\/∃v d,iQ (ks.zip vs) k=U v/\((ks.zip l).find? λp=>decide (p.1=k)).map (·.2)=U d/\Dt K H v d
 | [],_,_,_=>.inl ⟨rfl,rfl⟩
 |_::_,_,_,.nil=>.inl ⟨rfl,rfl⟩
 |k'::ks,_,_,.cons (x:=x) (d:=d) h t=>by
  by_cases e:k'=k;exact .inr ⟨x,d,we e,by simp[e],h⟩;rw[kU,kU,wg e,NL];simp only[aM e];exact GH k t
set_option tactic.hygienic true in
theorem Dt.mj{K:v9}{H:Hp}{x:V}{d:p9}{k:List Key}{r:Option p9}(h:Dt K H x d)(e:L2.mj d k=U r):
  ∃a b,x=.ref a/\H a=U (.dT b)/\((iQ b k=J/\r=J)\/∃v d',iQ b k=U v/\r=U d'/\Dt K H v d'):=by
 cases h with
 |dtt c g f t =>
  rename_i a b i j l;change (tZ _).bind _=_ at e;rw[yt]at e;replace e:=V0 e;refine⟨a,b,rfl,c,?_⟩;rw[f,<-e];exact GH k t
 |dct c g t=>exact nE e
 |key h=>exact nE e
 |_=>exact nE e
noncomputable def jk(Fo Fi:DV):DV:=λds=>(Fo ds).bind λx=>(Fi ds).bind λy=>(pA y.d).bind λk=>(mj x.d k).bind λr=>r.bind λd=>U (.dat d)
noncomputable def iI(Fo Fi Fx:DV):DV:=λds=>(Fo ds).bind λx=>(Fi ds).bind λy=>(Fx ds).bind λz=>(pA y.d).bind λk=>(mj x.d k).bind λr=>U (.dat (r.getD z.d))
def QL(F:c.A.units+1<R3)(m:PX c I o G r)(l:PX c I e b9 d2)(hs:autoParam (TN e) vA):PX c I (.Subscript o e p) (Ur G b9) (jk r d2):=⟨WH F m.p l.p hs,by
 intro O t w n H u pv Q S X q;obtain⟨x,L,X⟩:=r4 X;obtain⟨y,M,X⟩:=r4 X;obtain⟨k,i,X⟩:=r4 X;obtain⟨W,B,X⟩:=r4 X;obtain⟨d,g,X⟩:=r4 X;cases X;refine m.t O t w n H u x _ S L λv C j P=>?_;refine l.t O t w n C u y _ (S.grow j) M λT R s A=>?_
 obtain⟨b,rfl,E⟩:=(A.dt (S.grow j).dm).pA i;obtain⟨a,h,rfl,z,f⟩:=((P.grow s).dt S.dm).mj B;rcases f with ⟨_,f⟩|⟨D,V,f,N,K⟩
 . simp_all
 . rw[N]at g;cases g;exact⟨a,D,rfl,.inr ⟨h,k,b,.inl (E3.mp z).2.2,rfl,(E3.mp E).2.2,f.symm⟩,q _ _ (j.trans s) K⟩⟩
def Ln{tx:TE}{Fx:DV}(V:c.A.units+1<R3)(i:PX c I o G r)(E:PX c I e b9 d2)(F:PX c I b7 tx Fx)(m:M2 c o "get" p e b7 A:=by exact⟨rfl,rfl,rfl,rfl⟩):PX c I (.Call (.Attribute o "get" p) [e,b7] [] A) (KI G b9 tx) (iI r d2 Fx):=⟨RB V i.p E.p F.p m,by
 intro O X C s H w pv Q S d q;obtain⟨x,h1,d⟩:=r4 d;obtain⟨y,h2,d⟩:=r4 d;obtain⟨z,B,d⟩:=r4 d;obtain⟨k,Y,d⟩:=r4 d;obtain⟨fr,K,d⟩:=r4 d;cases d;refine i.t O X C s H w x _ S h1 λv R h M=>?_;obtain⟨a,u,rfl,N,_⟩:=(M.dt S.dm).mj K;refine⟨a,rfl,.inr ⟨u,.inl (E3.mp N).2.2⟩,?_⟩;refine E.t O X C s R w y _ (S.grow h) h2 λv2 Z l W=>?_;refine F.t O X C s Z w z _ ((S.grow h).grow l) B λv3 H3 n P=>?_
 obtain⟨b,rfl,L⟩:=((W.grow n).dt (S.grow h).dm).pA Y;obtain⟨a',g,f,t,j⟩:=(((M.grow l).grow n).dt S.dm).mj K;cases f;rcases j with ⟨j,D⟩|⟨T,d',j,D,g4⟩
 refine⟨J,.inr ⟨g,k,b,.inl (E3.mp t).2.2,rfl,(E3.mp L).2.2,j.symm⟩,q _ _ ((h.trans l).trans n) ?_⟩;rw[D];exact(P.dt ((S.grow h).grow l).dm)
 . refine⟨U T,.inr ⟨g,k,b,.inl (E3.mp t).2.2,rfl,(E3.mp L).2.2,j.symm⟩,q _ _ ((h.trans l).trans n) ?_⟩;rw[D];exact g4⟩
noncomputable def kz:p9->FV
 | .list l,[d]=>zZ (.list (l.map un)) [un d]
 |_,_=>J
set_option tactic.hygienic true in
def Lm {K':v9} (V:c.A.units + 64 < R3) (N:c.K=K') (u:PX c I o G r) (B:dq c I [e] M P) (h:autoParam (aL o "index" c.env (eval o c.env)=eval o c.env) t5) (k:autoParam (((F9 A (v7 [e] c.env)).all (λx=>!x.1)&&(bO A (dX [] c.env)).all (λx=>x.1.isSome)
   && decide ([e].length+([]:List aT).length+(if ([]:List aT).isEmpty then 0 else 1)<30))=Uf) t5)
  (i:autoParam ((p.endLine==A.line)=Uf) t5) (hs:autoParam (v7 [e] c.env=(U',eval e c.env)::v7 [] c.env) t5) (X:autoParam ((F9 A (v7 [] c.env)).any (·.1)=U') t5) :
  PX c I (.Call (.Attribute o "index" p) [e] [] A) (GK K' "list" (GZ K') G M) (rK kz r P):=by
 subst N;refine⟨xD rh zp OW (Mq V) u.p B.p h k i hs X,?_⟩;intro O g C z H E pv Q S b q;obtain⟨x,h1,b⟩:=r4 b;obtain⟨l,h2,b⟩:=r4 b;refine u.t O g C z H E x _ S h1 λv R t r1=>?_;have D:=r1.dt S.dm;generalize x.d=xd at b D;unfold kz at b;split at b
 . rename_i w d;obtain⟨n,b⟩:=I0 b;obtain⟨j,L,b⟩:=r4 b;cases b;cases D with
   |lst m ht =>
    rename_i a T;refine⟨.inl ⟨rfl,_,C1.seq m⟩,?_⟩;refine B.t O g C z R E _ _ (S.grow t) h2 λvs Z s Y=>?_
    cases Y with
    |cons y f =>
     cases f;exact⟨a,T,w.map un,_,un d,j,rfl,rfl,s.seq (C1.seq m),((ht.same C1).same s).un,(y.same C1).un,n.1,n.2.1,n.2.2.1,n.2.2.2,L,q _ Z (t.trans s) (Dt.int _)⟩
 exact nE b
def Lu{pos:Pos}(u:c.N.Nodup)(X:c.N[m]? = U y)(F:Loc c.env.scope y)(K:c.calm=Uf)(B:jX c Q d6 d8)(l:gp c Uf o b7 j4 P)(f:jN Q.length j5)(g:∀cl C fp s H pins,PG (W8 c Q d6 d8 cl C fp s H pins) o j5)(b:ub c.K Q.length j5 l5)(k:∀cl C fp s H pins,PX (W8 c Q d6 d8 cl C fp s H pins) Uf e G r)(d:autoParam (bS (.ListComp e [⟨o,b7,[],0⟩] d8 p) (U (.Name y A)) pos.line c.env=pure Uf) t5)(I:autoParam (c.fn y=Uf\/c.env.scope.names.lookup y=U .local) di)(hs:autoParam (∀y,ee b7 c.env y=pure y) W0):O1 c (.Assign [.Name y A] (.ListComp e [⟨o,b7,[],0⟩] d8 p) pos) (iT (gW Q j4 j5 xl G) (aJ m)) (S6 m (lC P l5 r)):=
 ⟨zH u X F K B l.p f g (λ_ _ _ _ _ _=>wA) (λ_ _ _ _ _ _=>(k _ _ _ _ _ _).p) d I hs,by
 intro O a L w H j D i S h q;obtain⟨pv,e1,h⟩:=r4 h;cases h;refine((QN (pos:=p) K B l f g b k hs).t) O a L w H j pv _ S e1 λv t E x=>?_
 obtain⟨n,z⟩:=S.store E m x;exact q _ _ _ z⟩
def N7.u1(r:N7 m L):L.units+1<R3:=by have:=r.un;lia
def N7.u2{k:Nat}(r:N7 k L):L.units+2<R3:=by have:=r.un;lia
end L2
namespace Sx
variable{n j m:Nat}{p s x:Int}{w f:Nat->Int}{Z:Bool}{Y X:Nat->Nat}{S:Nat->Nat->Int}
def sm:Nat->(Nat->Int)->Int
 | 0,_=>0
 |n+1,f=>sm n f+f n
def A0(h:∀i,i<n->f i=w i):sm n f=sm n w:=by
 induction n with
 |zero=>rfl
 |succ n a=>rw[sm,sm,a λi b=>h i eu,h n z9]
def iw(h:∀i,i<n->f i=0):sm n f=0:=by
 induction n with
 |zero=>rfl
 |succ n a=>rw[sm,a λi b=>h i eu,h n z9];rfl
def iV(n:Nat)(f g:Nat->Int):sm n (λi=>f i+g i)=sm n f+sm n g:=by
 induction n with
 |zero=>rfl
 |succ n a=>rw[sm,sm,sm,a];lia
def J6(n:Nat)(a:Int)(f:Nat->Int):sm n (λi=>a*f i)=a*sm n f:=by
 induction n with
 |zero=>rw[sm,sm,R9]
 |succ n b=>rw[sm,sm,b,jz]
def GQ(n:Nat)(a:Int)(f:Nat->Int):sm n (λi=>f i*a)=sm n f*a:=by rw[J5,<-J6];exact A0 λi _=>J5 _ _
def V7{k:Nat}(a:k<n)(h:∀i,i<n->i≠k->f i=0):sm n f=f k:=by
 induction n with
 |zero=>simp_all
 |succ n d =>
  rw[sm];by_cases c:k=n;subst c;rw[iw λi b=>h i eu (Q1 s9)];simp[*];rw[d (lY (oD s9) s9) λi b a=>h i eu a,h n z9 λz=>c z.symm];simp[*]
def YJ(a:j+1<n)(h:∀i,i<n->i≠j->i≠j+1->f i=0):sm n f=f j+f (j+1):=by
 induction n with
 |zero=>simp_all
 |succ n g =>
  rw[sm];by_cases c:j+1=n;subst c;rw[V7 z9 λi b a=>h i eu a (Q1 s9)];rw[g (lY (oD s9) s9) λi b d e=>h i eu d e,h n z9 r9 λz=>c z.symm];simp[*]
def pV(n m:Nat)(f:Nat->Nat->Int):sm n (λi=>sm m λj=>f i j)=sm m λj=>sm n λi=>f i j:=by
 induction n with
 |zero=>rw[sm];exact(iw λ_ _=>rfl).symm
 |succ n a =>
  rw[sm,a,<-iV];rfl
def iU(n:Nat)(f g:Nat->Int):sm n (λi=>f i-g i)=sm n f-sm n g:=by
 have e:(λi=>f i-g i)=λi=>f i+(-1)*g i:=by funext i;lia
 rw[e,iV,J6];lia
def xn(f:Nat->Int)(a:j<n):sm n f=f j+sm n λi=>if i=j then 0 else f i:=by
 have:sm n f=sm n λi=>(if i=j then f j else 0)+(if i=j then 0 else f i):=A0 λi _=>by
  by_cases c:i=j;rw[f9 c,f9 c,c];simp[*];rw[f6 c,f6 c];simp[*]
 rw[this,iV,V7 a λi _ h=>by rw[f6 h],f9 rfl]
def skip(j c:Nat):Nat:=if c<j then c else c+1
noncomputable def det:Nat->(Nat->Nat->Int)->Int
 | 0,_=>1
 |n+1,M=>sm (n+1) λj=>(-1) ^ j*M j 0*det n λc r=>M (skip j c) (r+1)
def VJ(a:j<n+1)(b:m<n):skip j m<n+1:=by delta skip;split<;>lia
def VI:skip j n≠j:=by delta skip;split<;>lia
def Y4:∀{n:Nat} {M a:Nat->Nat->Int},(∀c r,c<n->r<n->M c r=a c r)->det n M=det n a:=by
 intro l_;induction l_ with
 |zero =>
  intro _ _ _;exact rfl
 |succ n ih_ =>
  intro M a h;refine A0 λj b=>?_;rw[h j 0 b z9,ih_ λc r d e=>h _ _ (VJ b d) z9]
def F7(M:Nat->Nat->Int)(k:Nat)(v:Nat->Int):Nat->Nat->Int:=λc r=>if c=k then v r else M c r
def bG(M:Nat->Nat->Int)(k:Nat)(v:Nat->Int)(r:Nat):F7 M k v k r=v r:=by delta F7;simp
def aw(M:Nat->Nat->Int)(v:Nat->Int)(r:Nat)(h:j≠n):F7 M n v j r=M j r:=by delta F7;rw[f6 h]
def back(j k:Nat):Nat:=if k<j then k else k-1
def AE(h:n≠j):skip j (back j n)=n:=by
 delta back;by_cases c:n<j;rw[f9 c];delta skip;rw[f9 c];rw[f6 c];delta skip;rw[f6 r9];lia
def XN(a:j<n+1)(b:m<n+1)(h:m≠j):back j m<n:=by delta back;split<;>lia
def Qp(h:skip j n=skip j m):n=m:=by unfold skip at h;split at h<;>split at h<;>lia
def vx:∀{n k:Nat} (M:Nat->Nat->Int) (a b:Int) (u v:Nat->Int),k<n->det n (F7 M k λr=>a*u r+b*v r)=a*det n (F7 M k u)+b*det n (F7 M k v):=by
 intro l_;induction l_ with
 |zero =>
  intro k M a b u v h;exact kS
 |succ n ih_ =>
  intro k M a b u v h;rw[det,det,det,<-J6,<-J6,<-iV];refine A0 λj g=>?_;by_cases c:k=j
  . subst c;have e:∀w:Nat->Int,det n (λc r=>F7 M k w (skip k c) (r+1))=det n (λc r=>M (skip k c) (r+1)):=λw=>Y4 λc r _ _=>aw _ _ _ VI;rw[e,e,e,bG,bG,bG];generalize (-1) ^ k=s;rw[jz,Eg]
    congr 1
    rw[<-O8,<-O8,<-O8,J5 s a];rw[<-O8,<-O8,<-O8,J5 s b]
  . have e:∀w:Nat->Int,det n (λc r=>F7 M k w (skip j c) (r+1))=det n (F7 (λc r=>M (skip j c) (r+1)) (back j k) λr=>w (r+1)):=λw=>Y4 λf r _ _=>by
      delta F7;by_cases d:f=back j k;rw[f9 d,d,AE c,f9 rfl];rw[f6 d,f6 λz=>d (Qp (by rw[z,AE c]))]
    rw[e,e,e,aw _ _ _ (λz=>c z.symm),aw _ _ _ (λz=>c z.symm),aw _ _ _ (λz=>c z.symm),ih_ _ a b (λr=>u (r+1)) (λr=>v (r+1)) (XN g h c)];generalize (-1) ^ j*M j 0=s;rw[jz]
    congr 1
    rw[<-O8,<-O8,J5 s a];rw[<-O8,<-O8,J5 s b]
def Ic:∀{n k:Nat} {M:Nat->Nat->Int},k+1<n->(∀r,r<n->M k r=M (k+1) r)->det n M=0:=by
 intro l_;induction l_ with
 |zero =>
  intro k M h _
  simp_all
 |succ n ih_ =>
  intro k M h e;rw[det,YJ h]
  . have b:det n (λc r=>M (skip k c) (r+1))=det n (λc r=>M (skip (k+1) c) (r+1)):=Y4 λc r _ a=>by
      by_cases d:c=k;subst d;rw[show skip c c=c+1 from by delta skip;rw[f6 z9],show skip (c+1) c=c from by delta skip;rw[f9 z9]];exact(e _ z9).symm;rw[show skip k c=skip (k+1) c from by delta skip;split<;>split<;>lia]
    rw[b,e 0 z9,Int.pow_succ];lia
  . intro j f g i;have:det n (λc r=>M (skip j c) (r+1))=0:=by
     by_cases c:j<k;refine ih_ (k:=k-1) r9 λr a=>?_;rw[show skip j (k-1)=k from by delta skip;rw[f6 O7];lia,show skip j (k-1+1)=k+1 from by delta skip;rw[f6 O7];lia];exact e _ z9;refine ih_ (k:=k) r9 λr a=>?_;rw[show skip j k=k from by delta skip;rw[f9 r9],show skip j (k+1)=k+1 from by delta skip;rw[f9 r9]];exact e _ z9
    simp_all
def nq(M:Nat->Nat->Int)(k:Nat):F7 M k (M k)=M:=by
 funext c r
 delta F7
 simp_all
def Ku(M:Nat->Nat->Int)(k:Nat)(u v:Nat->Int):F7 (F7 M k u) k v=F7 M k v:=by
 funext c r
 delta F7
 simp_all
def hJ(M:Nat->Nat->Int)(u v:Nat->Int)(h:n≠j):F7 (F7 M n u) j v=F7 (F7 M j v) n u:=by
 funext c r
 delta F7;by_cases a:c=j;rw[f9 a,f6 r9,f9 a];rw[f6 a];by_cases b:c=n;rw[f9 b,f9 b];rw[f6 b,f6 b,f6 a]
def Ap(M:Nat->Nat->Int)(u v:Nat->Int)(h:j<n):det n (F7 M j λr=>u r+v r)=det n (F7 M j u)+det n (F7 M j v):=by have:=vx M 1 1 u v h;simpa using this
def vR(b:m<n)(c:j<n)(a:m≠j)(M:Nat->Nat->Int)(z:∀w,det n (F7 (F7 M m w) j w)=0)(u v:Nat->Int):det n (F7 (F7 M m u) j v) = - det n (F7 (F7 M m v) j u):=by
 have h:=z λr=>u r+v r;rw[Ap _ _ _ c,hJ _ _ _ a,hJ _ _ _ a,Ap _ _ _ b,Ap _ _ _ b,hJ _ _ _ a.symm,hJ _ _ _ a.symm,hJ _ _ _ a.symm,hJ _ _ _ a.symm,z u,z v]at h;lia
def DG:∀(d:Nat) {n a:Nat} {M:Nat->Nat->Int},a+d+1<n->(∀r,r<n->M a r=M (a+d+1) r)->det n M=0:=by
 intro l_;induction l_ with
 |zero =>
  intro n a M h e;exact Ic h e
 |succ d ih_ =>
  intro n a M h e;have b:M=F7 (F7 M (a+d+1) (M (a+d+1))) (a+d+1+1) (M (a+d+1+1)):=by rw[nq,nq]
  rw[b,vR eR O7 z9 M (λw=>Ic (k:=a+d+1) O7 λr _=>by rw[aw _ _ _ z9,bG,bG])];rw[ih_ eR λr c=>?_];rfl;rw[aw _ _ _ r9,aw _ _ _ r9,aw _ _ _ z9,bG];exact e r c
def rP(f:m<n)(d:j<n)(c:m≠j)(e:∀r,r<n->S m r=S j r):det n S=0:=by
 rcases Em m j with h|h
 refine DG (j-m-1) (a:=m) O7 λr b=>?_;rw[show m+(j-m-1)+1=j from by omega];exact e r b;refine DG (m-j-1) (a:=j) O7 λr b=>?_;rw[show j+(m-j-1)+1=m from by lia];exact(e r b).symm
def Te(c:m<n)(b:j<n)(a:m≠j)(M:Nat->Nat->Int)(u v:Nat->Int):det n (F7 (F7 M m u) j v) = - det n (F7 (F7 M m v) j u):=
 vR c b a M (λw=>rP c b a λr _=>by rw[aw _ _ _ a,bG,bG]) u v
def Ia(M:Nat->Nat->Int)(h:j<n)(a:Nat->Int)(V:Nat->Nat->Int):∀m,det n (F7 M j λr=>sm m λi=>a i*V i r)=sm m λi=>a i*det n (F7 M j (V i)):=by
 intro l_;induction l_ with
 |zero =>
  have:=vx M 0 0 (λ_=>0) (λ_=>0) h;simp only[cz]at this;exact this
 |succ m ih_ =>
  have:=vx M 1 (a m) (λr=>sm m λi=>a i*V i r) (V m) h;simp only[cU]at this;show det n (F7 M j λr=>sm m (λi=>a i*V i r)+a m*V m r)=sm m (λi=>a i*det n (F7 M j (V i)))+a m*det n (F7 M j (V m));rw[this,ih_]
def Ib:∀n,det n (λc r=>if c=r then 1 else 0)=1:=by
 intro l_;induction l_ with
 |zero =>
  exact rfl
 |succ n ih_ =>
  rw[det,V7 (k:=0) z9]
  . have e:det n (λc r=>if skip 0 c=r+1 then 1 else 0)=det n (λc r=>if c=r then 1 else 0):=Y4 λc r _ _=>by
      rw[show skip 0 c=c+1 from by delta skip;rw[f6 z9]];by_cases h:c=r;rw[f9 h,f9 z9];rw[f6 h,f6 z9]
    rw[e,ih_,f9 rfl];rfl
  intro j _ a;rw[f6 a,R9,cz]
def sN:Nat->(Nat->Nat)->Nat
 | 0,_=>0
 |n+1,f=>sN n f+f n
def pN:Nat->(Nat->Nat)->Nat
 | 0,_=>1
 |n+1,f=>pN n f*f n
def KW(n:Nat)(f:Nat->Int):(sm n f).natAbs<=sN n λi=>(f i).natAbs:=by
 induction n with
 |zero=>exact T6 _
 |succ n a =>
  exact B6 (Int.natAbs_add_le _ _) (Oz a _)
def Bz(h:∀i,i<n->Y i<=X i):sN n Y<=sN n X:=by
 induction n with
 |zero=>exact T6 _
 |succ n a=>exact yR (a λi b=>h i eu) (h n z9)
def a1R(h:∀i,i<n->Y i<=X i):pN n Y<=pN n X:=by
 induction n with
 |zero=>exact T6 _
 |succ n a=>exact yQ (a λi b=>h i eu) (h n z9)
def RG(h:∀i,i<n->Y i=X i):pN n Y=pN n X:=by
 induction n with
 |zero=>rfl
 |succ n a=>rw[pN,pN,a λi b=>h i eu,h n z9]
def VP(n:Nat)(f:Nat->Nat):sN (n+1) f=f 0+sN n λi=>f (i+1):=by
 induction n with
 |zero=>rw[sN,sN,sN];exact qH _ _
 |succ n a=>rw[sN,a,sN];exact Nat.add_assoc _ _ _
def VQ(n a:Nat)(f:Nat->Nat):sN n (λi=>f i*a)=sN n f*a:=by
 induction n with
 |zero=>rw[sN,sN,Nat.zero_mul]
 |succ n b=>rw[sN,sN,b,Nat.add_mul]
def Rk(x y:Nat->Nat):∀n,sN (n+1) (λj=>x j*pN n λc=>y (skip j c))<=pN (n+1) λc=>x c+y c:=by
 intro l_;induction l_ with
 |zero =>
  simp[sN,pN]
 |succ n ih_ =>
  rw[sN];have a:sN (n+1) (λj=>x j*pN (n+1) λc=>y (skip j c))<=sN (n+1) λj=>(x j*pN n λc=>y (skip j c))*y (n+1):=Bz λj f=>by
   rw[pN,show skip j n=n+1 from by delta skip;rw[f6 r9],Et];exact T6 _
  rw[VQ]at a;have b:pN (n+1) (λc=>y (skip (n+1) c))=pN (n+1) y:=RG λc e=>by rw[show skip (n+1) c=c from by delta skip;rw[f9 e]]
  have d:pN (n+1) y<=pN (n+1) λc=>x c+y c:=a1R λc _=>by simp[*]
  rw[b];refine B6 (Oz a _) ?_;show _<=(pN (n+1) λc=>x c+y c)*(x (n+1)+y (n+1));rw[Nat.mul_add,qH,uq (x (n+1))];exact yR (oI _ d) (oI _ (ih_))
def Nl:∀(n:Nat) (M:Nat->Nat->Int),(det n M).natAbs<=pN n λc=>sN n λr=>(M c r).natAbs:=by
 intro l_;induction l_ with
 |zero =>
  intro M;simp[det,pN]
 |succ n ih_ =>
  intro M;refine B6 (KW _ _) ?_;have e:(λc=>sN (n+1) λr=>(M c r).natAbs)=λc=>(M c 0).natAbs+sN n λr=>(M c (r+1)).natAbs:=by funext c;rw[VP]
  rw[e];refine B6 (Bz λj a=>?_) (Rk (λc=>(M c 0).natAbs) (λc=>sN n λr=>(M c (r+1)).natAbs) n)
  rw[cX,cX];have:((-1) ^ j).natAbs=1:=by simp
  rw[this,Nat.one_mul];exact Nat.mul_le_mul_left _ (ih_ _)
structure Pb where
 m:Nat
 n:Nat
 A:Nat->Nat->Int
 b:Nat->Int
 u:Nat->Option Int
 c:Nat->Nat->Int
variable{c:Pb}
structure Tb where
 B:Nat->Nat
 full:Nat->Bool
 size:Int
 inv:Nat->Nat->Int
 pr:Nat->Nat->Int
 rt:Nat->Int
variable{b:Tb}
def dot(m:Nat)(x y:Nat->Int):Int:=sm m λr=>x r*y r
def lD{x' y':Nat->Int}(h:∀r,r<m->w r=x' r)(h':∀r,r<m->f r=y' r):dot m w f=dot m x' y':=A0 λr a=>by rw[h r a,h' r a]
def An(m l:Nat)(x:Nat->Int)(a:Nat->Int)(V:Nat->Nat->Int):dot m x (λr=>sm l λi=>a i*V i r)=sm l λi=>a i*dot m x (V i):=by
 delta dot;have:sm m (λr=>x r*sm l λi=>a i*V i r)=sm m λr=>sm l λi=>a i*(x r*V i r):=A0 λr _=>by rw[<-J6];exact A0 λi _=>by rw[<-O8,<-O8,J5 (x r)]
 rw[this,pV];exact A0 λi _=>J6 _ _ _
def HY(m:Nat)(a:Int)(x y:Nat->Int):dot m (λr=>a*x r) y=a*dot m x y:=by delta dot;rw[<-J6];exact A0 λr _=>O8 _ _ _
def wU(m:Nat)(a:Int)(x y:Nat->Int):dot m x (λr=>a*y r)=a*dot m x y:=by delta dot;rw[<-J6];exact A0 λr _=>by rw[<-O8,<-O8,J5 a]
def HW(m:Nat)(x y z:Nat->Int):dot m x (λr=>y r-z r)=dot m x y-dot m x z:=by delta dot;rw[<-iU];exact A0 λr _=>Int.mul_sub _ _ _
def unit(q:Nat):Nat->Int:=λp=>if p=q then 1 else 0
def rN(x:Nat->Int)(h:n<m):dot m x (unit n)=x n:=by
 delta dot;rw[V7 h λi _ a=>by delta unit;rw[f6 a,R9]];delta unit;simp
def Kq(x:Nat->Int)(h:n<m):(sm m λq=>x q*unit q n)=x n:=by
 rw[V7 h λi _ a=>by delta unit;rw[f6 (λz=>a z.symm),R9]];delta unit;simp
def Kv(h:∀p,p<m->f p=w p):det m (F7 S n f)=det m (F7 S n w):=Y4 λc r _ a=>by
 delta F7
 simp_all
def Tb.M(P:Pb)(T:Tb):Nat->Nat->Int:=λk=>P.A (T.B k)
structure Q7(P:Pb)(T:Tb):Prop where
 bn:∀k,k<P.m->T.B k<P.n
 inj:∀k l,k<P.m->l<P.m->T.B k=T.B l->k=l
 sg:∃s:Int,(s=1\/s = -1)/\s*T.size=det P.m (T.M P)/\∀r,r<P.m->∀x,s*dot P.m (T.inv r) x=det P.m (F7 (T.M P) r x)
 pos:0<T.size
 span:∀p q,p<P.m->q<P.m->sm P.m (λk=>T.inv k q*P.A (T.B k) p)=if p=q then T.size else 0
 pr:∀t q,q<P.m->T.pr t q=sm P.m λk=>P.c t (T.B k)*T.inv k q
def VD(h:s=1\/s = -1):s*s=1:=by rcases h with h|h<;>rw[h]<;>rfl
section
variable{P:Pb}{T:Tb}
def Q7.left(L:Q7 P T)(b:n<P.m)(g:j<P.m):dot P.m (T.inv n) (P.A (T.B j))=if n=j then T.size else 0:=by
 obtain⟨s,d,e,f⟩:=L.sg;have a:s*dot P.m (T.inv n) (P.A (T.B j))=s*(if n=j then T.size else 0):=by
  rw[(f n b (P.A (T.B j)))];by_cases c:n=j;subst c;rw[f9 rfl,e];exact B9 _ (nq (T.M P) n)
  . rw[f6 c,R9];exact rP b g c λp _=>by
     rw[bG,aw _ _ _ (λz=>c z.symm)];rfl
 have:s*(s*dot P.m (T.inv n) (P.A (T.B j)))=s*(s*(if n=j then T.size else 0)):=by rw[a]
 rw[<-O8,<-O8,VD d,cU,cU]at this;exact this
theorem Q7.by(L:Q7 P T)(x:Nat->Int)(a:n<P.m):(sm P.m λk=>dot P.m (T.inv k) x*P.A (T.B k) n)=T.size*x n:=by
 have:(sm P.m λk=>dot P.m (T.inv k) x*P.A (T.B k) n)=sm P.m λk=>sm P.m λq=>x q*(T.inv k q*P.A (T.B k) n):=A0 λk _=>by delta dot;rw[<-GQ];exact A0 λq _=>by rw[J5 (T.inv k q),O8]
 rw[this,pV];have:(sm P.m λq=>sm P.m λk=>x q*(T.inv k q*P.A (T.B k) n))=sm P.m λq=>x q*(if n=q then T.size else 0):=A0 λq hq=>by rw[J6,L.span n q a hq]
 rw[this,V7 a λi _ b=>by rw[f6 (λz=>b z.symm),R9],f9 rfl,J5]
def Q7.ratio(L:Q7 P T)(u:s=1\/s = -1)(g:∀n,n<P.m->∀x,s*dot P.m (T.inv n) x=det P.m (F7 (T.M P) n x))(c:n<P.m)(f:j<P.m)(b:n≠j)(a x:Nat->Int):
  T.size*(s*det P.m (F7 (F7 (T.M P) j a) n x))=dot P.m (T.inv j) a*dot P.m (T.inv n) x-dot P.m (T.inv n) a*dot P.m (T.inv j) x:=by
 have:T.size*det P.m (F7 (F7 (T.M P) j a) n x)=det P.m (F7 (F7 (T.M P) j a) n λp=>sm P.m λk=>dot P.m (T.inv k) x*P.A (T.B k) p):=by
  have:=vx (F7 (T.M P) j a) T.size 0 x (λ_=>0) c;simp only[qF,cz]at this;rw[<-this];exact Kv λp l=>(L.by x l).symm
 have:=Ia (F7 (T.M P) j a) c (λk=>dot P.m (T.inv k) x) (λk=>P.A (T.B k)) P.m
 have t:(sm P.m λk=>dot P.m (T.inv k) x*det P.m (F7 (F7 (T.M P) j a) n (P.A (T.B k))))=sm P.m λk=>(if k=n then dot P.m (T.inv n) x*(s*dot P.m (T.inv j) a)else 0)+(if k=j then dot P.m (T.inv j) x*(-(s*dot P.m (T.inv n) a))else 0):=A0 λk o=>by
  by_cases d:k=n
  . subst d;rw[f9 rfl,f6 b,qF,g j f a]
    congr 1
    rw[hJ _ _ _ b.symm];exact B9 (λz=>det P.m (F7 z j a)) (nq (T.M P) k)
  . by_cases e:k=j
    . subst e;rw[f6 d,f9 rfl,Y1,g n c a]
      congr 1
      rw[Te f c (λz=>b z.symm) (T.M P) a (P.A (T.B k))]
      congr 1
      exact B9 (λz=>det P.m (F7 z n a)) (nq (T.M P) k)
    rw[f6 d,f6 e];rw[rP o c d λp _=>by rw[aw _ _ _ d,aw _ _ _ e,bG];rfl];simp
 have r:(sm P.m λk=>if k=n then dot P.m (T.inv n) x*(s*dot P.m (T.inv j) a)else 0)=dot P.m (T.inv n) x*(s*dot P.m (T.inv j) a):=by rw[V7 c (λi _ h=>by rw[f6 h]),f9 rfl]
 have q:(sm P.m λk=>if k=j then dot P.m (T.inv j) x*(-(s*dot P.m (T.inv n) a))else 0)=dot P.m (T.inv j) x*(-(s*dot P.m (T.inv n) a)):=by rw[V7 f (λi _ h=>by rw[f6 h]),f9 rfl]
 rw[iV,r,q]at t;grind
def Tb.v8(P:Pb)(T:Tb)(a r:Nat):Int:=dot P.m (T.inv r) (P.A a)
def Tb.rest(P:Pb)(T:Tb)(t a:Nat):Int:=P.c t a*T.size-dot P.m (T.pr t) (P.A a)
structure Ea(P:Pb)(T:Tb)(a l:Nat)(g:Int)(T':Tb):Prop where
 b:∀k,k<P.m->T'.B k=if k=l then a else T.B k
 size:T'.size=g*T.v8 P a l
 il:∀q,q<P.m->T'.inv l q=g*T.inv l q
 ir:∀r q,r<P.m->q<P.m->r≠l->T.size*T'.inv r q=T.inv r q*(g*T.v8 P a l)-g*T.v8 P a r*T.inv l q
 pr:∀t q,q<P.m->T.size*T'.pr t q=T.pr t q*(g*T.v8 P a l)+g*T.rest P t a*T.inv l q
def Q7.exact(L:Q7 P T){l:Nat}(c:l<P.m)(g:Int):∀r q,r<P.m->q<P.m->r≠l->∃z,T.size*z=T.inv r q*(g*T.v8 P n l)-g*T.v8 P n r*T.inv l q:=λr q d hq b=>by obtain⟨s,h,i,f⟩:=L.sg;have e:=L.ratio h f d c b (P.A n) (unit q);rw[rN _ hq,rN _ hq]at e;refine⟨g*(s*det P.m (F7 (F7 (T.M P) l (P.A n)) r (unit q))),?_⟩;delta Tb.v8;grind
def ve(f:Nat->Int)(h:n<m)(g:Nat->Int):(sm m λk=>if k=n then g k else f k)=g n+(sm m f-f n):=by
 rw[xn _ h,f9 rfl,xn f h];have:(sm m λi=>if i=n then 0 else if i=n then g i else f i)=sm m λi=>if i=n then 0 else f i:=A0 λi _=>by simp_all
 lia
def xB(L:Q7 P T)(t:Nat)(x:Nat->Int):dot P.m (T.pr t) x=sm P.m λk=>P.c t (T.B k)*dot P.m (T.inv k) x:=by
 delta dot;have:(sm P.m λr=>T.pr t r*x r)=sm P.m λr=>sm P.m λk=>P.c t (T.B k)*(T.inv k r*x r):=A0 λr a=>by rw[L.pr t r a,<-GQ];exact A0 λk _=>by rw[O8]
 rw[this,pV];exact A0 λk _=>J6 _ _ _
def DC(L:Q7 P T)(d:j<P.m)(b:Nat->Nat->Int)(il:∀m,m<P.m->b j m=p*T.inv j m)(h:∀r m,r<P.m->m<P.m->r≠j->T.size*b r m=T.inv r m*(p*T.v8 P n j)-p*T.v8 P n r*T.inv j m)(t:Nat)(hq:m<P.m):
  T.size*(sm P.m λk=>P.c t (if k=j then n else T.B k)*b k m)=T.pr t m*(p*T.v8 P n j)+p*T.rest P t n*T.inv j m:=by
 have e:(T.size*sm P.m λk=>P.c t (if k=j then n else T.B k)*b k m)=sm P.m λk=>if k=j then T.size*(P.c t n*(p*T.inv j m))else(p*T.v8 P n j)*(P.c t (T.B k)*T.inv k m)-(p*T.inv j m)*(P.c t (T.B k)*T.v8 P n k):=by
  rw[<-J6];refine A0 λk f=>?_;by_cases c:k=j;subst c;rw[f9 rfl,f9 rfl,il m hq];rw[f6 c,f6 c];grind
 rw[e,ve _ d,iU,J6,J6,<-L.pr t m hq];have:(sm P.m λk=>P.c t (T.B k)*T.v8 P n k)=dot P.m (T.pr t) (P.A n):=(xB L t (P.A n)).symm;delta Tb.rest;grind
def Q7.a0T(L:Q7 P T)(c:j<P.m)(g:Int)(t:Nat)(hq:m<P.m):∃z,T.size*z=T.pr t m*(g*T.v8 P n j)+g*T.rest P t n*T.inv j m:=by
 have:∃b:Nat->Nat->Int,(∀m,m<P.m->b j m=g*T.inv j m)/\∀r m,r<P.m->m<P.m->r≠j->T.size*b r m=T.inv r m*(g*T.v8 P n j)-g*T.v8 P n r*T.inv j m:=by
  refine⟨λr m=>if r=j then g*T.inv j m else(T.inv r m*(g*T.v8 P n j)-g*T.v8 P n r*T.inv j m)/T.size,λm _=>by simp,λr m e hq h=>?_⟩;simp only[f6 h];obtain⟨z,f⟩:=L.exact c g r m e hq h;rw[<-f,jr _ (by have:=L.pos;exact K8)]
 obtain⟨b,i,d⟩:=this;exact⟨_,DC L c b i d t hq⟩
def fN(h:0<p)(e:p*x=p*s):x=s:=zu K8 e
def Q7.turn(L:Q7 P T)(N:n<P.n)(F:∀k,k<P.m->T.B k≠n)(u:j<P.m)(v:p=1\/p = -1)(G:0<p*T.v8 P n j)(Uff:Ea P T n j p b):Q7 P b:=by
 obtain⟨s,a,Q,C⟩:=L.sg;have H:∀r x,det P.m (F7 (b.M P) r x)=det P.m (F7 (F7 (T.M P) j (P.A n)) r x):=λr x=>Y4 λc l z _=>by
  delta F7 Tb.M;by_cases i:c=r;rw[f9 i,f9 i];rw[f6 i,f6 i,Uff.b c z];by_cases f:c=j;rw[f9 f,f9 f];rw[f6 f,f6 f]
 have O:det P.m (b.M P)=det P.m (F7 (T.M P) j (P.A n)):=Y4 λc l z _=>by
  delta F7 Tb.M;rw[Uff.b c z];by_cases f:c=j;rw[f9 f,f9 f];rw[f6 f,f6 f]
 have y:=L.pos;refine⟨λk d=>?_,λk D d h e=>?_,⟨s*p,?_,?_,λr w x=>?_⟩,by rw[Uff.size];exact G,λl q o hq=>?_,λt q hq=>?_⟩;rw[Uff.b k d];split;exact N;exact L.bn k d;rw[Uff.b k d,Uff.b D h]at e;split at e;rename_i i;split at e;rename_i f;rw[i,f];exact absurd e.symm (F D h);split at e;exact absurd e (F k d);exact L.inj k D d h e
 . rcases a with a|a<;>rcases v with v|v<;>rw[a,v]<;>simp
 rw[Uff.size,O,<-C j u (P.A n)];delta Tb.v8;grind
 . rw[H];by_cases c:r=j
   . subst c;rw[Ku,<-C r w x];have:dot P.m (b.inv r) x=p*dot P.m (T.inv r) x:=by rw[<-HY];exact lD (λq hq=>Uff.il q hq) λ_ _=>rfl
     grind
   . have:=L.ratio a C w u c (P.A n) x;refine fN y ?_;have K:T.size*dot P.m (b.inv r) x=dot P.m (T.inv r) x*(p*T.v8 P n j)-p*T.v8 P n r*dot P.m (T.inv j) x:=by
      rw[<-HY];have:dot P.m (λq=>T.size*b.inv r q) x=sm P.m λq=>(p*T.v8 P n j)*(T.inv r q*x q)-(p*T.v8 P n r)*(T.inv j q*x q):=A0 λq hq=>by simp only;rw[Uff.ir r q w hq c];grind
      rw[this,iU,J6,J6];delta dot;rw[J5 (p*T.v8 P n j)]
     have E:T.size*(s*p*dot P.m (b.inv r) x)=s*p*(T.size*dot P.m (b.inv r) x):=by grind
     rw[E,K];delta Tb.v8;grind
 . refine fN y ?_;have I:(T.size*sm P.m λk=>b.inv k q*P.A (b.B k) l)=sm P.m λk=>if k=j then T.size*(p*T.inv j q*P.A n l)else(p*T.v8 P n j)*(T.inv k q*P.A (T.B k) l)-(p*T.inv j q)*(T.v8 P n k*P.A (T.B k) l):=by
    rw[<-J6];refine A0 λk d=>?_;rw[Uff.b k d];by_cases c:k=j;subst c;rw[f9 rfl,f9 rfl,Uff.il q hq];rw[f6 c,f6 c];have:=Uff.ir k q d hq c;grind
   have E:(sm P.m λk=>T.v8 P n k*P.A (T.B k) l)=T.size*P.A n l:=(L.by (P.A n) o)
   rw[I,ve _ u,iU,J6,J6,E,L.span l q o hq,Uff.size];split<;>grind
 . refine fN y ?_;rw[Uff.pr t q hq,<-DC L u b.inv Uff.il Uff.ir t hq]
   congr 1
   exact A0 λk d=>by rw[Uff.b k d]
end
def uv(P:Pb)(j:Nat):Int:=(P.u j).getD 0
def Tb.am(P:Pb)(T:Tb)(k:Nat):Int:=dot P.m (T.inv k) T.rt
def fsum(P:Pb)(T:Tb)(f:Nat->Int):Int:=sm P.n λj=>if T.full j=Uf then uv P j*f j else 0
def Tb.sg(T:Tb)(a:Nat):Int:=if T.full a=Uf then -1 else 1
def rz(T:Tb)(a:Nat):(T.full a=Uf/\T.sg a = -1)\/(T.full a=U'/\T.sg a=1):=by delta Tb.sg;simp
structure Ok(P:Pb)(T:Tb):Prop where
 G6:Q7 P T
 rt:∀p,p<P.m->T.rt p=P.b p-fsum P T λj=>P.A j p
 fu:∀j,j<P.n->T.full j=Uf->P.u j≠J/\∀k,k<P.m->T.B k≠j
 lo:∀k,k<P.m->0<=T.am P k
 hi:∀k v,k<P.m->P.u (T.B k)=U v->T.am P k<=v*T.size
def pw{T':Tb}(T:n<c.n)(h:∀j,j<c.n->T'.full j=if j=n then !b.full n else b.full j)(f:Nat->Int):fsum c T' f=fsum c b f+b.sg n*(uv c n*f n):=by
 delta fsum;rw[xn _ T,xn (λj=>if b.full j=Uf then uv c j*f j else 0) T,h n T,f9 rfl]
 have:(sm c.n λi=>if i=n then 0 else if T'.full i=Uf then uv c i*f i else 0)=sm c.n λi=>if i=n then 0 else if b.full i=Uf then uv c i*f i else 0:=A0 λi g=>by
  by_cases P:i=n;rw[f9 P,f9 P];rw[f6 P,f6 P,h i g,f6 P]
 rcases rz b n with ⟨d,e⟩|⟨d,e⟩<;>rw[d,e]<;>simp<;>lia
def pq{T:Tb}(h:∀j,j<c.n->b.full j=T.full j)(f:Nat->Int):fsum c b f=fsum c T f:=A0 λj a=>by rw[h j a]
section
variable{P:Pb}{T T':Tb}
def Q7.IF(L:Q7 P T)(a:n<P.m)(t:Nat):T.rest P t (T.B n)=0:=by
 delta Tb.rest;rw[xB L,V7 a λi b h=>by rw[L.left b a,f6 h,R9],L.left a a,f9 rfl];simp[*]
def Q7.K4(L:Q7 P T){y:Nat->Int}(h:∀p,p<P.m->s*T.rt p=sm P.m λn=>y n*P.A (T.B n) p)(a:n<P.m):s*T.am P n=T.size*y n:=by
 delta Tb.am;rw[<-wU];have e:dot P.m (T.inv n) (λr=>s*T.rt r)=dot P.m (T.inv n) λr=>sm P.m λi=>y i*P.A (T.B i) r:=lD (λ_ _=>rfl) λr c=>h r c;rw[e,An,V7 a λi b h=>by rw[L.left a b,f6 (λz=>h z.symm),R9],L.left a a,f9 rfl,J5]
def Q7.Qy(L:Q7 P T)(a:n<P.m):(sm P.m λk=>T.am P k*P.A (T.B k) n)=T.size*T.rt n:=L.by T.rt a
structure uc(P:Pb)(T:Tb)(a:Nat)(top bot:Int):Prop where
 nn:0<=top
 pb:0<bot
 own:∀v,P.u a=U v->top<=v*bot
 dn:∀k,k<P.m->0<T.sg a*T.v8 P a k->top*(T.sg a*T.v8 P a k)<=T.am P k*bot
 up:∀k v,k<P.m->T.sg a*T.v8 P a k<0->P.u (T.B k)=U v->top*(-(T.sg a*T.v8 P a k))<=(v*T.size-T.am P k)*bot
structure Kj(P:Pb)(T:Tb)(a:Nat)(T':Tb):Prop where
 b:∀k,k<P.m->T'.B k=T.B k
 size:T'.size=T.size
 inv:∀k q,k<P.m->q<P.m->T'.inv k q=T.inv k q
 pr:∀t q,q<P.m->T'.pr t q=T.pr t q
 full:∀j,j<P.n->T'.full j=if j=a then !T.full a else T.full j
 rt:∀p,p<P.m->T'.rt p=T.rt p-T.sg a*(uv P a*P.A a p)
def Q7.same(L:Q7 P T)(d:∀k,k<P.m->T'.B k=T.B k)(hs:T'.size=T.size)(f:∀k q,k<P.m->q<P.m->T'.inv k q=T.inv k q)(v:∀t q,q<P.m->T'.pr t q=T.pr t q):Q7 P T':=by
 have j:∀c r,c<P.m->r<P.m->T'.M P c r=T.M P c r:=λc r g _=>by delta Tb.M;rw[d c g]
 obtain⟨s,n,o,u⟩:=L.sg;refine⟨λk a=>by rw[d k a];exact L.bn k a,λk l a i e=>L.inj k l a i (by rw[d k a,d l i]at e;exact e),⟨s,n,by rw[hs,o];exact(Y4 j).symm,λr h x=>?_⟩,by rw[hs];exact L.pos,λp q b hq=>?_,λt q hq=>?_⟩
 . rw[lD (λq hq=>f r q h hq) (λ_ _=>rfl),u r h x]
   exact Y4 λc p g b=>by
    delta F7;split;rfl;exact(j c p g b).symm
 . rw[hs,<-L.span p q b hq];exact A0 λk a=>by rw[f k q a hq,d k a]
 . rw[v t q hq,L.pr t q hq];exact A0 λk a=>by rw[f k q a hq,d k a]
def Ok.flip(K:Ok P T)(x:n<P.n)(t:∀k,k<P.m->T.B k≠n)(l:P.u n=U p)(S:uc P T n p 1)(F:Kj P T n T'):Ok P T'/\∀k,k<P.m->T'.am P k=T.am P k-T.sg n*p*T.v8 P n k:=by
 have h:uv P n=p:=by delta uv;rw[l];rfl
 have am:∀k,k<P.m->T'.am P k=T.am P k-T.sg n*p*T.v8 P n k:=λk d=>by
  delta Tb.am Tb.v8;have e:dot P.m (T'.inv k) T'.rt=dot P.m (T.inv k) λa=>T.rt a-(T.sg n*p)*P.A n a:=lD (λq hq=>F.inv k q d hq) λa f=>by rw[F.rt a f,h,O8]
  rw[e,HW,wU]
 refine⟨⟨(K.G6.same F.b F.size F.inv F.pr),λa f=>?_,λj o i=>?_,λk d=>?_,λk w d g=>?_⟩,am⟩;rw[F.rt a f,K.rt a f,pw x F.full];lia;rw[F.full j o]at i;by_cases c:j=n;subst c;exact⟨by rw[l];simp,λk d=>by rw[F.b k d];exact t k d⟩;rw[f6 c]at i;obtain⟨r,s⟩:=K.fu j o i;exact⟨r,λk d=>by rw[F.b k d];exact s k d⟩;rw[am k d];have:=K.lo k d;by_cases c:0<T.sg n*T.v8 P n k;have:=(S.dn k d) c;grind;have:=sf S.nn (Int.not_lt.1 s9);grind;rw[F.b k d]at g;rw[am k d,F.size];have:=K.hi k w d g;by_cases c:T.sg n*T.v8 P n k<0;have:=S.up k w d c g;grind;have:=fz S.nn (Int.not_lt.1 s9);grind
structure Move(P:Pb)(T:Tb)(a l:Nat)(g:Int)(tp:Bool)(T':Tb):Prop where
 tn:Ea P T a l g T'
 full:∀j,j<P.n->T'.full j=if j=a then U' else if j=T.B l then tp else T.full j
 rt:∀p,p<P.m->T'.rt p=T.rt p+(if T.full a=Uf then uv P a*P.A a p else 0)-(if tp=Uf then uv P (T.B l)*P.A (T.B l) p else 0)
structure At(P:Pb)(T:Tb)(a l:Nat)(tp:Bool)(top bot:Int):Prop where
 dn:tp=U'->top=T.am P l/\bot=T.sg a*T.v8 P a l
 up:tp=Uf->top=uv P (T.B l)*T.size-T.am P l/\bot = -(T.sg a*T.v8 P a l)/\P.u (T.B l)≠J
noncomputable def nj(P:Pb)(T:Tb)(a l:Nat)(top bot:Int)(k:Nat):Int:=if k=l then T.size*(if T.full a=Uf then uv P a*bot-top else top)else T.am P k*bot-T.sg a*T.v8 P a k*top
def KU(m:Nat)(x y:Int)(f g h:Nat->Int):(sm m λk=>(x*f k-y*g k)*h k)=x*(sm m λk=>f k*h k)-y*sm m λk=>g k*h k:=by
 rw[<-J6,<-J6,<-iU];exact A0 λk _=>by grind
def Ok.zQ(K:Ok P T)(t:Q7 P T')(b:j<P.m)(A:At P T n j Z s x)(M:Move P T n j p Z T'){k:Nat}(f:k<P.m):(x*T.size)*T'.am P k=T'.size*nj P T n j s x k:=by
 refine t.K4 (λg i=>?_) f
 have e:(sm P.m λk=>nj P T n j s x k*P.A (T'.B k) g)=sm P.m λk=>if k=j then T.size*(if T.full n=Uf then uv P n*x-s else s)*P.A n g else(x*T.am P k-(T.sg n*s)*T.v8 P n k)*P.A (T.B k) g:=A0 λk f=>by
  rw[M.tn.b k f];delta nj;by_cases c:k=j;rw[f9 c,f9 c,f9 c];rw[f6 c,f6 c,f6 c];grind
 have r:(sm P.m λk=>T.v8 P n k*P.A (T.B k) g)=T.size*P.A n g:=K.G6.by (P.A n) i
 rw[e,ve _ b,KU,K.G6.Qy i,r,M.rt g i];have l:=A.dn;have h:=A.up;rcases rz T n with ⟨o,q⟩|⟨o,q⟩<;>rw[o]<;>rw[q]at l h ⊢ <;> cases Z
 obtain⟨d,a⟩:=l rfl;simp;grind;obtain⟨d,a,_⟩:=h rfl;simp;grind;obtain⟨d,a⟩:=l rfl;simp;grind;obtain⟨d,a,_⟩:=h rfl;simp;grind
def AR(h:0<x)(e:x*p<=x*s):p<=s:=zt e h
def Ok.move(K:Ok P T){a l:Nat}{g top bot:Int}{tp:Bool}(E:a<P.n)(H:∀k,k<P.m->T.B k≠a)(i:l<P.m)(N:g=1\/g = -1)(y:0<g*T.v8 P a l)(S:uc P T a top bot)(A:At P T a l tp top bot)(M:Move P T a l g tp T'):Ok P T':=by
 have C:=K.G6.turn E H i N y M.tn;have O:=K.G6.pos;have:=C.pos;have D:=S.pb;have am:=λk d=>K.zQ C i A M (k:=k) d;have s:=H l i;have F:=K9 D O;refine⟨C,λp y=>?_,λj o f=>?_,λk d=>?_,λk w d q=>?_⟩
 . -- rights
   rw[M.rt p y,K.rt p y];have L:∃t:Tb,(∀j,j<P.n->t.full j=if j=a then U' else T.full j)/\fsum P t (λj=>P.A j p)=fsum P T (λj=>P.A j p)-(if T.full a=Uf then uv P a*P.A a p else 0):=by
    refine⟨{T with full:=λj=>if j=a then U' else T.full j},λj _=>rfl,?_⟩;cases h:T.full a;rw[pq (T:=T) λj _=>?_];simp;show(if j=a then U' else T.full j)=T.full j;split;rename_i c;rw[c,h];rfl;rw[pw E λj _=>?_];delta Tb.sg;rw[h];simp;rfl;show(if j=a then U' else T.full j)=if j=a then !T.full a else T.full j;rw[h];rfl
   obtain⟨t,x,W⟩:=L;have u:t.full (T.B l)=U':=by
    rw[x _ (K.G6.bn l i),f6 s];cases h:T.full (T.B l);rfl;exact absurd rfl ((K.fu _ (K.G6.bn l i) h).2 l i)
   have:fsum P T' (λj=>P.A j p)=fsum P t (λj=>P.A j p)+(if tp=Uf then uv P (T.B l)*P.A (T.B l) p else 0):=by
    cases tp
    . rw[pq (T:=t) λj o=>?_];simp;rw[M.full j o,x j o];by_cases c:j=a;rw[f9 c,f9 c];rw[f6 c,f6 c];split;rename_i e;rw[e];have:=u;rw[x _ (K.G6.bn l i),f6 s]at this;exact this.symm;rfl
    . rw[pw (K.G6.bn l i) λj o=>?_];delta Tb.sg;rw[u];simp;rw[M.full j o,u];by_cases c:j=a;rw[f9 c,f6 (λz=>s (by rw[<-z];exact c)),x j o,f9 c];rw[f6 c];split;rfl;rw[x j o,f6 c]
   lia
 . rw[M.full j o]at f;by_cases c:j=a;rw[f9 c]at f;exact nT f;rw[f6 c]at f;by_cases e:j=T.B l;rw[f9 e]at f;refine⟨by rw[e];exact(A.up f).2.2,λk d=>?_⟩;rw[M.tn.b k d];split;exact λz=>c z.symm;rename_i R;rw[e];exact λz=>R (K.G6.inj k l d i z);rw[f6 e]at f;obtain⟨u,I⟩:=K.fu j o f;refine⟨u,λk d=>?_⟩;rw[M.tn.b k d];split;exact λz=>c z.symm;exact I k d
 . -- from a0i on
   have Q:0<=nj P T a l top bot k:=by
    delta nj;by_cases c:k=l
    . rw[f9 c];refine fz de ?_;split
      . rename_i f;obtain⟨v,G⟩:=Option.ne_none_iff_exists'.mp (K.fu a E f).1;have:=S.own v G;have r:uv P a=v:=by delta uv;rw[G];rfl
        rw[r];simp[*]
      exact S.nn
    rw[f6 c];by_cases e:0<T.sg a*T.v8 P a k;have:=S.dn k d e;lia;have:=Po (Int.not_lt.1 s9) S.nn;have:0<=T.am P k*bot:=fz (K.lo k d) de;lia
   have:0<=T'.size*nj P T a l top bot k:=fz de Q;rw[<-(am k d)]at this;exact AR F (by rw[R9];exact this)
 . have:=am k d;have V:nj P T a l top bot k<=w*(bot*T.size):=by
    rw[M.tn.b k d]at q;delta nj;by_cases c:k=l
    . rw[f9 c]at q ⊢;have:=S.nn;have r:uv P a=w:=by delta uv;rw[q];rfl
      have:(if T.full a=Uf then uv P a*bot-top else top)<=w*bot:=by
       split;rw[r];lia;exact(S.own w q)
      have:=jt this (de:0<=T.size);lia
    rw[f6 c]at q ⊢;by_cases e:T.sg a*T.v8 P a k<0;have:=S.up k w d e q;grind;have:=fz (Int.not_lt.1 s9) S.nn;have:=mQ (K.hi k w d q) (de:0<=bot);lia
   have:T'.size*nj P T a l top bot k<=T'.size*(w*(bot*T.size)):=jt V de;refine AR F ?_;lia
end
def Neg(w:Nat->Int):Prop:=w 0<0\/(w 0=0/\(w 1<0\/(w 1=0/\w 2<0)))
def Neg.mul(d:0<p)(h:Neg w):Neg λt=>p*w t:=by
 have m:∀x:Int,x<0->p*x<0:=λx c=>Int.mul_neg_of_pos_of_neg d c
 rcases h with h|⟨a,h|⟨b,h⟩⟩
 exact .inl (m _ h);exact .inr ⟨by simp[a],.inl (m _ h)⟩;exact .inr ⟨by simp[a],.inr ⟨by simp[b],m _ h⟩⟩
def Neg.congr{v:Nat->Int}(e:∀t,t<3->w t=v t)(h:Neg w):Neg v:=by unfold Neg at *;rw[e 0 f5,e 1 f5,e 2 f5]at h;exact h
def Neg.qe(d:0<p)(h:Neg λt=>p*w t):Neg w:=by
 have m:∀x:Int,p*x<0->x<0:=λx a=>Int.lt_of_not_ge λz=>by
  have:=fz de z;lia
 have z:∀x:Int,p*x=0->x=0:=λx a=>(Int.mul_eq_zero.mp a).resolve_left K8
 rcases h with h|⟨b,h|⟨c,h⟩⟩
 exact .inl (m _ h);exact .inr ⟨z _ b,.inl (m _ h)⟩;exact .inr ⟨z _ b,.inr ⟨z _ c,m _ h⟩⟩
def Neg.add{v:Nat->Int}(h:Neg w)(k:Neg v\/∀t,t<3->v t=0):Neg λt=>w t+v t:=by
 unfold Neg at *;rcases k with k|k
 lia;have:=k 0 f5;have:=k 1 f5;have:=k 2 f5;simp[*]
def iC(h:∀t,t<3->w t=0):¬Neg w:=by delta Neg;simp[*]
def Mn(h:¬Neg w)(k:¬Neg f):¬Neg λt=>w t+f t:=by
 unfold Neg at *
 lia
def CG(a:0<=p)(h:¬Neg w):¬Neg λt=>p*w t:=by
 rcases Ff a with a|a
 exact λz=>h (z.qe a);refine iC λt _=>?_;rw[<-a,cz]
def xI(a:0<=p)(h:Neg w):¬Neg λt=>-(p*w t):=by
 rcases Ff a with a|a
 . have:=h.mul a;unfold Neg at *
   lia
 refine iC λt _=>?_;rw[<-a,cz];rfl
theorem UG{f:Nat->Nat->Int}:∀m,(∀r,r<m->¬Neg (f r))->¬Neg λt=>sm m λr=>f r t
 | 0,_=>iC λt _=>rfl
 |m+1,h=>Mn (UG m λr a=>h r eu) (h m z9)
section
variable{P:Pb}{T T':Tb}
noncomputable def Tb.obj(P:Pb)(T:Tb)(t:Nat):Int:=T.size*fsum P T (P.c t)+sm P.m λk=>T.am P k*P.c t (T.B k)
def oY(L:Q7 P T)(a t:Nat):(sm P.m λk=>T.v8 P a k*P.c t (T.B k))=P.c t a*T.size-T.rest P t a:=by
 have:(sm P.m λk=>T.v8 P a k*P.c t (T.B k))=dot P.m (T.pr t) (P.A a):=by rw[xB L];exact A0 λk _=>J5 _ _
 delta Tb.rest;lia
def Ok.SO(K:Ok P T)(h:n<P.n)(g:P.u n=U p)(F:Kj P T n T')(am:∀k,k<P.m->T'.am P k=T.am P k-T.sg n*p*T.v8 P n k)(t:Nat):T'.obj P t=T.obj P t+p*(T.sg n*T.rest P t n):=by
 have d:uv P n=p:=by delta uv;rw[g];rfl
 have e:(sm P.m λk=>T'.am P k*P.c t (T'.B k))=(sm P.m λk=>T.am P k*P.c t (T.B k))-(T.sg n*p)*sm P.m λk=>T.v8 P n k*P.c t (T.B k):=by
  rw[<-J6,<-iU];refine A0 λk f=>?_;rw[am k f,F.b k f];grind
 delta Tb.obj;rw[e,F.size,pw h F.full,d,oY K.G6];grind
def MW(K:Ok P T)(r:n<P.n)(t:∀k,k<P.m->T.B k≠n)(l:j<P.m)(M:Move P T n j p Z T')(f:Nat->Int):fsum P T' f=fsum P T f-(if T.full n=Uf then uv P n*f n else 0)+(if Z=Uf then uv P (T.B j)*f (T.B j)else 0):=by
 have b:=t j l;have d:=K.G6.bn j l;have q:T.full (T.B j)=U':=by
  cases h:T.full (T.B j);rfl;exact absurd rfl ((K.fu _ d h).2 j l)
 delta fsum;have e:(sm P.n λa=>if T'.full a=Uf then uv P a*f a else 0)=sm P.n λa=>((if T.full a=Uf then uv P a*f a else 0)+(if a=n then -(if T.full n=Uf then uv P n*f n else 0)else 0))+(if a=T.B j then(if Z=Uf then uv P (T.B j)*f (T.B j)else 0)else 0):=A0 λa v=>by
  rw[M.full a v];by_cases c:a=n;have o:a≠T.B j:=λz=>b (by rw[<-z];exact c);simp;lia;by_cases o:a=T.B j;rw[o]at *;simp[b,q];simp[c,o]
 have s:(sm P.n λa=>if a=n then -(if T.full n=Uf then uv P n*f n else 0)else 0) = -(if T.full n=Uf then uv P n*f n else 0):=by rw[V7 r (λi _ h=>by rw[f6 h]),f9 rfl]
 have u:(sm P.n λa=>if a=T.B j then(if Z=Uf then uv P (T.B j)*f (T.B j)else 0)else 0)=(if Z=Uf then uv P (T.B j)*f (T.B j)else 0):=by rw[V7 d (λi _ h=>by rw[f6 h]),f9 rfl]
 rw[e,iV,iV,s,u];rfl
def Ok.Sj(K:Ok P T)(r:n<P.n)(g:∀k,k<P.m->T.B k≠n)(h:j<P.m)(u:Q7 P T')(A:At P T n j Z s x)(M:Move P T n j p Z T')(t:Nat):(x*T.size)*T'.obj P t=T'.size*(x*T.obj P t+s*(T.sg n*T.rest P t n)):=by
 have q:((x*T.size)*sm P.m λk=>T'.am P k*P.c t (T'.B k))=T'.size*sm P.m λk=>if k=j then T.size*(if T.full n=Uf then uv P n*x-s else s)*P.c t n else(x*T.am P k-(T.sg n*s)*T.v8 P n k)*P.c t (T.B k):=by
  rw[<-J6,<-J6];refine A0 λk o=>?_;rw[<-O8,K.zQ u h A M o,M.tn.b k o];delta nj;by_cases c:k=j;rw[f9 c,f9 c,f9 c,O8];rw[f6 c,f6 c,f6 c];grind
 rw[ve _ h,KU,oY K.G6]at q;delta Tb.obj;rw[jz,q,MW K r g h M];have d:=A.dn;have f:=A.up;rcases rz T n with ⟨l,a⟩|⟨l,a⟩<;>rw[l]<;>rw[a]at d f ⊢ <;> cases Z
 obtain⟨e,i⟩:=d rfl;simp;grind;obtain⟨e,i,_⟩:=f rfl;simp;grind;obtain⟨e,i⟩:=d rfl;simp;grind;obtain⟨e,i,_⟩:=f rfl;simp;grind
def cmp(P:Pb)(T' T:Tb)(t:Nat):Int:=T'.obj P t*T.size-T.obj P t*T'.size
def tW{T2:Tb}(t:Nat):T'.size*cmp P T2 T t=T.size*cmp P T2 T' t+T2.size*cmp P T' T t:=by delta cmp;grind
def GV(L:Q7 P T)(e:Q7 P T')(d:∀n,n<P.m->T'.B n=T.B n)(b:∀p,p<P.m->T'.rt p=T.rt p)(c:n<P.m):T.size*T'.am P n=T'.size*T.am P n:=by
 refine e.K4 (λp a=>?_) c
 rw[b p a,<-L.Qy a];exact A0 λi f=>by rw[d i f]
def GS(K:Ok P T)(K':Ok P T')(b:∀j,j<P.n->T'.full j=T.full j)(a:n<P.m):T'.rt n=T.rt n:=by rw[K.rt n a,K'.rt n a,pq b]
def Qv(K:Ok P T)(K':Ok P T')(b:∀k,k<P.m->T'.B k=T.B k)(d:∀j,j<P.n->T'.full j=T.full j)(t:Nat):cmp P T' T t=0:=by
 have:(T.size*sm P.m λk=>T'.am P k*P.c t (T'.B k))=T'.size*sm P.m λk=>T.am P k*P.c t (T.B k):=by
  rw[<-J6,<-J6];refine A0 λk a=>?_;rw[<-O8,GV K.G6 K'.G6 b (λp e=>GS K K' d e) a,b k a,O8]
 delta cmp Tb.obj;rw[pq d];grind
structure Q5(P:Pb)(T:Tb)(a:Nat):Prop where
 an:a<P.n
 u0:P.u a≠U 0
 neg:Neg λt=>T.sg a*T.rest P t a
def Q5.nb(E:Q5 P T a)(L:Q7 P T):∀k,k<P.m->T.B k≠a:=λk b z=>by
 refine iC (λt _=>?_) E.neg;rw[<-z,L.IF b,R9]
inductive Step(P:Pb)(T:Tb)(a:Nat)(top:Int)(T':Tb):Prop
 |flip {v}:P.u a=U v->top=v->uc P T a v 1->Kj P T a T'->Step P T a top T'
 |move {l g tp bot}:l<P.m->(g=1\/g = -1)->0<g*T.v8 P a l->uc P T a top bot->At P T a l tp top bot->Move P T a l g tp T' ->
   (top=0->∀k,k<P.m->(0<T.sg a*T.v8 P a k/\T.am P k=0)\/(T.sg a*T.v8 P a k<0/\∃v,P.u (T.B k)=U v/\T.am P k=v*T.size)->T.B l<=T.B k)->Step P T a top T'
def Step.ok(S:Step P T a top T')(K:Ok P T)(E:Q5 P T a):Ok P T':=by
 cases S with
 |flip d g b F=>exact(K.flip E.an (E.nb K.G6) d b F).1
 |move c f e b A M _=>exact K.move E.an (E.nb K.G6) c f e b A M
theorem Step.nn(S:Step P T a top T'):0<=top:=by
 cases S with
 |flip e c b F=>rw[c];exact b.nn
 |move d g f b A M _=>exact b.nn
set_option tactic.hygienic true in
def Step.a2j(S:Step P T a top T')(K:Ok P T)(E:Q5 P T a):(0<top->Neg (cmp P T' T))/\(top=0->∀t,cmp P T' T t=0):=by
 have e:∃q:Int,(0<top->0<q)/\(top=0->q=0)/\∃d:Int,0<d/\∀t,d*cmp P T' T t=q*(T.sg a*T.rest P t a):=by
  cases S with
  |flip k m b F =>
   rename_i v;refine⟨top*T.size,λh=>K9 h K.G6.pos,λh=>by rw[h,cz],1,by decide,λt=>?_⟩;delta cmp;rw[(K.SO E.an k F (K.flip E.an (E.nb K.G6) k b F).2) t,F.size,m];grind
  | @move l g s c j r o b A M u =>
   have f:=K.move E.an (E.nb K.G6) j r o b A M;refine⟨T'.size*top,λh=>K9 f.G6.pos h,λh=>by rw[h,R9],c,b.pb,λt=>?_⟩;have:=K.Sj E.an (E.nb K.G6) j f.G6 A M t;delta cmp;grind
 obtain⟨q,p,q2,d,n,i⟩:=e;constructor;exact λh=>Neg.qe n ((E.neg.mul (p h)).congr λt _=>(i t).symm);intro h t;have:=i t;rw[q2 h,cz]at this;exact(Int.mul_eq_zero.mp this).resolve_left K8
end
def ZG:∀(N:Nat) (f:Nat->Nat),(∀i,i<=N->f i<N)->∃p q,p<q/\q<=N/\f p=f q:=by
 intro l_;induction l_ with
 |zero =>
  intro f h;exact absurd (h 0 E7) (EE _)
 |succ N ih_ =>
  intro f h;by_cases c:∃p,p<=N/\f p=f (N+1);obtain⟨p,d,b⟩:=c;exact⟨p,N+1,yZ s9,T6 _,b⟩
  . have a:=λp j z=>c ⟨p,j,z⟩
    obtain⟨p,q,d,b,e⟩:=ih_ (λi=>if f i=N then f (N+1)else f i) λi g=>by have:=h i (qX s9);have:=h (N+1) E7;have:=a i g;split<;>lia
    refine⟨p,q,d,qX s9,?_⟩;have:=a p (B6 eR s9);have:=a q b;split at e<;>split at e<;>lia
def enc(b:Nat)(f:Nat->Nat):Nat->Nat
 | 0=>0
 |k+1=>enc b f k*b+f k
def yl:∀k,(∀i,i<k->Y i<n)->enc n Y k<n ^ k:=by
 intro l_;induction l_ with
 |zero =>
  intro _;simp[enc]
 |succ k ih_ =>
  intro h;have:=h k z9;rw[enc,El];have:(enc n Y k+1)*n<=n ^ k*n:=oI _ (ih_ λi a=>h i eu);lia
def HV:∀k,(∀i,i<k->Y i<n)->(∀i,i<k->X i<n)->enc n Y k=enc n X k->∀i,i<k->Y i=X i:=by
 intro l_;induction l_ with
 |zero =>
  intro _ _ _ i a;exact kS
 |succ k ih_ =>
  intro hf hg e i a;rw[enc,enc]at e;have j:=hf k z9;have d:Y k=X k:=by have:=B9 (· % n) e;rw[Nat.add_mod,NV,qG,Nat.mod_mod,NU j,Nat.add_mod,NV,qG,Nat.mod_mod,NU (hg k z9)]at this;exact this
  by_cases c:i=k;rw[c];exact d
  . refine ih_ (λi a=>hf i eu) (λi a=>hg i eu) ?_ i (lY (oD s9) s9)
    have h:0<n:=by lia
    exact Nat.eq_of_mul_eq_mul_right h (by simp_all)
structure Chain(P:Pb) where
 T:Nat->Tb
 a:Nat->Nat
 top:Nat->Int
 cf:Nat->Bool
structure Chain.Ok{P:Pb}(C:Chain P):Prop where
 ok:∀i,Sx.Ok P (C.T i)
 en:∀i,Q5 P (C.T i) (C.a i)
 cr:∀i,C.cf i=Uf->∀j,j<C.a i->¬Q5 P (C.T i) j
 st:∀i,Step P (C.T i) (C.a i) (C.top i) (C.T (i+1))
 cn:∀i,C.cf (i+1)=Uf↔C.top i=0
def jn(P:Pb)(T:Tb)(j:Nat):Prop:=∃k,k<P.m/\T.B k=j
structure Bd(P:Pb)(T:Tb)(j:Nat)(τ:Bool):Prop where
 b:∀k,k<P.m->T.B k=j->T.am P k=if τ=Uf then uv P j*T.size else 0
 n:¬jn P T j->T.full j=τ
def good(P:Pb)(j:Nat)(τ:Bool):Prop:=uv P j≠0\/(P.u j=J/\τ=U')
section
variable{T:Tb}
def Bd.move{P:Pb}{T':Tb}{a:Nat}{l:Nat}{j:Nat}{g:Int}{bot:Int}{tp:Bool}{τ:Bool}(K:Ok P T)(K':Ok P T')(s:j<P.n)(t:a<P.n)(r:∀k,k<P.m->T.B k≠a)(o:l<P.m)(i:0<bot)(A:At P T a l tp 0 bot)(M:Move P T a l g tp T')(G:good P j τ)(B:Bd P T j τ):Bd P T' j τ:=by
 have p:=K9 i K.G6.pos;constructor
 . intro k d e;have am:=K.zQ K'.G6 o A M d;rw[M.tn.b k d]at e;unfold nj at am;by_cases c:k=l
   . rw[f9 c]at e am;subst e;have nb:¬jn P T a:=λ⟨k,d,z⟩=>r k d z
     have:=B.n nb;refine fN p ?_;cases τ<;>simp<;>grind
   . rw[f6 c]at e am;have:=B.b k d e;refine fN p ?_;cases τ<;>simp<;>grind
 . intro nb;rw[M.full j s];by_cases c:j=a;exact absurd ⟨l,o,by rw[M.tn.b l o,f9 rfl,c]⟩ nb
   . rw[f6 c];by_cases h:j=T.B l
     . rw[f9 h];have f:=B.b l o h.symm;cases tp with
       |false =>
        have e:=(A.dn rfl).1;cases τ with
        |false=>rfl
        |true =>
         rw[<-e,f9 rfl]at f;rcases G with G|G
         have:=Int.mul_eq_zero.mp f.symm;lia;cases G.2
       |true =>
        obtain⟨e,_,q⟩:=A.up rfl;cases τ with
        |true=>rfl
        |false =>
         rw[f]at e;rcases G with G|G
         rw[<-h,f6 f5,uo]at e;have:=Int.mul_eq_zero.mp e.symm;lia;rw[<-h]at q;exact absurd G.1 q
     rw[f6 h];refine B.n λ⟨k,d,e⟩=>nb ⟨k,d,?_⟩;rw[M.tn.b k d,f6 λz=>h (by rw[<-e,z]),e]
def Bd.same(K:Ok c T)(K':Ok c b)(f:j<c.n)(P:∀k,k<c.m->b.B k=T.B k)(d:∀j,j<c.n->b.full j=T.full j)(B:Bd c T j Z):Bd c b j Z:=by
 constructor
 . intro k a e;rw[P k a]at e;have g:=GV K.G6 K'.G6 P (λp h=>GS K K' d h) a
   rw[B.b k a e]at g;refine fN K.G6.pos ?_;cases Z<;>simp<;>grind
 intro nb;rw[d j f];exact B.n λ⟨k,a,e⟩=>nb ⟨k,a,by rw[P k a];exact e⟩
def Qz(L:Q7 c T)(a:Q7 c b)(s t:Nat):T.size*b.rest c t s=b.size*T.rest c t s+sm c.m λr=>-(b.v8 c s r*T.rest c t (b.B r)):=by
 have d:(sm c.m λr=>b.v8 c s r*dot c.m (T.pr t) (c.A (b.B r)))=b.size*dot c.m (T.pr t) (c.A s):=by rw[<-An,<-wU];exact lD (λ_ _=>rfl) λp e=>a.by (c.A s) e
 have P:(sm c.m λr=>-(b.v8 c s r*T.rest c t (b.B r)))=(sm c.m λr=>b.v8 c s r*dot c.m (T.pr t) (c.A (b.B r)))-T.size*sm c.m λr=>b.v8 c s r*c.c t (b.B r):=by
  rw[<-J6,<-iU];refine A0 λr _=>?_;delta Tb.rest;grind
 rw[P,d,(oY a s t)];delta Tb.rest;grind
end
structure Zero(P:Pb)(T:Tb)(a:Nat)(T':Tb)(l:Nat)(tp:Bool)(bot:Int):Prop where
 hl:l<P.m
 pb:0<bot
 at_:At P T a l tp 0 bot
 mv:∃g,Move P T a l g tp T'
 Yx:∀k,k<P.m->(0<T.sg a*T.v8 P a k/\T.am P k=0)\/(T.sg a*T.v8 P a k<0/\∃v,P.u (T.B k)=U v/\T.am P k=v*T.size)->T.B l<=T.B k
def Step.zero{T':Tb}(S:Step c b n 0 T')(E:Q5 c b n):∃l tp bot,Zero c b n T' l tp bot:=by
 cases S with
 |flip f P T F=>exact absurd rfl (by have:=E.u0;rw[f,<-P]at this;exact this)
 | @move l g tp bot d i h T A M e=>exact⟨l,tp,bot,d,T.pb,A,⟨g,M⟩,e rfl⟩
section
variable{T:Tb}
def Zero.a2s(a:Zero c T n b m Z p)(h:jn c b j)(nb:¬jn c T j):j=n:=by
 obtain⟨g,M⟩:=a.mv;obtain⟨k,d,e⟩:=h;rw[M.tn.b k d]at e;by_cases P:k=m;rw[f9 P]at e;exact e.symm;rw[f6 P]at e;exact absurd ⟨k,d,e⟩ nb
def Zero.a1b(a:Zero c T n b m Z p)(h:jn c T j)(nb:¬jn c b j):j=T.B m:=by
 obtain⟨g,M⟩:=a.mv;obtain⟨k,d,e⟩:=h;by_cases P:k=m;rw[<-P];exact e.symm;exact absurd ⟨k,d,by rw[M.tn.b k d,f6 P];exact e⟩ nb
end
def kn{Q:Nat->Prop}(a:Q n)(hs:∀i,n<=i->i<j->Q i->Q (i+1)):∀i,n<=i->i<=j->Q i:=by
 intro i d hq;induction i with
 |zero =>
  have:n=0:=by lia
  rw[<-this];exact a
 |succ i b =>
  by_cases c:n=i+1;rw[<-c];exact a;exact hs i r9 s9 (b r9 eR)
def RZ{C:Chain c}(H:C.Ok){p:Nat}(hpq:p<n)(hz:∀i,p<=i->i<n->C.top i=0)(hc:∀i,p<=i->i<n->C.cf i=Uf)(hb:∀k,k<c.m->(C.T n).B k=(C.T p).B k)(hf:∀j,j<c.n->(C.T n).full j=(C.T p).full j):False:=by
 have zs:=λi y A=>by have s:=H.st i;rw[hz i y A]at s;exact s.zero (H.en i)
 have Y:∀i,¬jn c (C.T i) (C.a i):=λi ⟨k,I,e⟩=>(H.en i).nb (H.ok i).G6 k I e;have bpq:∀j,jn c (C.T n) j↔jn c (C.T p) j:=λj=>⟨λ⟨k,I,e⟩=>⟨k,I,by rw[<-hb k I];exact e⟩,λ⟨k,I,e⟩=>⟨k,I,by rw[hb k I];exact e⟩⟩
 have fick:∀j i k,p<=i->i<=n->p<=k->k<=n->¬jn c (C.T i) j->jn c (C.T k) j->∃V,p<=V/\V<n/\C.a V=j:=λj i k F L hk1 hk2 nb bk=>by
  apply uK;intro no;have R:∀x,p<=x->x<n->¬jn c (C.T x) j->¬jn c (C.T (x+1)) j:=λx y A E h4=>by obtain⟨l,N,bot,Z⟩:=zs x y A;exact no ⟨x,y,A,(Z.a2s h4 E).symm⟩
  exact kn (λz=>(kn nb (λx y A E=>R x r9 A E) n L E7) ((bpq j).mpr z)) (λx y A E=>R x y A E) k hk1 hk2 bk
 have mx:∃i1,p<=i1/\i1<n/\∀i,p<=i->i<n->C.a i<=C.a i1:=by
  have:∀d,p+d<n->∃i1,p<=i1/\i1<=p+d/\∀i,p<=i->i<=p+d->C.a i<=C.a i1:=by
   intro d;induction d with
   |zero =>
    intro _;refine⟨p,T6 _,by simp[*],λi y A=>?_⟩
    have:i=p:=by lia
    rw[this];exact T6 _
   |succ d ih =>
    intro hd;obtain⟨i1,y,A,E⟩:=ih eR;by_cases P:C.a (p+(d+1))<=C.a i1;refine⟨i1,y,qX s9,λi K O=>?_⟩;by_cases e:i=p+(d+1);rw[e];exact P;exact E i K r9;refine⟨p+(d+1),by simp[*],T6 _,λi K O=>?_⟩;by_cases e:i=p+(d+1);rw[e];exact T6 _;have:=E i K r9;lia
  obtain⟨i1,y,A,E⟩:=this (n-1-p) O7;exact⟨i1,y,by omega,λi K O=>E i K O7⟩
 obtain⟨i1,F,S,W⟩:=mx;have lv:∃o l N bot,p<=o/\o<n/\Zero c (C.T o) (C.a o) (C.T (o+1)) l N bot/\(C.T o).B l=C.a i1:=by
  apply uK;intro no;have R:=λx y A E=>by apply uK;intro h4;obtain⟨l,N,bot,Z⟩:=zs x y A;exact no ⟨x,l,N,bot,y,A,Z,(Z.a1b E h4).symm⟩
  obtain⟨l,N,bot,Z⟩:=zs i1 F S;obtain⟨g,M⟩:=Z.mv;have b1:jn c (C.T (i1+1)) (C.a i1):=⟨l,Z.hl,by rw[M.tn.b l Z.hl,f9 rfl]⟩;exact Y i1 (kn (Q:=λx=>jn c (C.T x) (C.a i1)) ((bpq _).mp (kn (Q:=λx=>jn c (C.T x) (C.a i1)) b1 (λx y A E=>R x (Q3 (oF s9 s9)) A E) n s9 E7)) (λx y A E=>R x y A E) i1 F eR)
 obtain⟨o,l,N,bot,L,X,Z,hl⟩:=lv;have bd:∀i,p<=i->i<n->good c (C.a i) ((C.T i).full (C.a i))/\∀x,p<=x->x<=n->Bd c (C.T x) (C.a i) ((C.T i).full (C.a i)):=λi y A=>by
  have hn:=(H.en i).an;have G:good c (C.a i) ((C.T i).full (C.a i)):=by
   cases e:c.u (C.a i)with
   |none =>
    refine .inr ⟨e,?_⟩;cases f:(C.T i).full (C.a i);rfl;exact absurd e ((H.ok i).fu _ hn f).1
   |some v =>
    refine .inl λz=>(H.en i).u0 ?_;unfold uv at z;rw[e]at z;have z':v=0:=z;rw[e,z']
  have R:∀x,p<=x->x<n->Bd c (C.T x) (C.a i) ((C.T i).full (C.a i))->Bd c (C.T (x+1)) (C.a i) ((C.T i).full (C.a i)):=λx K O B=>by obtain⟨l,N,bot,Z⟩:=zs x K O;obtain⟨g,M⟩:=Z.mv;exact B.move (H.ok x) (H.ok (x+1)) hn (H.en x).an ((H.en x).nb (H.ok x).G6) Z.hl Z.pb Z.at_ M G
  have B0:Bd c (C.T i) (C.a i) ((C.T i).full (C.a i)):=⟨λk I e=>absurd ⟨k,I,e⟩ (Y i),λ_=>rfl⟩;exact⟨G,kn ((kn B0 (λx K O g3=>R x (B6 s9 s9) O g3) n eR E7).same (H.ok n) (H.ok p) hn (λk I=>(hb k I).symm) λj hj=>(hf j hj).symm) R⟩
 have K1:=H.ok i1;have K2:=H.ok o;have tb2:jn c (C.T o) (C.a i1):=⟨l,Z.hl,hl⟩;have sne:C.a o≠C.a i1:=λz=>Y o (by rw[z];exact tb2)
 have nn1:=λi K O ne h=>by have:=W i K O;exact(H.cr i1 (hc i1 F S)) (C.a i) (lY s9 s9) ⟨(H.en i).an,(H.en i).u0,h⟩
 refine absurd (((H.en o).neg.mul K1.G6.pos).congr (v:=λt=>(C.T o).size*((C.T o).sg (C.a o)*(C.T i1).rest c t (C.a o))+sm c.m λr=>-(((C.T o).sg (C.a o)*(C.T o).v8 c (C.a o) r)*(C.T i1).rest c t ((C.T o).B r))) λt _=>?_) (Mn (CG (by have:=K2.G6.pos;exact de) ?_) (UG c.m λr hr=>?_))
 . have:=(Qz K1.G6 K2.G6 (C.a o)) t;have:(sm c.m λr=>-(((C.T o).sg (C.a o)*(C.T o).v8 c (C.a o) r)*(C.T i1).rest c t ((C.T o).B r)))=(C.T o).sg (C.a o)*sm c.m λr=>-((C.T o).v8 c (C.a o) r*(C.T i1).rest c t ((C.T o).B r)):=by
    rw[<-J6];refine A0 λr _=>?_;grind
   grind
 . -- the entering one
   by_cases P:jn c (C.T i1) (C.a o)
   . obtain⟨k,I,e⟩:=P;exact iC λt _=>by rw[<-e,K1.G6.IF I,R9]
   . have f2:=((bd o L X).2 i1 F eR).n P;have:(C.T o).sg (C.a o)=(C.T i1).sg (C.a o):=by delta Tb.sg;rw[f2]
     rw[this];exact nn1 o L X sne
 . -- the chosen ones
   by_cases P:jn c (C.T i1) ((C.T o).B r)
   . obtain⟨k,I,e⟩:=P;exact iC λt _=>by rw[<-e,K1.G6.IF I,R9];rfl
   . obtain⟨V,K,O,g3⟩:=fick ((C.T o).B r) i1 o F eR L eR P ⟨r,hr,rfl⟩;obtain⟨G,B⟩:=bd V K O;rw[g3]at G B;generalize hτ:(C.T V).full ((C.T o).B r)=τ at G B;have f1:=(B i1 F eR).n P;have am:=(B o L eR).b r hr rfl;by_cases ct:(C.T o).B r=C.a i1
     . -- the greatest
       have erl:=K2.G6.inj r l hr Z.hl (by rw[ct,hl])
       subst erl;have:=Z.pb;have dn:=Z.at_.dn;have R:=Z.at_.up;have etp:τ=N:=by
        cases N with
        |false =>
         cases τ with
         |false=>rfl
         |true =>
          have:=(dn rfl).1;rw[am,f9 rfl]at this;rcases G with G|G
          have:=Int.mul_eq_zero.mp this.symm;have:=K2.G6.pos;lia;cases G.2
        |true =>
         cases τ with
         |true=>rfl
         |false =>
          obtain⟨y,_,A⟩:=R rfl;rw[am]at y;rcases G with G|G
          rw[f6 f5,uo]at y;have:=Int.mul_eq_zero.mp y.symm;have:=K2.G6.pos;lia;exact absurd G.1 A
       have sg1:(C.T i1).sg ((C.T o).B r)=if N=Uf then -1 else 1:=by delta Tb.sg;rw[f1,etp]
       have ng:Neg λt=>(C.T i1).sg ((C.T o).B r)*(C.T i1).rest c t ((C.T o).B r):=by have:=(H.en i1).neg;rw[<-ct]at this;exact this
       rw[sg1]at ng;cases N with
       |false =>
        have:=xI (p:=(C.T o).sg (C.a o)*(C.T o).v8 c (C.a o) r) r9 ng;simp at this;exact this
       |true =>
        have:=xI (p:=-((C.T o).sg (C.a o)*(C.T o).v8 c (C.a o) r)) r9 ng;refine λz=>this (z.congr λt _=>?_);grind
     . have:(C.T o).B r<C.a i1:=by
         have:=W V K O;lia
       have hn:=nn1 V K O (by rw[g3];exact ct)
       have Yx:=Z.Yx r hr;cases τ with
       |false =>
        have:(C.T i1).sg ((C.T o).B r)=1:=by delta Tb.sg;rw[f1];rfl
        have:=CG (p:=-((C.T o).sg (C.a o)*(C.T o).v8 c (C.a o) r)) r9 hn;refine λz=>this (z.congr λt _=>?_);grind
       |true =>
        have:(C.T i1).sg ((C.T o).B r) = -1:=by delta Tb.sg;rw[f1];rfl
        have:¬(C.T o).sg (C.a o)*(C.T o).v8 c (C.a o) r<0:=λz=>by
         obtain⟨v,hv⟩:=Option.ne_none_iff_exists'.mp ((K1.fu _ (K2.G6.bn r hr) f1).1);have euv:uv c ((C.T o).B r)=v:=by delta uv;rw[hv];rfl
         have:=Yx (.inr ⟨z,v,hv,by rw[am,f9 rfl,euv]⟩);lia
        have:=CG (Int.not_lt.1 s9) hn;refine λz=>this (z.congr λt _=>?_);grind
def Sa{P:Pb}{C:Chain P}(H:C.Ok):False:=by
 have y:=λi k l=>(H.ok i).G6.bn k l
 let f:=λi j=>if (C.T i).full j=Uf then 1 else 0
 have o:∀i j,j<P.n->f i j<2:=λi j _=>by dsimp only[f];split<;>simp[*]
 let b:=λi=>(enc P.n (C.T i).B P.m*2 ^ P.n+enc 2 (f i) P.n)*2+(if C.cf i=Uf then 1 else 0)
 have l:∀i,b i<(P.n ^ P.m*2 ^ P.n)*2:=λi=>by have r:=yl P.m (y i);have u:=yl P.n (o i);have:(enc P.n (C.T i).B P.m+1)*2 ^ P.n<=P.n ^ P.m*2 ^ P.n:=oI _ r;dsimp only[b];split<;>lia
 obtain⟨p,q,x,_,e⟩:=ZG _ b λi _=>l i
 dsimp only[b]at e;have s:(enc P.n (C.T p).B P.m*2 ^ P.n+enc 2 (f p) P.n)=(enc P.n (C.T q).B P.m*2 ^ P.n+enc 2 (f q) P.n)/\(C.cf p=C.cf q):=by cases hp:C.cf p<;>cases hq:C.cf q<;>rw[hp,hq]at e<;>simp only[lZ]at e<;>first|exact⟨by lia,rfl⟩|(exfalso;lia)
 obtain⟨s,Y⟩:=s;have R:0<2 ^ P.n:=Nat.two_pow_pos _;have G:enc P.n (C.T p).B P.m=enc P.n (C.T q).B P.m:=by have:=B9 (· / 2 ^ P.n) s;rw[uq,Nat.mul_add_div R,NT (yl P.n (o p)),uq,Nat.mul_add_div R,NT (yl P.n (o q))]at this;omega
 have V:enc 2 (f p) P.n=enc 2 (f q) P.n:=by rw[G]at s;simp_all
 have K:=λk l=>(HV P.m (y p) (y q) G k l).symm
 have F:∀j,j<P.n->(C.T q).full j=(C.T p).full j:=λj hj=>by have:=HV P.n (o p) (o q) V j hj;dsimp only[f]at this;cases r:(C.T p).full j<;>cases u:(C.T q).full j<;>rw[r,u]at this<;>simp at this<;>rfl
 have w:=λi=>(H.st i).a2j (H.ok i) (H.en i);have nn:=λi=>(H.st i).nn
 have le:∀d i,Neg (cmp P (C.T (i+d)) (C.T i))\/∀t,t<3->cmp P (C.T (i+d)) (C.T i) t=0:=by
  intro d;induction d with
  |zero=>intro i;exact .inr λt _=>by delta cmp;simp
  |succ d I =>
   intro i;have E:=λt=>tW (P:=P) (T:=C.T i) (T':=C.T (i+d)) (T2:=C.T (i+d+1)) t;have L:=(H.ok (i+d)).G6.pos;have S:=(H.ok (i+d+1)).G6.pos;by_cases c:0<C.top (i+d)
   . refine .inl (Neg.qe L (Neg.congr (λt _=>(E t).symm) (Neg.add (((w (i+d)).1 c).mul ((H.ok i).G6.pos)) ?_)))
     rcases I i with h|h
     exact .inl (h.mul S)
     . exact .inr λt g=>by rw[h t g,R9]
   . have z:=(w (i+d)).2 (by have:=nn (i+d);lia)
     rcases I i with h|h
     refine .inl (Neg.qe L (Neg.congr (λt _=>?_) (h.mul S)));have:=E t;rw[z t,R9,Y1]at this;exact this.symm;refine .inr λt g=>?_;have:=E t;rw[z t,h t g,R9,R9,Y1]at this;exact(Int.mul_eq_zero.mp this).resolve_left K8
 have a:∀i,p<=i->i<q->C.top i=0:=λi r u=>by
  apply uK;intro c;have X:0<C.top i:=by have:=nn i;lia
  have O:=le (i-p) p;rw[show p+(i-p)=i from by simp[*]]at O;have N:=le (q-(i+1)) (i+1);rw[show i+1+(q-(i+1))=q from Nat.add_sub_of_le s9]at N
  have Q:=(H.ok p).G6.pos;have M:=(H.ok (i+1)).G6.pos;have Z:Neg (cmp P (C.T (i+1)) (C.T p)):=by
   refine Neg.qe ((H.ok i).G6.pos) (Neg.congr (λt _=>((λt=>tW t) t).symm) (Neg.add (((w i).1 X).mul Q) ?_))
   rcases O with h|h
   exact .inl (h.mul M)
   . exact .inr λt g=>by rw[h t g,R9]
  have W:Neg (cmp P (C.T q) (C.T p)):=by
   refine Neg.qe M (Neg.congr (λt _=>?_) (Neg.add (Z.mul ((H.ok q).G6.pos)) (v:=λt=>(C.T p).size*cmp P (C.T q) (C.T (i+1)) t) ?_));rw[(λt=>tW (T':=C.T (i+1)) t) t];exact Int.add_comm _ _
   . rcases N with h|h
     exact .inl (h.mul Q)
     . exact .inr λt g=>by rw[h t g,R9]
  exact iC (λt _=>Qv (H.ok p) (H.ok q) K F t) W
 have A:C.cf q=Uf:=by
  have:=(H.cn (q-1)).mpr (a (q-1) r9 r9);rw[show q-1+1=q from by lia]at this;exact this
 have D:∀i,p<=i->i<q->C.cf i=Uf:=λi r u=>by
  by_cases c:i=p;rw[c,Y];exact A;have:=(H.cn (i-1)).mpr (a (i-1) r9 (yY s9));rw[show i-1+1=i from by lia]at this;exact this
 exact RZ H x a D K F
end Sx
namespace Law
open PySem L2
section
abbrev u7:=q9 0
abbrev w9:=q9 1
abbrev D6:=q9 2
abbrev H9:=q9 3
abbrev R5:=q9 4
abbrev X2:=q9 5
abbrev aF:=q9 6
abbrev ix:=q9 7
abbrev oX:=q9 8
abbrev AD:=q9 9
abbrev G4:=fC (.int 0)
abbrev A7:=fC (.int 1)
abbrev V8:=fC (.int 2)
abbrev ke:=fC (.int 3)
abbrev qf:=fC (.int 4)
abbrev CD:=fC (.int 5)
abbrev CC:=fC (.int 6)
abbrev pO:=fC (.int 13)
abbrev bW:=fC .none
abbrev C3(a:DV):=f7 a u3
abbrev y4(a b:DV):=f7 a (f7 b u3)
abbrev M7(a b c:DV):=f7 a (f7 b (f7 c u3))
abbrev qy(a b c d:DV):=f7 a (f7 b (f7 c (f7 d u3)))
abbrev qx(a b c d e:DV):=f7 a (f7 b (f7 c (f7 d (f7 e u3))))
abbrev ar6(a b c d e f:DV):=f7 a (f7 b (f7 c (f7 d (f7 e (f7 f u3)))))
abbrev t4:=t6 D5
abbrev B1:=t6 N4
abbrev M4:p9:=(.tuple [(.int 0),(.int 1)])
abbrev fS:p9:=(.tuple [(.int 0),(.int 1),(.int 2)])
abbrev H0:p9:=(.tuple [(.int 0),(.int 1)])
abbrev nZ:p9:=(.tuple [(.tuple [(.int 0),(.int 1)]),(.tuple [(.int 0),(.int 1)]),(.tuple [(.int 0),(.int 1)])])
abbrev DT:p9:=(.tuple [(.tuple [(.int 1),(.int 1)]),(.tuple [(.int 0),(.int 1)]),(.tuple [(.int 0),(.int 1)])])
abbrev wY:p9:=(.tuple [(.tuple [(.int 0),(.int 1)]),(.tuple [(.int 1),(.int 1)]),(.tuple [(.int 0),(.int 1)])])
abbrev bB:p9:=(.tuple [(.int 0),(.int 1)])
def cG:DB:=A8 (t6 gx w9 G4)
def cH:DO:=t7 (u6 2 (t6 fc u7 w9)) (t7 (u6 0 w9) (u6 1 D6))
def O9:FV:=J3 2 3 (t7 (jh (xK 1) cG cH) (X4 0))
def V2:FV:=J3 2 3 (t7 (P5 (A8 (t6 U4 w9 G4)) tS K0) (t7 (u6 2 (q5 O9 (y4 (q5 og (C3 u7)) (q5 og (C3 w9))))) (t7 (P5 (A8 (t6 sD w9 G4)) (u6 2 (gk bX D6)) K0) (D4 (x9 (y4 (t6 ak u7 D6) (t6 ak w9 D6)))))))
noncomputable def cC:FV:=J3 2 5 (t7 (u6 2 (q5 O9 (y4 (t4 u7 A7) (t4 w9 A7)))) (t7 (u6 3 (t6 A9 (B1 (t4 u7 G4) (t6 ak (t4 w9 A7) D6)) (B1 (t4 w9 G4) (t6 ak (t4 u7 A7) D6)))) (t7 (u6 4 (q5 O9 (y4 (q5 og (C3 H9)) D6))) (D4 (x9 (y4 (t6 ak H9 R5) (B1 (t6 ak (t4 u7 A7) D6) (t6 ak (t4 w9 A7) R5))))))))
def Q8:FV:=J3 2 2 (D4 (q5 cC (y4 u7 (x9 (y4 (gk bX (t4 w9 G4)) (t4 w9 A7))))))
def J7:FV:=J3 2 5 (t7 (u6 2 (q5 O9 (y4 (q5 og (C3 (t4 u7 G4))) (t4 w9 A7)))) (t7 (u6 3 (q5 O9 (y4 (q5 og (C3 (t4 w9 G4))) (t4 u7 A7)))) (t7 (u6 4 (B1 (t6 ak (t4 u7 G4) D6) (t6 ak (t4 w9 G4) H9))) (D4 (x9 (y4 R5 (B1 (t6 ak (t4 u7 A7) H9) (t6 ak (t4 w9 A7) D6))))))))
def uO:FV:=J3 2 2 (t7 (P5 (A8 (t6 U4 (t4 w9 G4) G4)) tS K0) (D4 (q5 J7 (y4 u7 (q5 V2 (y4 (t4 w9 A7) (t4 w9 G4)))))))
def iN:FV:=J3 2 2 (D4 (t6 sD (B1 (t4 u7 G4) (t4 w9 A7)) (B1 (t4 w9 G4) (t4 u7 A7))))
def Z6:DO:=u6 1 (B1 (t4 (q5 V2 (y4 w9 D6)) G4) D6)
def N1:FV:=J3 1 3 (t7 (u6 1 A7) (t7 (G7 (J9 u7) (K5 2) Z6) (X4 1)))
def iM:FV:=J3 2 2 (D4 (B1 (t4 u7 G4) (t6 ak w9 (t4 u7 A7))))
def oP:DV:=t4 (t4 u7 D6) A7
def jP:FV:=J3 2 2 (D4 (q5 N1 (C3 (y9 (J9 u7) A1 z0 oP))))
def Y7:DV:=x9 (y4 u7 (q5 iM (y4 (t4 w9 H9) R5)))
def Y5:DB:=A8 (t6 gx (t4 w9 H9) (fC M4))
def gU:FV:=J3 3 3 (D4 (y9 (F3 cv (C3 u7)) (O6 2) Y5 Y7))
def jO:FV:=J3 2 3 (t7 (S6 2 (t6 eS (N9 (C3 G4)) u7)) (t7 (cq 2 w9 A7) (X4 2)))
def pS:DV:=B1 u7 w9
def md:FV:=J3 2 2 (D4 (q5 sY (C3 (y9 (F3 av (y4 u7 w9)) (O6 2) z0 pS))))
def W2:DV:=B1 (t4 D6 u7) w9
def af:FV:=J3 2 2 (D4 (q5 sY (C3 (y9 (J9 w9) (O6 2) z0 W2))))
def so:DV:=t6 ak (t6 km (B1 u7 X2) (B1 R5 w9)) aF
def ie:FV:=J3 5 5 (t7 (P5 (tY (A8 (t6 U4 D6 G4)) (A8 (t6 U4 H9 R5))) (X4 0) K0) (D4 (y9 (F3 av (y4 u7 w9)) (O6 2) z0 so)))
def cP:DV:=t4 (t4 (F5 "Table" "weights" w9) D6) u7
def M0:FV:=J3 2 2 (D4 (y9 (J9 (F5 "Table" "chosen" u7)) A1 z0 cP))
def bq:DV:=iH (A8 (t6 iG u7 bW)) bW (q5 J7 (y4 u7 (x9 (y4 A7 w9))))
def bp:DV:=t4 u7 A7
def S0:DV:=t4 u7 A7
def R8:DB:=A8 (t6 fj u7 bW)
def bj:DV:=q5 iM (y4 u7 (N0 "Table" 1 "unit"))
def bh:DV:=iH (A8 (t6 iG u7 bW)) bW (q5 iM (y4 u7 (N0 "Table" 1 "unit")))
def aB:List PV->Option (PV×Ds):=qt 3 5 (t7 (u6 3 (y9 (F3 av (y4 D6 (N0 "Table" 0 "scales"))) (O6 2) z0 bq)) (t7 (u6 4 (t6 A9 (y9 (J9 w9) A1 z0 bp) (y9 (J9 H9) A1 R8 S0))) (t7 (X5 "Table" 0 "unit" jm (q5 N1 (C3 R5))) (t7 (X5 "Table" 0 "rights" hB (y9 (J9 w9) A1 z0 bj)) (X5 "Table" 0 "limits" jm (y9 (J9 H9) A1 z0 bh))))))
def W3:DV:=q5 J7 (y4 (t4 u7 R5) (x9 (y4 w9 A7)))
def dG:DV:=t4 u7 A7
def dF:DV:=q5 iM (y4 u7 X2)
def aO:DO:=t7 (u6 3 (y9 (F3 av (y4 w9 (N0 "Table" 0 "scales"))) (O6 2) z0 W3)) (t7 (u6 4 (q5 N1 (C3 (y9 (J9 H9) A1 z0 dG)))) (t7 (mM "Table" 0 "multiples" R5) (mM "Table" 0 "weights" (y9 (J9 H9) A1 z0 dF))))
def Z5:List PV->Option (PV×Ds):=qt 2 5 (t7 (X5 "Table" 0 "multiples" hB (N9 u3)) (t7 (X5 "Table" 0 "weights" hB (N9 u3)) (G7 (J9 (fC fS)) (K5 2) aO)))
def iq:DV:=q5 jP (y4 H9 u7)
def ip:DV:=q5 gU (M7 R5 u7 w9)
def ik:DV:=q5 jO (y4 (q5 E2 (C3 aF)) u7)
def ij:DV:=aa (R1 "Table" "first_prices" M0 (R6 1) (C3 u7))
def bC:List PV->Option (PV×Ds):=qt 6 6 (t7 (X5 "Table" 0 "scales" jm (y9 (F3 O4 (C3 (q5 E2 (C3 w9)))) A1 z0 iq)) (t7 (X5 "Table" 0 "columns" jm (y9 (F3 cv (C3 (N0 "Table" 0 "scales"))) (O6 2) z0 ip)) (t7 (P1 (O0 "Table" "set_weights" 0 Z5 (O5 w9 eN))) (t7 (P1 (O0 "Table" "set_limits" 0 aB (O5 H9 (O5 R5 eN)))) (t7 (X5 "Table" 0 "chosen" hB (q5 pe (C3 X2))) (t7 (X5 "Table" 0 "full" hB (t6 eS (N9 (C3 (fC (.bool U')))) (q5 E2 (C3 w9)))) (t7 (X5 "Table" 0 "size" jm A7) (t7 (X5 "Table" 0 "inverse" jm (y9 (F3 O4 (C3 (q5 E2 (C3 X2)))) A1 z0 ik)) (X5 "Table" 0 "prices" hB (y9 (J9 (fC fS)) A1 z0 ij))))))))))
def U8:FV:=J3 3 3 (D4 (t6 km (B1 (t4 (t4 (F5 "Table" "weights" u7) w9) D6) (F5 "Table" "size" u7)) (q5 af (y4 (t4 (F5 "Table" "prices" u7) w9) (t4 (F5 "Table" "columns" u7) D6)))))
def gB:DV:=q5 md (y4 u7 (F5 "Table" "rights" w9))
def U0:FV:=J3 1 1 (D4 (y9 (J9 (F5 "Table" "inverse" u7)) A1 z0 gB))
def jW:DV:=q5 af (y4 u7 (t4 (F5 "Table" "columns" w9) D6))
def Y6:FV:=J3 2 2 (D4 (y9 (J9 (F5 "Table" "inverse" u7)) A1 z0 jW))
def dJ:DO:=cu "Table" 0 "rights" H9 (t6 A9 (hZ "Table" 0 "rights" H9) (B1 D6 R5))
def P2:List PV->Option (PV×Ds):=qt 2 5 (t7 (u6 2 (iH (A8 (hZ "Table" 0 "full" w9)) (t4 (N0 "Table" 0 "limits") w9) (gk bX (t4 (N0 "Table" 0 "limits") w9)))) (t7 (cu "Table" 0 "full" w9 (Dz (hZ "Table" 0 "full" w9))) (G7 (J9 (t4 (N0 "Table" 0 "columns") w9)) (Y8 2 (C2 3 (C2 4 Y9))) dJ)))
def dI:DO:=t7 (u6 8 (B1 (gk bX R5) (aa (R1 "Table" "rest" U8 (R6 0) (y4 ix w9))))) (cu "Table" 0 "prices" ix (q5 ie (qx (hZ "Table" 0 "prices" ix) aF oX X2 (N0 "Table" 0 "size"))))
def gh:DV:=q5 ie (qx u7 oX (B1 aF w9) ix (N0 "Table" 2 "size"))
def dE:DV:=B1 X2 u7
def dD:List PV->Option (PV×Ds):=qt 4 10 (t7 (P5 (A8 (hZ "Table" 0 "full" w9)) (P1 (O0 "Table" "flip" 0 P2 (O5 w9 eN))) K0) (t7 (u6 4 (iH (A8 (t6 xV (t4 H9 D6) G4)) A7 (gk bX A7))) (t7 (u6 5 (B1 R5 (t4 H9 D6))) (t7 (u6 6 (t4 (N0 "Table" 0 "inverse") D6)) (t7 (G7 (J9 (fC fS)) (K5 7) dI) (t7 (S6 9 (y9 (F3 av (y4 (N0 "Table" 0 "inverse") H9)) (O6 2) z0 gh)) (t7 (cq 9 D6 (y9 (J9 aF) A1 z0 dE)) (t7 (ya 9 (X5 "Table" 0 "inverse" jm AD)) (t7 (X5 "Table" 0 "size" jm X2) (cu "Table" 0 "chosen" D6 w9))))))))))
def lp:DO:=t7 (u6 4 (B1 D6 (R1 "Table" "rest" U8 u7 (y4 H9 w9)))) (P5 (A8 (t6 gx R5 G4)) (D4 (iH (A8 (t6 sD R5 G4)) (x9 (y4 H9 R5)) bW)) K0)
def mh:FV:=J3 2 5 (t7 (P5 (A8 (t6 U4 (t4 (F5 "Table" "limits" u7) w9) G4)) (D4 bW) K0) (t7 (u6 2 (iH (A8 (t4 (F5 "Table" "full" u7) w9)) (gk bX A7) A7)) (t7 (G7 (J9 (fC fS)) (K5 3) lp) (D4 bW))))
def bw:DO:=t7 (u6 5 (q5 mh (y4 u7 R5))) (P5 (tY (A8 (t6 fj X2 bW)) (sH (A8 (t6 iG D6 bW)) (A8 (t6 zS X2 H9)))) (t7 (u6 2 R5) (t7 (u6 3 X2) (P5 (A8 w9) (X4 2) K0))) K0)
def ig:FV:=J3 2 6 (t7 (u6 2 bW) (t7 (u6 3 bW) (t7 (G7 (F3 O4 (C3 (q5 E2 (C3 (F5 "Table" "full" u7))))) (K5 4) bw) (X4 2))))
def mi:DO:=t7 (u6 7 (t4 (F5 "Table" "chosen" u7) X2)) (t7 (u6 8 (t4 (F5 "Table" "limits" u7) ix)) (t7 (u6 9 (B1 R5 (t4 D6 X2))) (P5 (A8 (t6 xV AD G4)) (dg 3 (x9 (qx aF AD ix X2 (fC (.bool U'))))) (P5 (tY (A8 (t6 sD AD G4)) (A8 (t6 fj oX bW))) (dg 3 (x9 (qx (t6 km (B1 oX (F5 "Table" "size" u7)) aF) (gk bX AD) ix X2 (fC (.bool Uf))))) K0))))
def iO:FV:=J3 3 10 (t7 (S6 3 (N9 u3)) (t7 (P5 (A8 (t6 fj (t4 (F5 "Table" "limits" u7) w9) bW)) (dg 3 (x9 (qx (t4 (F5 "Table" "limits" u7) w9) A7 w9 bW (fC (.bool U'))))) K0) (t7 (u6 4 (iH (A8 (t4 (F5 "Table" "full" u7) w9)) (gk bX A7) A7)) (t7 (G7 (F3 cv (C3 (R1 "Table" "amounts" U0 u7 u3))) (Y8 2 (C2 5 (C2 6 Y9))) mi) (X4 3)))))
def oM:FV:=J3 2 4 (t7 (u6 2 (B1 (t4 u7 G4) (t4 w9 A7))) (t7 (u6 3 (B1 (t4 w9 G4) (t4 u7 A7))) (D4 (Dx (t6 sD D6 H9) (nX (t6 U4 D6 H9) (t6 sD (t4 u7 V8) (t4 w9 V8)))))))
def bD:DO:=P5 (sH (A8 (t6 iG w9 bW)) (A8 (q5 oM (y4 D6 w9)))) (u6 1 D6) K0
def bQ:FV:=J3 1 3 (t7 (u6 1 bW) (t7 (G7 (J9 u7) (K5 2) bD) (X4 1)))
def me:List PV->Option (PV×Ds):=qt 4 4 (t7 (P5 (A8 (t6 iG (t4 H9 ke) bW)) (t7 (P1 (O0 "Table" "flip" 0 P2 (O5 w9 eN))) lB) K0) (t7 (P1 (O0 "Table" "turn" 0 dD (O5 w9 (O5 (t4 H9 ke) (O5 D6 eN))))) (P5 (A8 (t4 H9 qf)) (P1 (O0 "Table" "flip" 0 P2 (O5 (t4 H9 V8) eN))) K0)))
def sr:DV:=iH (A8 w9) u7 (fC M4)
def mW:DO:=cq 2 H9 (q5 V2 (y4 (B1 R5 (t4 (F5 "Table" "scales" u7) H9)) (B1 (F5 "Table" "size" u7) (F5 "Table" "unit" u7))))
def cN:FV:=J3 2 5 (t7 (S6 2 (y9 (F3 av (y4 w9 (F5 "Table" "full" u7))) (O6 2) z0 sr)) (t7 (G7 (F3 av (y4 (F5 "Table" "chosen" u7) (R1 "Table" "amounts" U0 u7 u3))) (Y8 2 (C2 3 (C2 4 Y9))) mW) (X4 2)))
def fF:DV:=q5 V2 (y4 (t4 (t4 (F5 "Table" "prices" w9) u7) D6) (B1 (F5 "Table" "size" w9) (t4 (F5 "Table" "multiples" w9) u7)))
def jQ:FV:=J3 2 3 (t7 (u6 2 (y9 (J9 (fC fS)) A1 z0 fF)) (D4 (q5 aV (C3 D6))))
def mV:DO:=cq 3 R5 (q5 V2 (y4 (B1 (gk bX X2) (t4 (F5 "Table" "scales" u7) R5)) (F5 "Table" "size" u7)))
def kL:FV:=J3 3 6 (t7 (S6 3 (t6 eS (N9 (C3 (fC M4))) (q5 E2 (C3 (F5 "Table" "full" u7))))) (t7 (cq 3 w9 (x9 (y4 (t4 (F5 "Table" "scales" u7) w9) A7))) (t7 (G7 (F3 av (y4 (F5 "Table" "chosen" u7) D6)) (Y8 2 (C2 4 (C2 5 Y9))) mV) (X4 3))))
def cF:DB:=A8 (t6 fj aF bW)
def bu:DO:=t7 (u6 7 (aa (R1 "Table" "paces" Y6 (R6 5) (C3 aF)))) (t7 (u6 8 (q5 bQ (C3 (aa (q5 iO (M7 (R6 5) aF ix)))))) (t7 (P5 (A8 (t6 iG oX bW)) (D4 (x9 (M7 (fC (.str "endless")) (aa (q5 cN (y4 (R6 5) H9))) (aa (q5 kL (M7 (R6 5) aF ix)))))) K0) (t7 (P1 (jl me (gZ 5 (O5 aF (O5 ix (O5 oX eN)))))) (u6 6 (aa (q5 ig (y4 (R6 5) (t6 U4 (t4 oX G4) G4))))))))
def sq:DV:=aa (q5 jQ (y4 (R6 6) u7))
def oN:FV:=J3 5 9 (t7 (S6 5 (rL "Table" bC (qx u7 w9 D6 H9 R5))) (t7 (u6 6 (aa (q5 ig (y4 (R6 5) (fC (.bool U')))))) (t7 (jh (Jp cF bu) cF bu) (D4 (x9 (M7 (fC (.str "best")) (aa (q5 cN (y4 (R6 5) H9))) (y9 (F3 O4 (C3 (q5 E2 (C3 w9)))) A1 z0 sq)))))))
def kM:FV:=J3 2 2 (D4 (x9 (M7 (q5 cC (y4 (t4 u7 G4) (t4 w9 G4))) (q5 cC (y4 (t4 u7 A7) (t4 w9 A7))) (q5 cC (y4 (t4 u7 V8) (t4 w9 V8))))))
def dB:FV:=J3 2 2 (D4 (x9 (M7 (q5 J7 (y4 (t4 u7 G4) w9)) (q5 J7 (y4 (t4 u7 A7) w9)) (q5 J7 (y4 (t4 u7 V8) w9)))))
def ni:FV:=J3 1 1 (D4 (x9 (M7 (x9 (y4 G4 A7)) (x9 (y4 G4 A7)) (x9 (y4 u7 A7)))))
def eJ:FV:=J3 1 1 (D4 (iH (A8 (t6 xY (t4 u7 A7) (t4 u7 G4))) (x9 (y4 A7 A7)) (x9 (y4 (gk bX A7) A7))))
def ei:FV:=J3 1 1 (D4 (q5 Q8 (y4 (fC H0) (q5 eJ (C3 u7)))))
def dC:FV:=J3 2 4 (t7 (S6 2 (N9 (y4 (x9 (qy (W4 (y4 (fC (.str "lacked")) u7)) (fC DT) (x9 (y4 (t4 w9 A7) A7)) (N9 (C3 (x9 (y4 u7 (q5 eJ (C3 w9)))))))) (x9 (qy (W4 (y4 (fC (.str "spilt")) u7)) (fC nZ) bW (N9 (C3 (x9 (y4 u7 (q5 ei (C3 w9))))))))))) (t7 (u6 3 (t4 w9 V8)) (t7 (P5 (A8 (t6 fj H9 bW)) (t7 (dg 2 (x9 (qy (W4 (y4 (fC (.str "bought")) u7)) (q5 ni (C3 (t4 H9 G4))) (x9 (y4 (t4 H9 A7) A7)) (N9 (C3 (x9 (y4 u7 (q5 eJ (C3 w9))))))))) (dg 2 (x9 (qy (W4 (y4 (fC (.str "given")) u7)) (q5 ni (C3 (gk bX (t4 H9 V8)))) (x9 (y4 (t4 H9 ke) A7)) (N9 (C3 (x9 (y4 u7 (q5 ei (C3 w9)))))))))) K0) (X4 2))))
def mH:DV:=x9 (y4 u7 (q5 Q8 (y4 (fC H0) (t4 X2 qf))))
def mG:DV:=x9 (y4 u7 (x9 (y4 A7 A7)))
def eX:FV:=J3 2 8 (t7 (u6 2 (q5 E2 (C3 (t4 u7 G4)))) (t7 (u6 3 (t4 (t4 u7 G4) w9)) (t7 (u6 4 (t4 u7 A7)) (t7 (u6 5 (y9 (F3 iX (y4 (t6 A9 D6 w9) (B1 V8 D6))) A1 z0 mH)) (t7 (u6 6 (y9 (F3 iX (y4 (t6 A9 D6 w9) (B1 V8 D6))) A1 z0 mG)) (t7 (u6 7 (iH (A8 (t6 U4 w9 (t6 km D6 A7))) (t4 R5 CC) G4)) (D4 (N9 (M7 (x9 (qy (W4 (y4 (fC (.str "filled")) w9)) (fC nZ) (x9 (y4 (t4 R5 V8) A7)) (t6 A9 (N9 (C3 (x9 (y4 w9 (q5 ei (C3 H9)))))) X2))) (x9 (qy (W4 (y4 (fC (.str "taken")) w9)) (fC nZ) (x9 (y4 (t4 R5 ke) A7)) (t6 A9 (N9 (C3 (x9 (y4 w9 (q5 J7 (y4 (q5 eJ (C3 H9)) (t4 R5 CD))))))) aF))) (x9 (qy (W4 (y4 (fC (.str "level")) w9)) (q5 ni (C3 (gk bX ix))) (x9 (y4 (t4 R5 G4) A7)) (N9 (C3 (x9 (y4 (t6 A9 D6 w9) (x9 (y4 A7 A7)))))))))))))))))
def ek:DO:=t7 (u6 6 (N9 (y4 (x9 (y4 X2 (q5 ei (C3 (t4 (t4 u7 G4) X2))))) (x9 (y4 H9 (x9 (y4 A7 A7))))))) (dg 4 (x9 (qy (W4 (M7 (fC (.str "worked")) X2 w9)) (fC nZ) (x9 (y4 (t4 D6 qf) A7)) aF)))
def gb:FV:=J3 2 7 (t7 (u6 2 (t4 (t4 u7 V8) w9)) (t7 (u6 3 (t6 A9 (B1 V8 (q5 E2 (C3 (t4 u7 G4)))) w9)) (t7 (S6 4 (N9 (C3 (x9 (qy (W4 (y4 (fC (.str "undone")) w9)) (fC wY) (x9 (y4 (t4 D6 A7) A7)) (N9 (C3 (x9 (y4 H9 (x9 (y4 A7 A7))))))))))) (t7 (G7 (F3 iX (y4 (t4 D6 V8) (t6 A9 (t4 D6 ke) A7))) (K5 5) ek) (X4 4)))))
def gj:DO:=t7 (tT 1 (q5 dC (y4 D6 H9))) (tT 1 (q5 eX (y4 u7 D6)))
def gi:DO:=tT 1 (q5 gb (y4 u7 D6))
def jT:FV:=J3 1 4 (t7 (S6 1 (N9 u3)) (t7 (G7 (F3 cv (C3 (t4 u7 G4))) (Y8 2 (C2 2 (C2 3 Y9))) gj) (t7 (G7 (F3 O4 (C3 (q5 E2 (C3 (t4 u7 V8))))) (K5 2) gi) (X4 1))))
def cO:DV:=t6 eS (N9 (C3 (fC H0))) (q5 E2 (C3 w9))
def lg:DO:=vr 2 X2 H9 aF
def kZ:DO:=G7 (J9 (t4 R5 ke)) (Y8 2 (C2 5 (C2 6 Y9))) lg
def pH:FV:=J3 2 7 (t7 (S6 2 (lC (F3 O4 (C3 w9)) A1 cO)) (t7 (G7 (F3 cv (C3 u7)) (Y8 2 (C2 3 (C2 4 Y9))) kZ) (X4 2)))
def sM:DV:=x9 (y4 (q5 og (C3 (t6 km (t4 u7 A7) (t4 u7 G4)))) A7)
def mB:DV:=x9 (y4 (t4 u7 A7) A7)
def kW:FV:=J3 1 3 (t7 (u6 1 (y9 (J9 (t4 u7 G4)) A1 z0 sM)) (t7 (u6 2 (t6 eS (N9 (C3 (x9 (y4 (t4 (t4 u7 A7) A7) A7)))) (q5 E2 (C3 (t4 u7 G4))))) (D4 (t6 A9 (t6 A9 w9 D6) (y9 (J9 (t4 u7 V8)) A1 z0 mB)))))
def jV:DV:=W4 (y4 (iH (A8 (t6 U4 (q5 eJ (C3 w9)) (x9 (y4 A7 A7)))) (fC (.str "lacked")) (fC (.str "spilt"))) u7)
def pK:DV:=W4 (y4 (fC (.str "level")) u7)
def jU:DV:=W4 (y4 (fC (.str "undone")) u7)
def eL:FV:=J3 1 3 (t7 (u6 1 (y9 (F3 cv (C3 (t4 u7 G4))) (O6 2) z0 jV)) (t7 (u6 2 (y9 (F3 O4 (C3 (q5 E2 (C3 (t4 u7 G4))))) A1 z0 pK)) (D4 (t6 A9 (t6 A9 w9 D6) (y9 (F3 O4 (C3 (q5 E2 (C3 (t4 u7 V8))))) A1 z0 jU)))))
def sj:FV:=J3 3 4 (t7 (u6 3 (q5 Q8 (y4 (q5 J7 (y4 (t4 u7 qf) w9)) D6))) (t7 (P5 (A8 (q5 iN (y4 H9 (fC H0)))) (D4 (x9 (y4 (fC H0) (q5 Q8 (y4 (fC H0) H9))))) K0) (D4 (x9 (y4 (q5 uO (y4 H9 (t4 u7 qf))) (fC H0))))))
def wa:DV:=iI D6 (W4 (M7 (fC (.str "worked")) R5 u7)) (fC H0)
def lh:DO:=t7 (u6 4 (x9 (y4 (iI w9 (W4 (y4 (fC (.str "bought")) H9)) (fC H0)) (iI w9 (W4 (y4 (fC (.str "given")) H9)) (fC H0))))) (t7 (u6 5 (q5 sj (M7 (t4 u7 A7) (jk w9 (W4 (y4 (fC (.str "filled")) H9))) (jk w9 (W4 (y4 (fC (.str "taken")) H9)))))) (t7 (u6 6 (y9 (F3 O4 (C3 (q5 E2 (C3 (t4 u7 V8))))) A1 z0 wa)) (dg 2 (t6 A9 (t6 A9 R5 X2) (x9 (y4 (jk w9 (W4 (y4 (fC (.str "lacked")) H9))) (q5 aV (C3 aF))))))))
def pI:FV:=J3 2 7 (t7 (S6 2 (N9 u3)) (t7 (G7 (F3 O4 (C3 (q5 E2 (C3 (t4 u7 G4))))) (K5 3) lh) (D4 (nV (q5 aV (C3 D6))))))
def hI:DV:=q5 dB (y4 w9 (q5 eJ (C3 u7)))
def eM:DO:=t7 (u6 5 (q5 kM (y4 X2 (q5 dB (y4 aF (x9 (y4 (gk bX A7) A7))))))) (dg 4 X2)
def kX:FV:=J3 2 7 (t7 (u6 2 (q5 E2 (C3 (t4 u7 G4)))) (t7 (u6 3 (y9 (F3 av (y4 (t4 u7 G4) w9)) (O6 2) z0 hI)) (t7 (S6 4 (N9 u3)) (t7 (u6 5 (fC nZ)) (t7 (G7 (F3 tq (C3 (eD gC w9 (P9 D6) (P9 (B1 V8 D6))))) (K5 6) eM) (t7 (rG 4 En) (D4 (nV (x9 (M7 (q5 aV (C3 H9)) (q5 aV (C3 R5)) (q5 aV (C3 (eD gC w9 (P9 (B1 V8 D6)) dS)))))))))))))
def sR:DV:=t4 u7 G4
def sQ:DV:=t4 u7 A7
def sP:DV:=t4 u7 V8
def sO:DV:=rK kz H9 (C3 u7)
def kY:FV:=J3 1 8 (t7 (u6 1 (q5 jT (C3 u7))) (t7 (u6 2 (y9 (J9 w9) A1 z0 sR)) (t7 (u6 3 (y9 (J9 w9) A1 z0 sQ)) (t7 (u6 4 (y9 (J9 w9) A1 z0 sP)) (t7 (u6 5 (q5 kW (C3 u7))) (t7 (u6 6 (y9 (J9 (q5 eL (C3 u7))) A1 z0 sO)) (t7 (u6 7 (q5 oN (qx H9 (q5 pH (y4 w9 (q5 E2 (C3 X2)))) X2 R5 aF))) (D4 (x9 (y4 (q5 pI (y4 u7 (yk (y4 D6 (t4 ix A7))))) (q5 kX (y4 u7 (t4 ix V8)))))))))))))
def oT:DO:=u6 3 (q5 cC (y4 H9 R5))
def oS:DO:=u6 3 (q5 Q8 (y4 H9 R5))
def mR:FV:=J3 3 5 (t7 (u6 3 (x9 (y4 (t6 km (t4 u7 G4) (t4 u7 A7)) A7))) (t7 (G7 (J9 (x9 (M7 (t4 w9 G4) (t4 w9 qf) (q5 J7 (y4 D6 (t4 w9 ke)))))) (K5 4) oT) (t7 (G7 (J9 (t6 A9 (x9 (y4 (t4 w9 A7) (t4 w9 V8))) (t4 w9 CD))) (K5 4) oS) (X4 3))))
def pJ:FV:=J3 3 5 (t7 (u6 3 (q5 Q8 (y4 (t4 u7 V8) (q5 J7 (y4 w9 (t4 u7 V8)))))) (t7 (u6 4 (q5 Q8 (y4 (t4 u7 ke) (q5 J7 (y4 D6 (t4 u7 ke)))))) (D4 (q5 cC (y4 H9 R5)))))
def mX:DO:=t7 (u6 5 (q5 Q8 (y4 (q5 cC (y4 X2 (q5 J7 (y4 H9 (t4 oX V8))))) (t4 oX ke)))) (dg 6 (x9 (M7 (q5 mR (M7 ix oX R5)) (q5 pJ (M7 oX H9 R5)) X2)))
def oO:FV:=J3 2 9 (t7 (u6 2 (t4 u7 A7)) (t7 (u6 3 (t4 D6 qf)) (t7 (u6 4 (t4 D6 CD)) (t7 (u6 5 (x9 (y4 (t4 D6 A7) A7))) (t7 (S6 6 (N9 u3)) (t7 (G7 (F3 av (y4 (t4 u7 G4) w9)) (Y8 2 (C2 7 (C2 8 Y9))) mX) (X4 6)))))))
def mT:FV:=J3 2 2 (t7 (P5 (A8 (t6 iG u7 bW)) (D4 (fC bB)) K0) (D4 (q5 Q8 (y4 (q5 J7 (y4 (x9 (y4 (t4 u7 G4) A7)) (t4 w9 G4))) (q5 J7 (y4 (x9 (y4 (t4 u7 V8) A7)) (t4 w9 A7)))))))
def kN:DO:=u6 2 (q5 cC (y4 D6 H9))
def jS:FV:=J3 2 4 (t7 (u6 2 (fC bB)) (t7 (G7 (J9 (t4 w9 CD)) (K5 3) kN) (D4 (x9 (M7 (t4 w9 qf) (q5 Q8 (y4 (fC bB) D6)) (q5 mT (y4 (t4 u7 V8) w9)))))))
def uU:DO:=u6 3 (t4 R5 V8)
def uR:DV:=t4 u7 A7
def uT:DO:=u6 6 (q5 kM (y4 aF (q5 jS (y4 ix oX))))
def vC:FV:=J3 2 9 (t7 (u6 2 (t4 u7 A7)) (t7 (u6 3 (x9 (y4 (t4 D6 A7) A7))) (t7 (G7 (J9 (q5 oO (y4 u7 w9))) (K5 4) uU) (t7 (u6 5 (q5 sY (C3 (y9 (J9 (t4 u7 V8)) A1 z0 uR)))) (t7 (u6 6 (x9 (M7 (fC bB) (x9 (y4 X2 A7)) (q5 Q8 (y4 (fC bB) (q5 J7 (y4 (x9 (y4 (t4 D6 CC) A7)) H9))))))) (t7 (G7 (F3 av (y4 (t4 u7 G4) w9)) (Y8 2 (C2 7 (C2 8 Y9))) uT) (X4 6)))))))
def B7:FV:=J3 3 5 (t7 (u6 3 G4) (t7 (P5 (A8 (t6 xV (q5 E2 (C3 u7)) G4)) (t7 (u6 3 (t4 u7 (t6 fc w9 (q5 E2 (C3 u7))))) (P5 (A8 (t6 U4 (t6 fc (t4 u7 G4) V8) A7)) (D4 (t6 fc (t6 fc (t6 IC (t6 ak H9 V8) (B1 (fC (.int 32)) (t6 ak w9 (q5 E2 (C3 u7))))) (fC (.int 4294967296))) D6)) K0)) K0) (t7 (u6 4 (t6 fc (t6 A9 (B1 (t6 fc H9 (fC (.int 2147483647))) (fC (.int 48271))) (B1 (B1 (t6 A9 w9 A7) (t6 A9 w9 CD)) (fC (.int 69621)))) (fC (.int 2147483629)))) (D4 (t6 fc (t6 fc (B1 R5 (t6 A9 R5 (fC (.int 40692)))) (fC (.int 2147483587))) D6)))))
def mU(S:FV):DV:=(q5 S (f7 u7 (f7 w9 u3)))
def mJ(S:FV):FV:=J3 2 2 (t7 (P5 (sH (A8 (T4 "tuple" w9)) (A8 (T4 "list" w9))) (t7 (P5 (sH (A8 (t6 gx (T4 "tuple" u7) (T4 "tuple" w9))) (A8 (t6 gx (T4 "list" u7) (T4 "list" w9)))) (D4 (fC (.bool U'))) K0) (D4 (nX (t6 U4 (q5 E2 (f7 u7 u3)) (q5 E2 (f7 w9 u3))) (q5 ua (f7 (y9 (F3 av (f7 u7 (f7 w9 u3))) (O6 2) z0 (mU S)) u3))))) K0) (t7 (P5 (sH (A8 (T4 "bool" w9)) (A8 (T4 "bool" u7))) (D4 (nX (T4 "bool" w9) (nX (T4 "bool" u7) (t6 U4 u7 w9)))) K0) (t7 (P5 (A8 (T4 "int" w9)) (D4 (nX (T4 "int" u7) (t6 U4 u7 w9))) K0) (t7 (P5 (A8 (t6 iG w9 bW)) (D4 (t6 iG u7 bW)) K0) (D4 (nX (T4 "str" u7) (t6 U4 u7 w9)))))))
def fE:FV:=mJ (mJ (mJ λ_=>J))
def fG:DB:=A8 (t6 gx w9 G4)
def fH:DO:=Dk 0 1 (y4 w9 (t6 fc u7 w9))
def jR:FV:=J3 2 2 (t7 (jh (xK 1) fG fH) (D4 (q5 og (C3 u7))))
def gg:FV:=J3 2 3 (t7 (u6 2 (q5 jR (y4 u7 w9))) (t7 (P5 (A8 (t6 sD w9 G4)) (u6 2 (gk bX D6)) K0) (D4 (x9 (y4 (t6 ak u7 D6) (t6 ak w9 D6))))))
noncomputable def iP:FV:=J3 2 3 (t7 (u6 2 (t6 A9 A7 (q5 B7 (M7 u7 w9 (fC (.int 12)))))) (D4 (q5 gg (y4 (t6 A9 A7 (q5 B7 (M7 u7 (t6 A9 w9 A7) D6))) D6))))
noncomputable def ll:DO:=t7 (u6 6 (t6 A9 (fC (.int 100)) (B1 (fC (.int 10)) X2))) (t7 (u6 7 bW) (t7 (P5 (A8 (t6 xV (q5 B7 (M7 u7 aF ke)) G4)) (t7 (u6 8 (x9 (y4 (t6 km (q5 B7 (M7 u7 (t6 A9 aF A7) (fC (.int 27)))) CC) (B1 D6 (q5 B7 (M7 u7 (t6 A9 aF V8) pO)))))) (u6 7 (t6 A9 oX (x9 (y4 (t6 km (q5 B7 (M7 u7 (t6 A9 aF ke) (fC (.int 27)))) CC) (B1 D6 (q5 B7 (M7 u7 (t6 A9 aF qf) pO)))))))) K0) (dg 4 (x9 (M7 (B1 D6 (q5 B7 (M7 u7 (t6 A9 aF CD) pO))) (B1 D6 (q5 B7 (M7 u7 (t6 A9 aF CC) pO))) ix)))))
def lj:DO:=t7 (u6 6 (t6 A9 (fC (.int 20)) (B1 (fC (.int 10)) (q9 13)))) (t7 (u6 14 (q5 B7 (M7 u7 aF H9))) (t7 (u6 15 (t6 A9 (q9 14) (q5 B7 (M7 u7 (t6 A9 aF A7) (t6 km H9 (q9 14)))))) (dg 12 (x9 (qx (t6 A9 (fC (.str "w")) (t4 (fC (.str "ab")) (q9 13))) (B1 D6 (q5 B7 (M7 u7 (t6 A9 aF V8) pO))) (q9 14) (q9 15) (B1 D6 (q5 B7 (M7 u7 (t6 A9 aF ke) (fC (.int 9))))))))))
def mf:FV:=J3 2 16 (t7 (u6 2 (t4 (N9 (ar6 A7 A7 A7 A7 A7 (fC (.int 997)))) (q5 B7 (M7 u7 G4 CC)))) (t7 (u6 3 (t6 A9 A7 (q5 B7 (M7 u7 A7 w9)))) (t7 (S6 4 (N9 u3)) (t7 (G7 (F3 O4 (C3 H9)) (K5 5) ll) (t7 (u6 9 (B1 D6 (q5 B7 (M7 u7 V8 pO)))) (t7 (u6 10 (t4 (N9 (M7 G4 AD (q5 B7 (M7 u7 ke (t6 A9 AD A7))))) (q5 B7 (M7 u7 qf ke)))) (t7 (u6 11 (x9 (qy AD (q9 10) (B1 D6 (q5 B7 (M7 u7 CD pO))) (B1 D6 (q5 B7 (M7 u7 CC pO)))))) (t7 (u6 11 (t6 A9 (q9 11) (x9 (M7 (q5 iP (y4 u7 (fC (.int 7)))) (q5 iP (y4 u7 (fC (.int 9)))) (q5 B7 (M7 u7 (fC (.int 11)) pO)))))) (t7 (S6 12 (N9 u3)) (t7 (G7 (F3 O4 (C3 (q5 B7 (M7 u7 (fC (.int 12)) ke)))) (K5 13) lj) (D4 (nV (x9 (M7 (q5 aV (C3 R5)) (q9 11) (q5 aV (C3 (q9 12)))))))))))))))))
def dQ:FV:=J3 2 2 (D4 (q5 gg (y4 (B1 (t4 u7 G4) (t4 w9 G4)) (B1 (t4 u7 A7) (t4 w9 A7)))))
def oU:DO:=t7 (P5 (A8 (t6 fj X2 bW)) (u6 5 (x9 (qy (t4 X2 G4) (B1 w9 (t4 X2 A7)) (t4 X2 V8) (B1 w9 (t4 X2 ke))))) K0) (dg 2 (x9 (M7 (B1 w9 H9) (B1 w9 R5) X2)))
def oR:DV:=B1 D6 u7
def oQ:DV:=x9 (qx (t4 u7 G4) (B1 D6 (t4 u7 A7)) (t4 u7 V8) (t4 u7 ke) (B1 D6 (t4 u7 qf)))
def gd:FV:=J3 2 8 (t7 (S6 2 (N9 u3)) (t7 (G7 (J9 (t4 u7 G4)) (Y8 3 (C2 3 (C2 4 (C2 5 Y9)))) oU) (t7 (u6 6 (t6 A9 (q5 aV (C3 (y9 (J9 (eD gC (t4 u7 A7) dS (P9 qf))) A1 z0 oR))) (eD gC (t4 u7 A7) (P9 qf) dS))) (t7 (u6 7 (y9 (J9 (t4 u7 V8)) A1 z0 oQ)) (D4 (nV (x9 (M7 (q5 aV (C3 D6)) aF (q5 aV (C3 ix))))))))))
def jY:DO:=t7 (P5 (A8 (nW sD HE aF w9 ix)) (D4 bW) K0) (dg 3 (x9 (qx R5 X2 (t6 A9 aF (q5 intD (C3 (t6 xY aF w9)))) (t6 A9 ix (q5 intD (C3 (t6 xY ix w9)))) oX)))
def ej:FV:=J3 2 9 (t7 (u6 2 (t6 A9 (t6 A9 (eD gC (t4 u7 G4) dS (P9 w9)) (x9 (C3 (x9 (M7 G4 G4 bW))))) (eD gC (t4 u7 G4) (P9 w9) dS))) (t7 (S6 3 (N9 u3)) (t7 (G7 (J9 (t4 u7 V8)) (Y8 5 (C2 4 (C2 5 (C2 6 (C2 7 (C2 8 Y9)))))) jY) (D4 (nV (x9 (M7 D6 (t4 u7 A7) (q5 aV (C3 H9)))))))))
def cE:FV:=J3 1 1 (D4 (q5 vC (y4 u7 (t4 (q5 kY (C3 u7)) G4))))
def vD:DV:=q5 dQ (y4 u7 (x9 (y4 H9 A7)))
def mS:FV:=J3 1 6 (t7 (u6 1 (q5 mf (f7 u7 (f7 (t6 A9 V8 (q5 intD (f7 (t6 U4 (q5 B7 (f7 u7 (f7 pO (f7 (fC (.int 8)) u3)))) G4) u3))) u3)))) (t7 (u6 2 (t6 A9 V8 (q5 B7 (f7 u7 (f7 (fC (.int 14)) (f7 (fC (.int 49)) u3)))))) (t7 (u6 3 (q5 cE (f7 w9 u3))) (t7 (u6 4 (q5 aV (f7 (y9 (J9 H9) A1 z0 vD) u3))) (t7 (P5 (Aq (A8 (q5 fE (f7 (q5 cE (f7 (q5 gd (f7 w9 (f7 D6 u3))) u3)) (f7 R5 u3))))) (D4 (fC (.bool U'))) K0) (t7 (u6 5 (q5 ej (f7 w9 (f7 (q5 B7 (f7 u7 (f7 (fC (.int 15)) (f7 (t6 A9 (q5 E2 (f7 (t6 D5 w9 G4) u3)) A7) u3)))) u3)))) (D4 (Dx (t6 iG X2 bW) (q5 fE (f7 (q5 cE (f7 X2 u3)) (f7 H9 u3)))))))))))
end
end Law
set_option hygiene false
local macro_rules|`(tactic|walk_at "r")=>`(tactic|simp only[Qt,La,a2b,a2c,a0M,a2e,a2d,Dk,nW,T4,a2k,Flat,XQ,Aq,a0S,Dg,PM,a2t,MM,Sy,Sd,SX,Xl,Qo,J3,A5,y8,BY,Ah,MB,dV,tN,P5,D4,X4,K0,fP,G7,jh,ya,Ai,q9,fC,t6,gk,q5,x9,N9,eD,iH,nX,Dx,Dz,nV,eB,y9,dS,P9,TF,f7,u3,A8,tY,sH,z0,F3,J9,IE,KZ,RJ,LQ,rQ,pz,K5,Y8,C2,Y9,A1,O6,L2.PV.vy,L2.PV.JS,xK,TJ,Qk,Xi,Xz,XA,nY,Se,vm,Df,TK,Sb,MC,Sq,KA,PZ,Jz,Mz,VH,Sw,Gy,Tt,KN,Nh,a3C,rG,mZ,a2z,a2y,a2x,a2w,a2v,a2u,String.reduceBEq,x5,Option.bind_none,qP,Option.map_none,C7,qJ,Y2,jD,D3,aZ,bU,bV,jq,Fd,OV,pF,Nat.reduceAdd,Nat.reduceSub,Nat.reduceEqDiff,Nat.reduceLeDiff,Nat.reduceLT,Int.reduceToNat,Int.cast_ofNat_Int,eq_self,U7,if_false,reduceIte,qW,decide_true,decide_false,lZ,Of,decide_eq_false_iff_not,Bool.not_true,Bool.not_false,not_true_eq_false,not_false_eq_true,Bool.true_or,Bool.false_or,Bool.or_true,Bool.or_false,Bool.and_true,Bool.true_and,Bool.and_false,Ez,reduceCtorEq,and_self])
set_option hygiene true
namespace Law
open PySem L2
variable{b t y x:Int}{m n:Nat}{Z:Int×Int}{f:Nat->p9}{g:Nat->Int}{Y:List Int}{d:p9}
abbrev gc(a b:Int):Int:=(C9 a b:Nat)
theorem Dj(x y:Int):C9 y (x.fmod y)=C9 x y:=by
 rw[Int.fmod_def];apply Nat.dvd_antisymm
 . apply Int.dvd_gcd
   . have d:((C9 y (x-y*x.fdiv y)):Int)∣y:=jE ..;have a:((C9 y (x-y*x.fdiv y)):Int)∣x-y*x.fdiv y:=jK ..;have b:=Int.dvd_add a (OU (c:=x.fdiv y) d)
     rwa [Int.sub_add_cancel]at b
   exact jE ..
 apply Int.dvd_gcd;exact jK ..;exact Int.dvd_sub (jE ..) (OU (jK ..))
theorem qg(x:Int)(h:y≠0):(x.fmod y).natAbs<y.natAbs:=by
 rcases Int.lt_or_gt_of_ne h with a|a
 . have e:Int.fmod x y=x % y+if 0<=y\/y∣x then 0 else y:=Int.fmod_eq_emod
   have:=Int.emod_lt x h;split at e<;>omega
 have:=oK x a;have:=qZ x a;omega
def D8(t b:Int):Int×Int:=(t.fdiv (if b<0 then -gc t b else gc t b),b.fdiv (if b<0 then -gc t b else gc t b))
structure B4(m:Nat)(q:Int×Int):Prop where
 pos:0<q.2
 low:C9 q.1 q.2=1
 bt:Bt m q.1
 bb:Bt m q.2
theorem B4.mono(h:B4 m Z)(a:m<=n):B4 n Z:=⟨h.pos,h.low,h.bt.mono a,h.bb.mono a⟩
theorem fh(d:0<b)(f:Bt m t)(a:Bt m b):B4 m (D8 t b):=by
 have g:0<C9 t b:=se t K8;have e:D8 t b=(t/gc t b,b/gc t b):=by delta D8;rw[f6 (Int.not_lt.2 de),ba _ z9,ba _ z9]
 have c:gc t b∣b:=jK ..;rw[e];refine⟨FR d z9 c,uJ g,?_,?_⟩
 . have:=f.fdiv (j:=gc t b)
   rwa [ba _ z9]at this
 . have:=a.fdiv (j:=gc t b)
   rwa [ba _ z9]at this
theorem SK{q:Int×Int}(j:B4 m Z)(hq:B4 n q)(h:Z.1*q.2-q.1*Z.2=0):Z=q:=by
 obtain⟨a,b⟩:=Z;obtain⟨c,d⟩:=q;have pb:=j.pos;have e:a*d=c*b:=by have:=h;exact Int.sub_eq_zero.1 s9
 have k:b∣d:=by
  have z:b∣a*d:=⟨c,by rw[e,J5]⟩
  have i:b.natAbs∣a.natAbs*d.natAbs:=by rw[<-cX];exact Int.natAbs_dvd_natAbs.mpr z
  have g:yG b.natAbs a.natAbs:=by rw[yX];exact j.low
  exact Int.natAbs_dvd_natAbs.mp (g.dvd_of_dvd_mul_left i)
 have k2:d∣b:=by
  have z:d∣c*b:=⟨a,by rw[<-e,J5]⟩
  have i:d.natAbs∣c.natAbs*b.natAbs:=by rw[<-cX];simp_all
  have g:yG d.natAbs c.natAbs:=by rw[yX];exact hq.low
  exact Int.natAbs_dvd_natAbs.mp (g.dvd_of_dvd_mul_left i)
 have f:b=d:=by have:=fV hq.pos k;have:=fV pb k2;exact Int.le_antisymm s9 s9
 subst f;have:=uL K8 e;rw[this]
theorem xZ(a:b≠0)(h:Bt m b):Bt m (gc t b):=h.of_le (by have:=Int.gcd_le_natAbs_right t a;simp[*])
theorem UO(a:b≠0):gc t b≠0:=by have:=se t a;simp[*]
theorem a0L(t b:Int):gc (if t<0 then -t else t) (if b<0 then -b else b)=gc t b:=by
 show((C9 _ _):Int)=(C9 t b)
 have a:∀x y:Int,C9 (if x<0 then -x else x) y=C9 x y:=λx y=>by split<;>simp
 have c:∀x y:Int,C9 x (if y<0 then -y else y)=C9 x y:=λx y=>by split<;>simp
 rw[a,c]
abbrev fr(q:Int×Int):p9:=.tuple [.int q.1,.int q.2]
def cT(p q:Int×Int):Int×Int:=D8 (p.1*q.2+q.1*p.2) (p.2*q.2)
def fe(p q:Int×Int):Int×Int:=D8 (p.1*q.2-q.1*p.2) (p.2*q.2)
def N3(p q:Int×Int):Int×Int:=D8 (p.1*q.1) (p.2*q.2)
def nr(p q:Int×Int):Bool:=decide (p.1*q.2<q.1*p.2)
theorem Yr{q:Int×Int}(a:B4 3900 Z)(hq:B4 3900 q):Z.2*q.2≠0/\0<Z.2*q.2/\Bt 8000 (Z.1*q.2+q.1*Z.2)/\Bt 8000 (Z.2*q.2)/\Bt 8000 (Z.1*q.1)/\Bt 8000 (Z.1*q.2-q.1*Z.2):=by have h:=K9 a.pos hq.pos;exact⟨K8,h,(((a.bt.mul hq.bb)).add (hq.bt.mul a.bb)).mono f5,(a.bb.mul hq.bb).mono f5,(a.bt.mul hq.bt).mono f5,(((a.bt.mul hq.bb)).sub (hq.bt.mul a.bb)).mono f5⟩
theorem Dn(a:B4 3900 Z):Bt 60000 Z.1/\Bt 60000 Z.2:=⟨a.bt.mono f5,a.bb.mono f5⟩
abbrev Q2:=Int×Int
variable{q p:Q2}
def val(q:Q2):Rat:=(q.1:Rat)/(q.2:Rat)
theorem fR(h:b≠0):(b:Rat)≠0:=by exact_mod_cast h
theorem fI(d:0<b):val (D8 t b)=(t:Rat)/(b:Rat):=by
 have e:D8 t b=(t/gc t b,b/gc t b):=by delta D8;rw[f6 (Int.not_lt.2 de),ba _ z9,ba _ z9]
 have c:t/gc t b*gc t b=t:=zl (jE ..);have a:b/gc t b*gc t b=b:=zl (jK ..);rw[e];show((t/gc t b:Int):Rat)/((b/gc t b:Int))=_;have:=fR (show gc t b≠0 by lia)
 generalize gc t b=g at *;have:((t/g:Int):Rat)*g=t:=by exact_mod_cast c
 have:((b/g:Int):Rat)*g=b:=by exact_mod_cast a
 grind
theorem PK(a:0<p.2)(hq:0<q.2):val (cT p q)=val p+val q:=by
 delta cT;rw[fI (K9 a hq)];have:=fR (show p.2≠0 by exact K8);have:=fR (show q.2≠0 by exact K8);delta val
 push_cast
 grind
theorem Ay(a:0<p.2)(hq:0<q.2):val (fe p q)=val p-val q:=by
 delta fe;rw[fI (K9 a hq)];have:=fR (show p.2≠0 by exact K8);have:=fR (show q.2≠0 by exact K8);delta val
 push_cast
 grind
theorem sV(a:0<p.2)(hq:0<q.2):val (N3 p q)=val p*val q:=by
 delta N3;rw[fI (K9 a hq)];delta val
 push_cast
 grind
theorem val_inj(a:B4 m p)(hq:B4 n q)(h:val p=val q):p=q:=by
 refine SK a hq ?_;have:=fR (show p.2≠0 by have:=a.pos;exact K8);have:=fR (show q.2≠0 by have:=hq.pos;exact K8)
 have:(p.1:Rat)/p.2=q.1/q.2:=h;have e:(p.1:Rat)*q.2-q.1*p.2=0:=by grind
 exact_mod_cast e
theorem val_one(n:Int):val (n,1)=(n:Rat):=by
 show(n:Rat)/1=n;grind
theorem tD(a:B4 m p)(hq:B4 n q):B4 (m+n+1) (cT p q):=
 fh (K9 a.pos hq.pos) ((a.bt.mul hq.bb).add ((hq.bt.mul a.bb).mono (lQ (qH _ _)))) ((a.bb.mul hq.bb).mono z9)
theorem iR(a:B4 m p)(hq:B4 n q):B4 (m+n) (N3 p q):=
 fh (K9 a.pos hq.pos) (a.bt.mul hq.bt) (a.bb.mul hq.bb)
theorem rC(h:Bt m b)(a:1<=m):B4 m (b,1):=⟨by simp,by simp,h,Bt.mono ⟨by simp⟩ a⟩
theorem FW(x y:Int)(z:Option PV):cG [iD x,iD y,z]=U (!decide (y=0)):=by rfl
theorem TR(x:Int)(z:Option PV)(h:y≠0):cH [iD x,iD y,z]=U (.next [iD y,iD (x.fmod y),iD (x.fmod y)]):=by delta cH;walk_at "r";rw[cL h];walk_at "r"
theorem lE(l:0<=x)(k:0<=y):O9 [.int x,.int y]=sd (.int (gc x y)):=by
 delta O9;walk_at "r";obtain⟨m,n,⟨a,b,f,rfl,i,g,c⟩,j⟩:=Ax (Fc:=cG) (λd=>∃a b f,d=[iD a,iD b,f]/\gc a b=gc x y/\0<=a/\0<=b) (λd=>xK 1 d-1) (by
  rintro d ⟨a,b,f,rfl,i,g,c⟩;rw[FW];by_cases h:b=0;left;simp[h]
  . right;refine⟨by simp[h],_,TR a f h,⟨b,a.fmod b,_,rfl,?_,c,oK a r9⟩,?_⟩;rw[<-i];show((C9 b (a.fmod b)):Int)=(C9 a b);rw[Dj]
    . have:=qg a h;assumption) (y.natAbs+1) [iD x,iD y,J] ⟨x,y,J,rfl,rfl,l,k⟩ (by walk_at "r";simp[*])
 rw[FW]at j;have o:b=0:=by simpa using j
 subst o;have e:gc a 0=a:=by show((C9 a 0))=a;rw[Oi];exact rd s9
 rw[n,<-i,e];walk_at "r"
theorem gG(d:b≠0)(c:Bt 8000 b):V2 [.int t,.int b]=sd (fr (D8 t b)):=by
 delta V2;walk_at "r";rw[f6 d];walk_at "r";rw[lE (by split<;>lia) (by split<;>lia),a0L];walk_at "r";have f:=UO (t:=t) d;have a:=xZ (t:=t) d c;delta D8;by_cases e:b<0;simp only[f9 e];walk_at "r";rw[L8 z9 a.neg,L8 z9 a.neg];rfl;simp only[f6 e];walk_at "r";rw[L8 f a,L8 f a];rfl
theorem CL(m:0<b)(g:0<y)(c:C9 x y=1)(a:t*y=x*b):D8 t b=(x,y):=by
 have d:y∣b:=by
  have z:y∣x*b:=⟨t,by rw[<-a,J5]⟩
  have l:y.natAbs∣x.natAbs*b.natAbs:=by rw[<-cX];simp_all
  have i:yG y.natAbs x.natAbs:=by rw[yX];exact c
  exact Int.natAbs_dvd_natAbs.mp (i.dvd_of_dvd_mul_left l)
 obtain⟨k,rfl⟩:=d;have:0<k:=by
  rcases eI 0 k with h|h
  exact h;have:=sf (T7 g) h;lia
 have j:t=x*k:=by
  have:t*y=(x*k)*y:=by rw[a,O8,J5 y k]
  exact uL K8 this
 subst j;have e:C9 (x*k) (y*k)=k.natAbs:=by rw[Int.gcd_mul_right,c,Nat.one_mul]
 have f:gc (x*k) (y*k)=k:=by show((C9 _ _))=k;rw[e];exact rd de
 delta D8;rw[f6 (Int.not_lt.2 de),f,ba _ de,ba _ de,Ou _ K8,Ou _ K8]
theorem kG(z:C9 x y=1)(a:C9 x b=1):C9 x (y*b)=1:=by
 show Nat.gcd x.natAbs (y*b).natAbs=1;rw[cX];exact Nat.Coprime.mul_right z a
theorem cw(z:C9 x y=1)(a:b∣y):C9 x b=1:=
 Nat.Coprime.coprime_dvd_right (Int.natAbs_dvd_natAbs.mpr a) z
theorem S9(h:C9 x y=1):C9 y x=1:=by rw[yI];exact h
theorem Ii(h:C9 x y=1):C9 (x+b*y) y=1:=by simp_all
theorem Rp(I:0<b)(hd:0<x)(G:C9 t b=1)(H:C9 y x=1):
  let s:=gc b x
  let a:=t*x.fdiv s+y*b.fdiv s
  let e:=gc a s
  0<s/\0<e/\D8 (t*x+y*b) (b*x)=(a.fdiv e,b.fdiv s*x.fdiv e):=by
 have F:0<C9 b x:=se b K8;have L:0<gc b x:=by lia
 obtain⟨b',g⟩:gc b x∣b:=jE ..;obtain⟨d',f⟩:gc b x∣x:=jK ..;have c:C9 b' d'=1:=by
  have:=uJ F;have v:b/((C9 b x))=b':=by
   conv=>lhs;lhs;rw[g]
   rw[jr _ K8]
  have q2:x/((C9 b x))=d':=by
   conv=>lhs;lhs;rw[f]
   rw[jr _ K8]
  rwa [v,q2]at this
 intro s a e;have q:gc b x=s:=rfl;have z:b.fdiv s=b':=by rw[ba _ de];rw[q]at g;rw[g,jr _ K8]
 have C:x.fdiv s=d':=by rw[ba _ de];rw[q]at f;rw[f,jr _ K8]
 have r:a=t*d'+y*b':=by show t*x.fdiv s+y*b.fdiv s=_;rw[z,C]
 have w:0<C9 a s:=se a K8;have A:0<e:=by show(0:Int)<((C9 a s));exact Int.natCast_pos.2 s9
 refine⟨L,A,?_⟩;rw[q]at g f
 clear_value s
 obtain⟨n,i⟩:e∣a:=jE ..;obtain⟨m,k⟩:e∣s:=jK ..;have o:C9 n m=1:=by
  have:=uJ w;have v:a/((C9 a s))=n:=by
   show a/e=n;rw[i,jr _ K8]
  have q2:s/((C9 a s))=m:=by
   show s/e=m;rw[k,jr _ K8]
  rwa [v,q2]at this
 clear_value e
 have p:0<b':=by
  rcases eI 0 b' with h|h
  exact h;have:=sf (T7 (show(0:Int)<s by lia)) h;lia
 have d:0<d':=by
  rcases eI 0 d' with h|h
  exact h;have:=sf (T7 (show(0:Int)<s by lia)) h;lia
 have u:0<m:=by
  rcases eI 0 m with h|h
  exact h;have:=sf (T7 A) h;lia
 have D:C9 a b'=1:=by
  rw[r];have:=S9 (kG (S9 (cw G ⟨s,by rw[g,J5]⟩)) c);exact Ii this
 have E:C9 a d'=1:=by
  rw[r,Int.add_comm];have:=S9 (kG (S9 (cw H ⟨s,by rw[f,J5]⟩)) (S9 c));exact Ii this
 have dt:n∣a:=⟨e,by rw[i,J5]⟩
 have K:x.fdiv e=m*d':=by rw[ba _ de,f,k,O8,jr _ K8]
 have B:a.fdiv e=n:=by rw[ba _ de,i,jr _ K8]
 rw[z,K,B];apply CL (K9 I hd) (K9 p (K9 u d));exact kG (S9 (cw (S9 D) dt)) (kG o (S9 (cw (S9 E) dt)))
 . have e1 : t * x + y * b = s * a := by rw [r, jz]; conv => lhs; rw [g, f]
                                         simp only[oC]
   rw[e1,i]
   conv=>rhs;rw[g,f]
   rw[k];simp only[oC,J5]
theorem KC(a:0<b)(hd:0<x)(G:C9 t b=1)(H:C9 y x=1):
  let e:=gc t x
  let f:=gc y b
  0<e/\0<f/\D8 (t*y) (b*x)=(t.fdiv e*y.fdiv f,b.fdiv f*x.fdiv e):=by
 have l:∀{d c:Int},0<c->∃x' y',0<gc d c/\d=gc d c*x'/\c=gc d c*y'/\0<y'/\C9 x' y'=1/\d.fdiv (gc d c)=x'/\c.fdiv (gc d c)=y':=by
  intro d c O;have E:0<C9 d c:=se d K8;have w:0<gc d c:=by lia
  obtain⟨x',k⟩:gc d c∣d:=jE ..;obtain⟨y',j⟩:gc d c∣c:=jK ..
  have q1 : d / gc d c = x' := by conv => lhs; lhs; rw [k]
                                  rw[jr _ K8]
  have q2 : c / gc d c = y' := by conv => lhs; lhs; rw [j]
                                  rw[jr _ K8]
  refine⟨x',y',w,k,j,?_,?_,?_,?_⟩
  . rcases eI 0 y' with h|h
    exact h;have:=sf (T7 w) h;lia
  . have:=uJ E
    rwa [q1,q2]at this
  rw[ba _ de,q1];rw[ba _ de,q2]
 obtain⟨N,L,z,m,n,I,D,A,r⟩:=l hd;obtain⟨M,P,q,p,o,pb,K,v,u⟩:=l a;intro e f;have B:gc t x=e:=rfl;have F:gc y b=f:=rfl;rw[B]at z m n A r;rw[F]at q p o v u;refine⟨z,q,?_⟩
 clear_value e f
 rw[A,r,v,u];apply CL (K9 a hd) (K9 pb I);have C:=S9 (cw (S9 (cw G ⟨f,by rw[o,J5]⟩)) ⟨e,by rw[m,J5]⟩);exact S9 (kG (S9 (kG C D)) (S9 (kG K (S9 (cw (S9 (cw H ⟨e,by rw[n,J5]⟩)) ⟨f,by rw[p,J5]⟩)))))
 . conv=>lhs;rw[m,p]
   conv=>rhs;rw[o,n]
   simp only[oC,J5]
theorem Ae(t b:Int):gc (if t<0 then -t else t) b=gc t b:=by
 show((C9 _ _):Int)=(C9 t b)
 split<;>simp
theorem a0K(c:0<b)(h:Bt m b):Bt m (gc b t):=h.of_le (by have:=Int.gcd_le_natAbs_left (a:=b) t K8;simp[*])
theorem nu(a:B4 m p)(hq:B4 n q)(h:m+n<=7998):J7 [fr p,fr q]=sd (fr (N3 p q)):=by
 have g:Bt 60000 p.1:=a.bt.mono (B6 xJ f5);have i:Bt 60000 p.2:=a.bb.mono (B6 xJ f5);have d:Bt 60000 q.1:=hq.bt.mono (B6 CJ f5);have e:Bt 60000 q.2:=hq.bb.mono (B6 CJ f5);obtain⟨k,j,f⟩:=KC a.pos hq.pos a.low hq.low;have b:Bt 8000 (gc p.1 q.2):=(xZ (by have:=hq.pos;exact K8) hq.bb).mono (B6 CJ f5);have c:Bt 8000 (gc q.1 p.2):=(xZ (by have:=a.pos;exact K8) a.bb).mono (B6 xJ f5);have:=a.pos;have:=hq.pos;delta J7;walk_at "r";rw[lE (by split<;>lia) de,Ae];walk_at "r";rw[lE (by split<;>lia) de,Ae];walk_at "r";simp only[L8 (show gc p.1 q.2≠0 by exact K8) b,L8 (show gc q.1 p.2≠0 by exact K8) c];walk_at "r";rw[C4 g.fdiv d.fdiv];walk_at "r";simp only[L8 (show gc p.1 q.2≠0 by exact K8) b,L8 (show gc q.1 p.2≠0 by exact K8) c];walk_at "r";rw[C4 i.fdiv e.fdiv];delta N3;rw[f];rfl
abbrev Y3(ns:List Int):p9:=.list (ns.map .int)
theorem GR(ns:List Int):(ns.map Z0).length=ns.length:=by simp
theorem Lc(h0:0<=b)(h:b<Y.length):aS (Y.map Z0) b=U (.int (Y.getD b.toNat 0)):=by
 rw[dh (n:=b.toNat) O7 (by simp;omega),L1,L3 O7];simp[aN,L3 (show b.toNat<Y.length by omega)]
def wR:Ds->Option Out:=(t7 (u6 4 (t6 fc (t6 A9 (t6 N4 (t6 fc (q9 3) (fC (.int 2147483647))) (fC (.int 48271))) (t6 N4 (t6 N4 (t6 A9 (q9 1) (fC (.int 1))) (t6 A9 (q9 1) (fC (.int 5)))) (fC (.int 69621)))) (fC (.int 2147483629)))) (D4 (t6 fc (t6 fc (t6 N4 (q9 4) (t6 A9 (q9 4) (fC (.int 40692)))) (fC (.int 2147483587))) (q9 2))))
theorem Ni{c:Int}(hk0:0<=t)(hk1:t<=1000000)(hm:0<y):∃r:Int,wR [sd d,iD t,iD y,iD c,J]=U (.ret (.dat (.int r)))/\0<=r/\r<y:=by
 have fin:∀z:Int,0<=z.fmod y/\z.fmod y<y:=λz=>⟨oK z hm,qZ z hm⟩;have h1:=oK c (b:=2147483647) f5;have h2:=qZ c (b:=2147483647) f5;have b1:Bt 62 (t+1):=Bt.small O7 O7;have b2:Bt 62 (t+5):=Bt.small O7 O7;have h3:=oK (c.fmod 2147483647*48271+(t+1)*(t+5)*69621) (b:=2147483629) f5;have h4:=qZ (c.fmod 2147483647*48271+(t+1)*(t+5)*69621) (b:=2147483629) f5;unfold wR;walk_at "r";rw[cL f5];walk_at "r";rw[C4 (Bt.pW O7 O7) Bt.lit,C4 (b1.mono f5) (b2.mono f5)];walk_at "r";rw[C4 ((b1.mul b2).mono f5) Bt.lit];walk_at "r";rw[cL f5];walk_at "r";rw[C4 (Bt.pW O7 O7) (Bt.pW O7 O7)];walk_at "r";rw[cL f5];walk_at "r";rw[cL O7];exact⟨_,rfl,fin _⟩
theorem Q6{ns:List Int}{k m:Int}(hl:ns.length<=63)(hk0:0<=k)(hk1:k<=1000000)(hm:0<m):∃r:Int,B7 [Y3 ns,.int k,.int m]=sd (.int r)/\0<=r/\r<m:=by
 have fin:∀z:Int,0<=z.fmod m/\z.fmod m<m:=λz=>⟨oK z hm,qZ z hm⟩
 have tail:∀(c:Int),∃r:Int,(wR [sd (Y3 ns),iD k,iD m,iD c,J]).bind IZ=sd (.int r)/\0<=r/\r<m:=λc=>by obtain⟨r,h,h'⟩:=Ni (d:=Y3 ns) (c:=c) hk0 hk1 hm;rw[h];exact⟨r,rfl,h'⟩
 unfold B7;walk_at "r";rw[GR];by_cases hp:(0:Int)<(ns.length:Int)
 . rw[f9 hp,cL O7];have g1:=oK k hp;have g2:=qZ k hp;walk_at "r";rw[Lc g1 g2];walk_at "r";rw[Lc (oq 0) hp];walk_at "r";rw[cL f5];walk_at "r";by_cases h2:Int.fmod (ns.getD 0 0) 2=1
   . rw[f9 h2,GR];have q0:0<=k.fdiv (ns.length:Int):=Int.fdiv_nonneg hk0 O7;have q1:k.fdiv (ns.length:Int)<=k:=by have:=OF k (ns.length:Int);omega
     rw[L8 f5 Bt.lit,L8 O7 (Bt.pW O7 O7)];walk_at "r";rw[C4 Bt.lit (Bt.pW O7 O7)];walk_at "r";rw[Qq O7];walk_at "r";rw[cL f5];walk_at "r";rw[cL O7];walk_at "r";exact⟨_,rfl,fin _⟩
   rw[f6 h2];simp only[y8];exact tail _
 rw[f6 hp];simp only[y8];exact tail 0
theorem Bh(x y:Int):fG [iD x,iD y]=U (!decide (y=0)):=by unfold fG;walk_at "r"
theorem Pr(x:Int)(h:y≠0):fH [iD x,iD y]=U (.next [iD y,iD (x.fmod y)]):=by unfold fH;walk_at "r";rw[cL h];walk_at "r"
theorem JE(x y:Int):jR [.int x,.int y]=sd (.int (gc x y)):=by
 unfold jR;walk_at "r";obtain⟨ds',h1,⟨x',y',rfl,hg⟩,h3⟩:=Ax (Fc:=fG) (G:=fH) (λds=>∃x' y',ds=[iD x',iD y']/\gc x' y'=gc x y) (λds=>xK 1 ds-1) (by
  rintro ds ⟨x',y',rfl,hg⟩;rw[Bh];by_cases h:y'=0;left;simp[h]
  . right;refine⟨by simp[h],_,Pr x' h,⟨y',x'.fmod y',rfl,?_⟩,?_⟩;rw[<-hg];show((C9 y' (x'.fmod y'):Nat):Int)=(C9 x' y':Nat);rw[Dj]
    . have:=qg x' h;walk_at "r";omega) (y.natAbs+1) [iD x,iD y] ⟨x,y,rfl,rfl⟩ (by walk_at "r";omega)
 rw[Bh]at h3;have hz:y'=0:=by simpa using h3
 subst hz;have e:gc x' 0=if x'<0 then -x' else x':=by show((C9 x' 0:Nat):Int)=_;rw[Oi];split<;>omega
 rw[h1,<-hg,e];walk_at "r"
theorem AM(hb:b≠0)(hbb:Bt 8000 b):gg [.int t,.int b]=sd (fr (D8 t b)):=by
 unfold gg;walk_at "r";rw[JE];walk_at "r";have hg:=UO (t:=t) hb;have hgb:=xZ (t:=t) hb hbb;unfold D8;by_cases h0:b<0;simp only[f9 h0];walk_at "r";rw[L8 O7 hgb.neg,L8 O7 hgb.neg];rfl;simp only[f6 h0];walk_at "r";rw[L8 hg hgb,L8 hg hgb];rfl
structure Tr where
 a:Q2
 b:Q2
 c:Q2
noncomputable def K7(x:Tr):p9:=.tuple [fr x.a,fr x.b,fr x.c]
structure ic(m:Nat)(x:Tr):Prop where
 a:B4 m x.a
 b:B4 m x.b
 c:B4 m x.c
theorem CY(x:Tr):D5 (K7 x) (.int 0)=sd (fr x.a):=rfl
theorem CW(x:Tr):D5 (K7 x) (.int 1)=sd (fr x.b):=rfl
theorem CV(x:Tr):D5 (K7 x) (.int 2)=sd (fr x.c):=rfl
noncomputable def BD(x y:Tr)(q:Q2):Tr:=⟨cT x.a (N3 y.a q),cT x.b (N3 y.b q),cT x.c (N3 y.c q)⟩
def a3v(q:Q2):Q2:=(0-q.1,q.2)
theorem AF(q:Q2):aX (fr q)=Uf:=by rfl
theorem Hx(p q:Q2):gx (fr p) (fr q)=sd (.bool (decide (p≠q))):=by
 show(if aX (fr p)=Uf/\aX (fr q)=Uf then U (PV.dat (.bool (!PyData.eqv (fr p) (fr q))))else J)=_
 rw[f9 ⟨AF p,AF q⟩];have e:Y0 (fr p) (fr q)=decide (p=q):=by rw[qQ];simp[Y0,uw,Prod.ext_iff]
 rw[e];simp
noncomputable def a0Y(x y:Tr):Bool:=if x.a≠y.a then nr x.a y.a else if x.b≠y.b then nr x.b y.b else if x.c≠y.c then nr x.c y.c else U'
structure Sh(k:Nat)(d:p9):Prop where
 c:d.canLay0=Uf
 d:d.depth<=k
mutual
theorem SV:∀d:p9,d.canLay0=Uf->Y0 d d=Uf
 | .none,_=>rfl
 | .bool b,_=>by simp[Y0]
 | .int i,_=>by simp[Y0]
 | .str x,_=>by simp[Y0]
 | .list a,h=>by rw[Y0];exact tU a s9
 | .tuple a,h=>by rw[Y0];exact tU a s9
 | .dict _,h=>by assumption
theorem tU:∀l:List p9,fX l=Uf->uw l l=Uf
 | [],_=>rfl
 |x::r,h=>by
  have a:x.canLay0=Uf/\fX r=Uf:=by simpa [fX]using h
  rw[uw,SV x a.1,tU r a.2];rfl
end
structure FD(D M:Int)(q:Q2):Prop where
 pos:0<q.2
 low:C9 q.1 q.2=1
 dvd:q.2∣D
 vL:(q.1.natAbs:Int)<=M*q.2
theorem FD.mono(h:FD t y q)(hd:t∣b)(c:y<=x):FD b x q:=
 ⟨h.pos,h.low,gS h.dvd hd,aK h.vL (mQ c (T7 h.pos))⟩
theorem FD.a3B(h:FD b t q)(hD:0<b)(D:Bt m b)(a:Bt m (t*b)):B4 m q:=by
 have l:=fV hD h.dvd;have p:=h.pos;have:=h.vL;have hM:0<=t:=by
  rcases eI t 0 with c|c
  have:=zr c p;lia;exact c
 have:=jt l hM;exact⟨p,h.low,a.of_le r9,D.of_le r9⟩
theorem Z8(d:0<b):0<(D8 t b).2/\C9 (D8 t b).1 (D8 t b).2=1/\(D8 t b).1*b=t*(D8 t b).2/\(D8 t b).2∣b:=by
 have f:0<C9 t b:=se t K8;have e:D8 t b=(t/gc t b,b/gc t b):=by delta D8;rw[f6 (Int.not_lt.2 de),ba _ z9,ba _ z9]
 have h:gc t b∣t:=jE ..;have a:gc t b∣b:=jK ..;have c:=zl a;rw[e];refine⟨FR d z9 a,uJ f,?_,⟨gc t b,c.symm⟩⟩;generalize gc t b=g at *;have:t/g*b=t/g*(b/g*g):=by rw[c]
 rw[this,J5 (b/g) g,<-O8,(zl h)]
theorem Xj{c:Int}(a:0<b)(h:t*y=c*b):(D8 t b).2∣y:=by
 obtain⟨p,l,e,_⟩:=Z8 a;generalize (D8 t b).1=x at *;generalize (D8 t b).2=D at *;have k:x*y=c*D:=by
  apply uL (show b≠0 by exact K8);grind
 have z:D∣x*y:=⟨c,by rw[k,J5]⟩
 have f:D.natAbs∣x.natAbs*y.natAbs:=by rw[<-cX];exact Int.natAbs_dvd_natAbs.mpr z
 have d:yG D.natAbs x.natAbs:=by rw[yX];exact l
 exact Int.natAbs_dvd_natAbs.mp (d.dvd_of_dvd_mul_left f)
theorem Hz(d:0<b)(h:(t.natAbs:Int)<=y*b):(((D8 t b).1).natAbs:Int)<=y*(D8 t b).2:=by
 obtain⟨p,l,e,_⟩:=Z8 d;generalize (D8 t b).1=x at *;generalize (D8 t b).2=M at *;have f:x.natAbs*b=t.natAbs*M:=by
  have:=B9 Int.natAbs e;rw[cX,cX]at this;have a:b.natAbs=b:=by lia
  have c:M.natAbs=M:=by lia
  rw[<-a,<-c]
  exact_mod_cast this
 apply Int.le_of_mul_le_mul_right _ d;rw[f];have:=mQ h (T7 p)
 calc t.natAbs*M<=y*b*M:=this
  _=y*M*b:=by simp only[oC,J5]
theorem FD.plus(D:FD b t p)(hq:FD b y q):FD b (t+y) (cT p q):=by
 have d:=K9 D.pos hq.pos;obtain⟨a,l,_,_⟩:=Z8 d;obtain⟨u,f⟩:=D.dvd;obtain⟨v,e⟩:=hq.dvd;refine⟨a,l,Xj (c:=p.1*u+q.1*v) d ?_,Hz d ?_⟩
 . have h:p.1*q.2*b=p.1*u*(p.2*q.2):=by rw[f];simp only[oC,J5]
   have g:q.1*p.2*b=q.1*v*(p.2*q.2):=by rw[e];simp only[oC,J5]
   rw[Eg,Eg,h,g]
 . have:=mQ D.vL (T7 hq.pos);have:=mQ hq.vL (T7 D.pos);have:((p.1*q.2).natAbs)=p.1.natAbs*q.2:=by
    rw[cX];have:q.2.natAbs=q.2:=by have:=hq.pos;exact rd de
    push_cast;rw[this]
   have:((q.1*p.2).natAbs)=q.1.natAbs*p.2:=by
    rw[cX];have:p.2.natAbs=p.2:=by have:=D.pos;exact rd de
    push_cast;rw[this]
   lia
theorem FD.times(D:FD b y p)(hq:FD t x q):FD (b*t) (y*x) (N3 p q):=by
 have c:=K9 D.pos hq.pos;obtain⟨a,l,_,d⟩:=Z8 c;refine⟨a,l,gS d (Int.mul_dvd_mul D.dvd hq.dvd),Hz c ?_⟩;have:((p.1*q.1).natAbs:Int)=p.1.natAbs*q.1.natAbs:=by rw[cX];rfl
 rw[this];have e:0<=y*p.2:=by have:=D.vL;lia
 calc p.1.natAbs*q.1.natAbs<=(y*p.2)*(x*q.2):=yP D.vL hq.vL z9 e
  _=y*x*(p.2*q.2):=by simp only[oC,J5]
structure TD(D M:Int)(x:Tr):Prop where
 a:FD D M x.a
 b:FD D M x.b
 c:FD D M x.c
theorem JN{gt:p9->DD}{G:DO}{items:List p9}(P:Nat->Prop)(r:PV)(I:Nat->Ds->Prop){ds:Ds}(s:I 0 ds)(hs:∀i d ds,items[i]? = U d->I i ds->∃ds1,gt d ds=U ds1/\((P i/\∃ds2,G ds1=U (.next ds2)/\I (i+1) ds2)\/(¬P i/\G ds1=U (.ret r)))):
  ((∀i,i<items.length->P i)/\∃ds',W7 gt G items ds=U (.next ds')/\I items.length ds')\/(¬(∀i,i<items.length->P i)/\W7 gt G items ds=U (.ret r)):=by
 have k:∀l i ds,items.drop i=l->i<=items.length->(∀j,j<i->P j)->I i ds ->
   ((∀i,i<items.length->P i)/\∃ds',W7 gt G l ds=U (.next ds')/\I items.length ds')\/(¬(∀i,i<items.length->P i)/\W7 gt G l ds=U (.ret r)):=by
  intro l;induction l with
  |nil =>
   intro i ds e t g h;have:=List.drop_eq_nil_iff.mp e;have q:i=items.length:=by omega
   subst q;exact .inl ⟨g,ds,rfl,h⟩
  |cons x l o =>
   intro i ds e t g h;have b:i<items.length:=by
    by_cases c:i<items.length;exact c;rw[FH (jF s9)]at e;cases e
   rw[rZ b]at e;injection e with ea eb
   obtain⟨ds1,m,f⟩:=hs i x ds (by rw[L3 b,ea]) h
   rcases f with ⟨p,ds2,f,u⟩|⟨p,f⟩
   . have:=o (i+1) ds2 eb s9 (λj n=>by
       by_cases c:j=i;subst c;exact p
       . exact g j (lY (oD s9) s9)) u
     unfold W7;rw[m];simp only[x5];rw[f];exact this
   refine .inr ⟨λa=>p (a i b),?_⟩;unfold W7;rw[m];simp only[x5];rw[f];rfl
 exact k items 0 ds rfl (gP _) (λj n=>by exact kS) s
theorem pX(lo:Int)(n:Nat):(ax lo n).length=n:=by simp[ax]
def Ip(l m:List p9):List p9:=gQ (λx y=>.tuple [x,y]) l m
theorem Pt(l m:List p9):av [.list l,.list m]=U (Ip l m):=rfl
abbrev q0:Q2:=(0,1)
theorem qs(a:1<=m):B4 m q0:=rC (Bt.mono ⟨by decide⟩ a) a
abbrev px(l:List Q2):p9:=.list (l.map fr)
noncomputable def X1:Option Q2->p9
 |none=>.none
 |some q=>fr q
abbrev a4h(l:List (Option Q2)):p9:=.list (l.map X1)
abbrev ah(l:List (List Q2)):p9:=.list (l.map px)
def a1n(k:Nat)(l:List Q2):Prop:=∀q∈l,B4 k q
noncomputable abbrev rl(n:Nat)(f:Nat->p9):List p9:=(D0 n).map f
abbrev il(n:Nat)(f:Nat->Int):p9:=.list (rl n λi=>.int (f i))
theorem G8(n:Nat)(f:Nat->p9):(rl n f).length=n:=by simp[rl]
theorem M9(f:Nat->p9)(h:m<n):aS (rl n f) (m:Int)=U (f m):=by
 rw[dh rfl (by rw[G8];exact h),L1,oH h];rfl
theorem Lg(f:Nat->p9)(h:m<n):aS (rl n f) (0+(m:Int))=U (f m):=by rw[Y1];exact M9 f h
theorem bJ{g:Nat->p9}(h:∀i,i<n->f i=g i):rl n f=rl n g:=zk λi a=>h i (mem_range.mp a)
theorem iY(f:Nat->p9)(x:p9):(rl n f).set m x=rl n λk=>if k=m then x else f k:=by
 apply qT B3;intro k b a;simp only[EN,qR,EZ];by_cases c:m=k;rw[f9 c,f9 c.symm];rw[f6 c,f6 λz=>c z.symm]
theorem xw(h:(rl n f)[m]? = U d):m<n/\d=f m:=by
 have a:m<n:=by
  by_cases c:m<n;exact c;rw[uH (by rw[G8];exact jF s9)]at h;exact nE h
 rw[L1,oH a]at h;cases h;exact⟨a,rfl⟩
theorem VT(n:Nat)(f:Nat->p9):rl n f++[f n]=rl (n+1) f:=by simp[rl,hF]
theorem YX(n:Nat)(x:p9):(D3 n [x]).flatten=rl n λ_=>x:=by
 induction n with
 |zero=>rfl
 |succ n a=>rw[List.replicate_succ',List.flatten_append,a,<-VT];simp
theorem XX(f g:Nat->p9):Ip (rl n f) (rl n g)=rl n λi=>.tuple [f i,g i]:=by
 apply qT (by simp[Ip]);intro k b a;simp[Ip]
theorem lq(f g:Nat->p9)(n:Nat):av [.list (rl n f),.list (rl n g)]=U (rl n λi=>.tuple [f i,g i]):=by rw[Pt,XX]
theorem vw:∀(n:Nat) (f:Nat->p9) (o:Int),X8 o (rl n f)=rl n λi=>.tuple [.int (o+(i:Int)),f i]:=by
 intro l_;induction l_ with
 |zero =>
  intro f o;exact rfl
 |succ n ih_ =>
  intro f o;have e:∀g:Nat->p9,rl (n+1) g=g 0::rl n λi=>g (i+1):=λg=>by rw[rl,OP,C7,cW];rfl
  rw[e,e,X8,ih_]
  congr 1
  simp
  . exact bJ λi _=>by rw[show o+1+i=o+((i+1:Nat))from by lia]
theorem xv(n:Nat):ax 0 n=rl n λi=>.int (i:Int):=by exact zk λi _=>by rw[Y1]
theorem N5{Fe:DV}{ds:Ds}{g:Nat->p9}{gt:p9->Option (List p9)}(h:∀i,i<n->∃bs pv,gt (f i)=U bs/\Fe (S8 bs++ds)=U pv/\pv.d=g i):P4 gt z0 Fe ds (rl n f)=U (rl n g):=by
 have a:∀k,k<=n->P4 gt z0 Fe ds ((rl n f).drop (n-k))=U ((rl n g).drop (n-k)):=by
  intro k;induction k with
  |zero=>intro _;rw[Nat.sub_zero,FE (by simp[rl]),FE (by simp[rl])];rfl
  |succ k m =>
   intro o;have b:n-(k+1)<n:=by lia
   have c:∀f:Nat->p9,(rl n f).drop (n-(k+1))=f (n-(k+1))::(rl n f).drop (n-k):=λf=>by
    rw[rZ (by simpa [rl]using b),show n-(k+1)+1=n-k from by lia];simp[rl]
   rw[c,c];obtain⟨bs,pv,j,e,l⟩:=h _ b;unfold P4;simp only[j,x5,z0,U7];rw[e];rw[m eR];simp only[x5,l]
 have:=a n E7;rw[Ek]at this;exact this
theorem Xq(n:Nat)(f:Nat->Int):intsOf (rl n λi=>.int (f i))=U ((D0 n).map f):=ints_map f _
theorem KJ(n:Nat)(f:Nat->Int):((D0 n).map f).sum=Sx.sm n f:=by
 induction n with
 |zero=>rfl
 |succ n a=>rw[hF,Z2,NK,a,Sx.sm];simp
noncomputable abbrev gz(c:List (Nat×Int)):p9:=.list (c.map λe=>.tuple [.int (e.1:Int),.int e.2])
def N6:List (Nat×Int)->Nat->Int
 | [],_=>0
 |e::c,r=>(if e.1=r then e.2 else 0)+N6 c r
theorem Tj(f:Nat->Int):∀c:List (Nat×Int),(∀e∈c,e.1<m)->(c.map λe=>f e.1*e.2).sum=Sx.dot m f (N6 c):=by
 intro l_;induction l_ with
 |nil =>
  intro _;delta Sx.dot;rw[Sx.iw λi _=>by rw[N6,R9]];rfl
 |cons e c ih_ =>
  intro h;rw[C7,List.sum_cons,(ih_ λx g=>h x (C6 _ g))]
  delta Sx.dot;have d:(Sx.sm m λr=>f r*N6 (e::c) r)=Sx.sm m λr=>(if r=e.1 then f e.1*e.2 else 0)+f r*N6 c r:=Sx.A0 λr _=>by
   rw[N6];by_cases z:e.1=r;rw[f9 z,f9 z.symm,z,jz];rw[f6 z,f6 λy=>z y.symm,Y1,Y1]
  have a:(Sx.sm m λr=>if r=e.1 then f e.1*e.2 else 0)=f e.1*e.2:=by rw[Sx.V7 (h e D1) λi _ b=>by rw[f6 b],f9 rfl]
  rw[d,Sx.iV,a]
theorem bM(h:n<=1000):(rl n f).length<=1000000:=by rw[G8];exact pd
theorem IS{f:Nat->Int}(c:m<=1000)(b:∀i,i<m->Bt 60000 (f i))(d:∀i,i<m->Bt 60000 (g i)):md [il m f,il m g]=sd (.int (Sx.dot m f g)):=by
 delta md;walk_at "r";rw[lq];walk_at "r";rw[f9 (bM c),N5 λi a=>⟨_,_,rfl,by delta pS;walk_at "r";rw[C4 (b i a) (d i a)],rfl⟩];walk_at "r";rw[Xq];walk_at "r";rw[KJ];rfl
theorem yn{c:List (Nat×Int)}(p:c.length<=1000)(a:∀e∈c,e.1<m/\Bt 60000 e.2)(k:∀i,i<m->Bt 60000 (g i)):af [il m g,gz c]=sd (.int (Sx.dot m g (N6 c))):=by
 delta af;walk_at "r";have e:P4 (O6 2) z0 W2 [sd (il m g),sd (gz c)] (c.map λe=>.tuple [.int e.1,.int e.2])=U (c.map λe=>.int (g e.1*e.2)):=by
  have:∀l:List (Nat×Int),(∀e∈l,e.1<m/\Bt 60000 e.2)->P4 (O6 2) z0 W2 [sd (il m g),sd (gz c)] (l.map λe=>.tuple [.int e.1,.int e.2])=U (l.map λe=>.int (g e.1*e.2)):=by
   intro l;induction l with
   |nil=>intro _;rfl
   |cons x l o =>
    intro h;obtain⟨b,f⟩:=h x D1;rw[C7,P4];simp only[O6,Y2,jD,U7,x5,pz,rQ,aZ,bU];have d:W2 [sd (.int x.1),sd (.int x.2),sd (il m g),sd (gz c)]=sd (.int (g x.1*x.2)):=by delta W2;walk_at "r";rw[M9 _ b];walk_at "r";rw[C4 (k _ b) f]
    rw[d];rw[o λy n=>h y (C6 _ n)];rfl
  exact this c a
 rw[f9 (by rw[C5];exact pd),e];walk_at "r";rw[ints_map,x5,Tj g c λe j=>(a e j).1];rfl
theorem Az{f:Nat->Int}(j:m<=1000)(o:∀i,i<m->Bt 20000 (f i))(n:∀i,i<m->Bt 20000 (g i))(l:Bt 20000 b)(q:Bt 20000 t)(p:Bt 8000 y)(s:0<y):
  ∃r,ie [il m f,il m g,.int b,.int t,.int y]=U r/\r.d=il m λi=>(f i*t-b*g i).fdiv y:=by
 have k:(b=0/\t=y)\/¬(b=0/\t=y):=Classical.em _;rcases k with ⟨a,h⟩|c
 subst a h;refine⟨.dat (il m f),?_,?_⟩;delta ie;walk_at "r";show oo (rl m λi=>.int (f i))=.list (rl m λi=>.int ((f i*t-0*g i).fdiv t));rw[bJ λi _=>?_];rw[cz,uo,Int.mul_fdiv_cancel _ K8]
 . refine⟨.own (rl m λi=>.int ((f i*t-b*g i).fdiv y)),?_,rfl⟩
   delta ie;walk_at "r";have e:(if b=0 then(U (decide (t=y)))else U U')=U U':=by
    by_cases a:b=0;rw[f9 a,aM λz=>c ⟨a,z⟩];rw[f6 a]
   rw[e];walk_at "r";rw[lq];walk_at "r";rw[f9 (bM j),N5 λi d=>⟨_,_,rfl,by delta so;walk_at "r";rw[C4 ((o i d).mono f5) (q.mono f5),C4 (l.mono f5) ((n i d).mono f5)];walk_at "r";rw[L8 K8 p],rfl⟩];rfl
end Law
set_option hygiene false
local macro_rules|`(tactic|walk_at "f")=>`(tactic|repeat (first|rw[f9 trivial]|rw[f6 A3]))
set_option hygiene true
namespace Law
open PySem L2
structure V3 where
 m:Nat
 n:Nat
 sc:Nat->Int
 col:Nat->List (Nat×Int)
 mu:Nat->Int
 wt:Nat->Nat->Int
 un:Int
 lim:Nat->Option Int
def gy:Option Int->p9
 |none=>.none
 |some v=>.int v
def V3.pb(Q:V3)(b:Nat->Int):Sx.Pb:=⟨Q.m,Q.n,λj=>N6 (Q.col j),b,Q.lim,Q.wt⟩
noncomputable def J2(Q:V3)(T:Sx.Tb):List (Str×PF):=[("scales",.dat (il Q.n Q.sc)),("columns",.dat (.list (rl Q.n λj=>gz (Q.col j)))),("multiples",.own (rl 3 λt=>.int (Q.mu t))),("weights",.own (rl 3 λt=>il Q.n (Q.wt t))),("unit",.dat (.int Q.un)),("rights",.own (rl Q.m λp=>.int (T.rt p))),("limits",.dat (.list (rl Q.n λj=>gy (Q.lim j)))),("chosen",.own (rl Q.m λk=>.int (T.B k:Int))),("full",.own (rl Q.n λj=>.bool (T.full j))),("size",.dat (.int T.size)),("inverse",.dat (.list (rl Q.m λk=>il Q.m (T.inv k)))),("prices",.own (rl 3 λt=>il Q.m (T.pr t)))]
abbrev B8(Q:V3)(T:Sx.Tb):OD:=.ins "Table" (J2 Q T)
def E4(Q:V3)(T:Sx.Tb):p9:=(B8 Q T).d
abbrev Ml:List Str:=["scales","columns","multiples","weights","unit","rights","limits","chosen","full","size","inverse","prices"]
noncomputable abbrev lT(Q:V3)(T:Sx.Tb):List p9:=[(il Q.n Q.sc),(.list (rl Q.n λj=>gz (Q.col j))),.list (rl 3 λt=>.int (Q.mu t)),.list (rl 3 λt=>il Q.n (Q.wt t)),(.int Q.un),.list (rl Q.m λp=>.int (T.rt p)),(.list (rl Q.n λj=>gy (Q.lim j))),.list (rl Q.m λk=>.int (T.B k:Int)),.list (rl Q.n λj=>.bool (T.full j)),(.int T.size),(.list (rl Q.m λk=>il Q.m (T.inv k))),.list (rl 3 λt=>il Q.m (T.pr t))]
theorem Yy(Q:V3)(T:Sx.Tb):E4 Q T=zY "Table" Ml (lT Q T):=rfl
theorem bA(Q:V3)(T:Sx.Tb):vo "Table" (E4 Q T)=U (Ml.map .str,lT Q T):=by rw[Yy];exact MN _ _ _
theorem NG(w:Option Addr)(Q:V3)(T:Sx.Tb):PV.d (.ob w (.ins "Table" (J2 Q T)))=E4 Q T:=rfl
theorem Bf(b:Bool):Il (PV.d (.dat (.bool b)))=U b:=rfl
section
variable(Q:V3)(T:Sx.Tb)
theorem yb:X6 "Table" "scales" (E4 Q T)=U ((il Q.n Q.sc)):=by delta X6;rw[bA,x5];simp only[C7,T3];walk_at "f"
theorem AO:D2 "scales" (J2 Q T)=U (.dat (il Q.n Q.sc)):=by simp only[J2,D2];walk_at "f"
theorem vQ:X6 "Table" "columns" (E4 Q T)=U ((.list (rl Q.n λj=>gz (Q.col j)))):=by delta X6;rw[bA,x5];simp only[C7,T3];walk_at "f"
theorem xP:D2 "columns" (J2 Q T)=U (.dat (.list (rl Q.n λj=>gz (Q.col j)))):=by simp only[J2,D2];walk_at "f"
theorem sE:X6 "Table" "multiples" (E4 Q T)=U (.list (rl 3 λt=>.int (Q.mu t))):=by delta X6;rw[bA,x5];simp only[C7,T3];walk_at "f"
theorem tL:D2 "multiples" (J2 Q T)=U (.own (rl 3 λt=>.int (Q.mu t))):=by simp only[J2,D2];walk_at "f"
theorem vO:X6 "Table" "weights" (E4 Q T)=U (.list (rl 3 λt=>il Q.n (Q.wt t))):=by delta X6;rw[bA,x5];simp only[C7,T3];walk_at "f"
theorem xN:D2 "weights" (J2 Q T)=U (.own (rl 3 λt=>il Q.n (Q.wt t))):=by simp only[J2,D2];walk_at "f"
theorem Dr:X6 "Table" "unit" (E4 Q T)=U ((.int Q.un)):=by delta X6;rw[bA,x5];simp only[C7,T3];walk_at "f"
theorem HA:D2 "unit" (J2 Q T)=U (.dat (.int Q.un)):=by simp only[J2,D2];walk_at "f"
theorem yc:X6 "Table" "rights" (E4 Q T)=U (.list (rl Q.m λp=>.int (T.rt p))):=by delta X6;rw[bA,x5];simp only[C7,T3];walk_at "f"
theorem tJ:D2 "rights" (J2 Q T)=U (.own (rl Q.m λp=>.int (T.rt p))):=by simp only[J2,D2];walk_at "f"
theorem yf:X6 "Table" "limits" (E4 Q T)=U ((.list (rl Q.n λj=>gy (Q.lim j)))):=by delta X6;rw[bA,x5];simp only[C7,T3];walk_at "f"
theorem AQ:D2 "limits" (J2 Q T)=U (.dat (.list (rl Q.n λj=>gy (Q.lim j)))):=by simp only[J2,D2];walk_at "f"
theorem yg:X6 "Table" "chosen" (E4 Q T)=U (.list (rl Q.m λk=>.int (T.B k:Int))):=by delta X6;rw[bA,x5];simp only[C7,T3];walk_at "f"
theorem tM:D2 "chosen" (J2 Q T)=U (.own (rl Q.m λk=>.int (T.B k:Int))):=by simp only[J2,D2];walk_at "f"
theorem Dv:X6 "Table" "full" (E4 Q T)=U (.list (rl Q.n λj=>.bool (T.full j))):=by delta X6;rw[bA,x5];simp only[C7,T3];walk_at "f"
theorem zT:D2 "full" (J2 Q T)=U (.own (rl Q.n λj=>.bool (T.full j))):=by simp only[J2,D2];walk_at "f"
theorem Du:X6 "Table" "size" (E4 Q T)=U ((.int T.size)):=by delta X6;rw[bA,x5];simp only[C7,T3];walk_at "f"
theorem HB:D2 "size" (J2 Q T)=U (.dat (.int T.size)):=by simp only[J2,D2];walk_at "f"
theorem vP:X6 "Table" "inverse" (E4 Q T)=U ((.list (rl Q.m λk=>il Q.m (T.inv k)))):=by delta X6;rw[bA,x5];simp only[C7,T3];walk_at "f"
theorem xO:D2 "inverse" (J2 Q T)=U (.dat (.list (rl Q.m λk=>il Q.m (T.inv k)))):=by simp only[J2,D2];walk_at "f"
theorem ye:X6 "Table" "prices" (E4 Q T)=U (.list (rl 3 λt=>il Q.m (T.pr t))):=by delta X6;rw[bA,x5];simp only[C7,T3];walk_at "f"
theorem tK:D2 "prices" (J2 Q T)=U (.own (rl 3 λt=>il Q.m (T.pr t))):=by simp only[J2,D2];walk_at "f"
theorem Ht:T3 "rest" (Ml.map .str) (lT Q T)=J:=by simp only[C7,qJ,T3];walk_at "f"
theorem xH:T3 "amounts" (Ml.map .str) (lT Q T)=J:=by simp only[C7,qJ,T3];walk_at "f"
theorem wF:D2 "flip" (J2 Q T)=J:=by simp only[J2,D2];walk_at "f"
theorem RW:D2 "turn" (J2 Q T)=J:=by simp only[J2,D2];walk_at "f"
theorem Lp(r:Nat->Int):P0 "rights" (.own (rl Q.m λp=>.int (r p))) (J2 Q T)=J2 Q {T with rt:=r}:=by simp only[J2,P0];walk_at "f"
theorem Lr(r:Nat->Nat):P0 "chosen" (.own (rl Q.m λk=>.int (r k:Int))) (J2 Q T)=J2 Q {T with B:=r}:=by simp only[J2,P0];walk_at "f"
theorem Wj(r:Nat->Bool):P0 "full" (.own (rl Q.n λj=>.bool (r j))) (J2 Q T)=J2 Q {T with full:=r}:=by simp only[J2,P0];walk_at "f"
theorem Wh(r:Int):P0 "size" (.dat (.int r)) (J2 Q T)=J2 Q {T with size:=r}:=by simp only[J2,P0];walk_at "f"
theorem IL(r:Nat->Nat->Int):P0 "inverse" (.dat (.list (rl Q.m λk=>il Q.m (r k)))) (J2 Q T)=J2 Q {T with inv:=r}:=by simp only[J2,P0];walk_at "f"
theorem Lq(r:Nat->Nat->Int):P0 "prices" (.own (rl 3 λt=>il Q.m (r t))) (J2 Q T)=J2 Q {T with pr:=r}:=by simp only[J2,P0];walk_at "f"
end
theorem rO{Q:V3}{T:Sx.Tb}{m:Str}{f:FV}{b:DV}{a:DL}{ds:Ds}{pv:PV}{l:List p9}(h:b ds=U pv)(hd:pv.d=E4 Q T)(e:T3 m (Ml.map .str) (lT Q T)=J)(c:a ds=U l):R1 "Table" m f b a ds=f (E4 Q T::l):=by delta R1;rw[h,x5,hd,bA,x5];simp only[e,c,x5]
structure aW(Q:V3)(T:Sx.Tb):Prop where
 m1:Q.m<=1000
 n1:Q.n<=1000
 cl:∀j,j<Q.n->(Q.col j).length<=1000
 cb:∀j,j<Q.n->∀e∈Q.col j,e.1<Q.m/\Bt 7000 e.2
 wb:∀t j,t<3->j<Q.n->Bt 7000 (Q.wt t j)
 lb:∀j v,j<Q.n->Q.lim j=U v->Bt 7000 v
 bn:∀k,k<Q.m->T.B k<Q.n
 rb:∀p,p<Q.m->Bt 7000 (T.rt p)
 ib:∀k q,k<Q.m->q<Q.m->Bt 7000 (T.inv k q)
 pb:∀t q,t<3->q<Q.m->Bt 7000 (T.pr t q)
 sb:Bt 7000 T.size
 sp:0<T.size
 ab:∀k,k<Q.m->Bt 7000 (T.am (Q.pb λ_=>0) k)
 yo:∀a k,a<Q.n->k<Q.m->Bt 7000 (T.v8 (Q.pb λ_=>0) a k)
 rsb:∀t a,t<3->a<Q.n->Bt 7000 (T.rest (Q.pb λ_=>0) t a)
end Law
set_option hygiene false
local macro_rules|`(tactic|walk_at "v")=>`(tactic|((first|simp only[F5,N0,hZ,gw,cu,X5,mM,aa,R6,hB,jm,DH,tG,P1,lB,O0,gZ,O5,eN,Law.yb,Law.vQ,Law.sE,Law.vO,Law.Dr,Law.yc,Law.yf,Law.yg,Law.Dv,Law.Du,Law.vP,Law.ye,Law.AO,Law.xP,Law.tL,Law.xN,Law.HA,Law.tJ,Law.AQ,Law.tM,Law.zT,Law.HB,Law.xO,Law.tK,Law.NG,Law.Bf]|walk_at "r");repeat (first|simp only[F5,N0,hZ,gw,cu,X5,mM,aa,R6,hB,jm,DH,tG,P1,lB,O0,gZ,O5,eN,Law.yb,Law.vQ,Law.sE,Law.vO,Law.Dr,Law.yc,Law.yf,Law.yg,Law.Dv,Law.Du,Law.vP,Law.ye,Law.AO,Law.xP,Law.tL,Law.xN,Law.HA,Law.tJ,Law.AQ,Law.tM,Law.zT,Law.HB,Law.xO,Law.tK,Law.NG,Law.Bf]|walk_at "r")))
set_option hygiene true
namespace Law
open PySem L2
variable{m l O:Nat}{D E M:Int}{r X:Ds}{f:V3}{z v:Rat}{G u:DV}{g R:PV}{o:Q2}{A:List p9}{B:Str}{H:Nat->Rat}{K:Nat->Int}{L:List Key->Rat}{N:Option Addr}{S:p9}{a0:Sx.Pb}{a1:List (Str×PF)}{a2:Type}{a6:List Key}{a7:DO}{a8:List Int}{a9:PF}{b5:FV}{b6:Tr}{b8:Option PV}{c5:Ds->Option PV}{c6:Bool}{c7:Ds->Option (List AV)}{c8:Sx.Tb}{d2:p9->DD}{d5:Nat->Nat}{d6:Int×Int}{d8:Option Out}{d9:p9->Option (List p9)}
section
variable{T:Sx.Tb}
theorem lt3(h:m<3):m=0\/m=1\/m=2:=by lia
theorem GX(b:m<3)(Q:l<f.n)(cl:(f.col l).length<=1000)(c:∀e∈f.col l,e.1<f.m/\Bt 7000 e.2)(g:Bt 7000 (f.wt m l))(h:Bt 7000 T.size)(pb:∀q,q<f.m->Bt 7000 (T.pr m q)):U8 [E4 f T,.int (m:Int),.int (l:Int)]=sd (.int (T.rest (f.pb λ_=>0) m l)):=by
 delta U8;walk_at "v";rw[M9 _ b];walk_at "v";rw[M9 _ Q,M9 _ b];walk_at "v";rw[M9 _ Q];walk_at "v";rw[C4 (g.mono f5) (h.mono f5),yn cl (λe d=>⟨(c e d).1,((c e d).2).mono f5⟩) λi j=>(pb i j).mono f5];rfl
theorem rest_eq(K:aW f T)(c:m<3)(b:l<f.n):U8 [E4 f T,.int (m:Int),.int (l:Int)]=sd (.int (T.rest (f.pb λ_=>0) m l)):=
 GX c b (K.cl l b) (K.cb l b) (K.wb m l c b) K.sb λq hq=>K.pb m q c hq
theorem yw(K:aW f T):U0 [E4 f T]=U (.own (rl f.m λk=>.int (T.am (f.pb λ_=>0) k))):=by
 delta U0;walk_at "v";rw[f9 (bM K.m1),N5 λk b=>⟨_,_,rfl,by delta gB;walk_at "v";rw[IS K.m1 (λi a=>(K.ib k i b a).mono f5) λi a=>(K.rb i a).mono f5],rfl⟩];rfl
theorem RF(K:aW f T)(b:m<f.n):Y6 [E4 f T,.int (m:Int)]=U (.own (rl f.m λk=>.int (T.v8 (f.pb λ_=>0) m k))):=by
 delta Y6;walk_at "v";rw[f9 (bM K.m1),N5 λk d=>⟨_,_,rfl,by delta jW;walk_at "v";rw[M9 _ b];walk_at "v";rw[yn (K.cl m b) (λe c=>⟨(K.cb m b e c).1,((K.cb m b e c).2).mono f5⟩) λi Q=>(K.ib k i d Q).mono f5],rfl⟩];rfl
end
section
variable{T:Sx.Tb}
abbrev B5(Q:V3):Sx.Pb:=Q.pb λ_=>0
theorem SY(o:Option Int):U4 (gy o) (.int 0)=sd (.bool (decide (o=U 0))):=by
 cases o with
 |none =>
  rfl
 |some v =>
  rw[show gy (U v)=.int v from rfl,nY];simp
noncomputable def BG(r:Nat->Int):Option (Nat×Int):=
 if r 0≠0 then(if r 0<0 then U (0,r 0)else J)else if r 1≠0 then(if r 1<0 then U (1,r 1)else J)else if r 2≠0 then(if r 2<0 then U (2,r 2)else J)else J
theorem AX(r:Nat->Int):(BG r).isSome=Uf↔Sx.Neg r:=by
 delta BG Sx.Neg;by_cases a:r 0=0
 . rw[f6 (λz=>z a)];by_cases b:r 1=0
   . rw[f6 (λz=>z b)];by_cases c:r 2=0;rw[f6 (λz=>z c)];simp;simp[*]
     . rw[f9 c];split<;>simp<;>simp_all
   . rw[f9 b];split<;>simp<;>simp_all
 simp_all
noncomputable def gn(Q:V3)(T:Sx.Tb)(j:Nat):Option (Nat×Int):=if Q.lim j=U 0 then J else BG λt=>T.sg j*T.rest (B5 Q) t j
noncomputable def jg:Option (Nat×Int)->p9
 |none=>.none
 |some (t,r)=>.tuple [.int (t:Int),.int r]
theorem gn_enter(a:m<f.n)(b:Nat->Int):(gn f T m).isSome=Uf↔Sx.Q5 (f.pb b) T m:=by
 delta gn;constructor
 . intro h;by_cases c:f.lim m=U 0
   . simp_all
   rw[f6 c]at h;exact⟨a,c,(AX _).mp h⟩
 intro h;rw[f6 (show f.lim m≠U 0 from h.u0)];exact(AX _).mpr h.neg
theorem sgD(T:Sx.Tb)(j:Nat):(if T.full j=Uf then U (PV.dat (.int (-1)))else U (PV.dat (.int 1)))=U (PV.dat (.int (T.sg j))):=by delta Sx.Tb.sg;split<;>rfl
theorem Ut(T:Sx.Tb)(j:Nat):Bt 60000 (T.sg j):=by
 delta Sx.Tb.sg;split;exact Bt.lit;exact Bt.lit
theorem wJ(K:aW f T){t:Nat}(b:t<3)(a:m<f.n)(e:Option PV):
  lp [sd (E4 f T),iD (m:Int),iD (T.sg m),iD (t:Int),e]=U (if T.sg m*T.rest (B5 f) t m≠0 then .ret (.dat (if T.sg m*T.rest (B5 f) t m<0 then .tuple [.int (t:Int),.int (T.sg m*T.rest (B5 f) t m)]else .none))
   else .next [sd (E4 f T),iD (m:Int),iD (T.sg m),iD (t:Int),iD (T.sg m*T.rest (B5 f) t m)]):=by
 delta lp;walk_at "v";rw[rO (l:=[.int t,.int m]) rfl rfl (Ht f T) rfl,rest_eq K b a];walk_at "v";rw[C4 (Ut T m) ((K.rsb t m b a).mono f5)];walk_at "v";by_cases c:T.sg m*T.rest (B5 f) t m=0;rw[f6 (λz=>z c),f6 (λz=>z c)]
 . rw[f9 c,f9 c];by_cases d:T.sg m*T.rest (B5 f) t m<0
   . simp_all
   simp only[f6 d];walk_at "v"
theorem rJ{ds1:Ds}(a:d2 S X=U ds1)(b:a7 ds1=U (.ret g)):W7 d2 a7 (S::A) X=U (.ret g):=by
 unfold W7
 simp_all
theorem vq(K:aW f T)(a:m<f.n):mh [E4 f T,.int (m:Int)]=sd (jg (gn f T m)):=by
 delta mh gn;walk_at "v";rw[M9 _ a];walk_at "v";rw[SY];walk_at "v";by_cases c:f.lim m=U 0;simp only[f9 c];rfl
 . simp only[f6 c];walk_at "v";rw[M9 _ a];walk_at "v";rw[sgD];walk_at "v";have b:=wJ K (t:=0) f5 a;have d:=wJ K (t:=1) f5 a;have e:=wJ K (t:=2) f5 a;delta BG;by_cases Q:T.sg m*T.rest (B5 f) 0 m=0
   . simp only[Q]at b ⊢;rw[Q9 rfl (b J)];by_cases g:T.sg m*T.rest (B5 f) 1 m=0
     . simp only[g]at d ⊢;rw[Q9 rfl (d _)];by_cases h:T.sg m*T.rest (B5 f) 2 m=0;simp only[h]at e ⊢;rw[Q9 rfl (e _)];rfl
       . simp only[f9 (show T.sg m*T.rest (B5 f) 2 m≠0 from h)]at e ⊢
         rw[rJ rfl (e _)];split<;>rfl
     . simp only[f9 (show T.sg m*T.rest (B5 f) 1 m≠0 from g)]at d ⊢
       rw[rJ rfl (d _)];split<;>rfl
   . simp only[f9 (show T.sg m*T.rest (B5 f) 0 m≠0 from Q)]at b ⊢
     rw[rJ rfl (b _)];split<;>rfl
theorem SM{gt:p9->DD}{G:DO}(I:Nat->Ds->Prop)(R:PV->Prop)(hs:∀i d ds,A[i]? = U d->I i ds->∃ds1,gt d ds=U ds1/\((∃ds2,G ds1=U (.next ds2)/\I (i+1) ds2)\/∃pv,G ds1=U (.ret pv)/\R pv)):
  ∀(k i:Nat) (ds:Ds),i+k=A.length->I i ds->(∃ds',W7 gt G (A.drop i) ds=U (.next ds')/\I A.length ds')\/∃pv,W7 gt G (A.drop i) ds=U (.ret pv)/\R pv:=by
 intro l_;induction l_ with
 |zero =>
  intro i ds e h;rw[FE (by simp_all)]
  have:i=A.length:=by lia
  rw[<-this];exact .inl ⟨ds,rfl,h⟩
 |succ k ih_ =>
  intro i ds e h;have c:i<A.length:=by lia
  rw[rZ c];obtain⟨ds1,f,⟨ds2,b,a⟩|⟨pv,b,a⟩⟩:=hs i _ ds (L3 c) h;rw[Q9 f b];exact ih_ (i+1) ds2 r9 a;exact .inr ⟨pv,rJ f b,a⟩
def optN:Option Nat->p9
 |none=>.none
 |some a=>.int (a:Int)
theorem a0o(x y:Nat×Int):∃b,zS (jg (U x)) (jg (U y))=sd (.bool b):=⟨_,rfl⟩
theorem AK(K:aW f T)(e:Bool):∃r:Option Nat,ig [E4 f T,.bool e]=sd (optN r)/\(r=J->∀j,j<f.n->gn f T j=J)/\∀a,r=U a->a<f.n/\(gn f T a).isSome=Uf/\(e=Uf->∀j,j<a->gn f T j=J):=by
 delta ig;walk_at "v";rw[G8,bI (by have:=K.n1;lia)]
 walk_at "v";rw[fY,xv];have u:=SM (gt:=K5 4) (G:=bw)
  (λi H=>∃(r:Option Nat) (best:Option (Nat×Int)) (x o:Option PV),H=[sd (E4 f T),sd (.bool e),sd (optN r),sd (jg best),x,o]/\(r.isSome=best.isSome)/\(r=J->∀j,j<i->gn f T j=J)/\(∀a,r=U a->a<f.n/\(gn f T a).isSome=Uf/\e=U'))
  (λpv=>∃a,pv=.dat (optN (U a))/\a<f.n/\(gn f T a).isSome=Uf/\∀j,j<a->gn f T j=J)
  (by
   rintro i d H P ⟨r,best,x,o,rfl,q,t,m⟩;obtain⟨p,rfl⟩:=xw P;refine⟨_,rfl,?_⟩;cases hg:gn f T i with
   |none =>
    refine .inl ⟨[sd (E4 f T),sd (.bool e),sd (optN r),sd (jg best),iD i,sd .none],?_,r,best,_,_,rfl,q,λk j E=>?_,m⟩;delta bw;walk_at "v";rw[vq K p,hg];rfl;by_cases c:j=i;rw[c];exact hg;exact t k j (lY (oD s9) s9)
   |some g =>
    have L:(r=J\/∃l Q,r=U l/\best=U Q/\(∃w,zS (jg (U g)) (jg (U Q))=sd (.bool w)/\w=Uf))->bw [sd (E4 f T),sd (.bool e),sd (optN r),sd (jg best),iD i,o]=if e=Uf then U (.ret (.dat (.int i)))else U (.next [sd (E4 f T),sd (.bool e),iD i,sd (jg (U g)),iD i,sd (jg (U g))]):=by
     obtain⟨A,B⟩:=g;rintro(rfl|⟨l,⟨O,N⟩,rfl,rfl,w,s,rfl⟩);delta bw;walk_at "v";rw[vq K p,hg];simp only[jg,optN];walk_at "v";delta bw;walk_at "v";rw[vq K p,hg];simp only[jg,optN]at s ⊢;walk_at "v";rw[s];walk_at "v"
    have I:e=U'->(r=J\/∃l Q,r=U l/\best=U Q/\(∃w,zS (jg (U g)) (jg (U Q))=sd (.bool w)/\w=Uf))->(∃v,bw [sd (E4 f T),sd (.bool e),sd (optN r),sd (jg best),iD i,o]=U (.next v)/\∃(r:Option Nat) (best:Option (Nat×Int)) (x o:Option PV),v=[sd (E4 f T),sd (.bool e),sd (optN r),sd (jg best),x,o]/\(r.isSome=best.isSome)/\(r=J->∀j,j<i+1->gn f T j=J)/\(∀a,r=U a->a<f.n/\(gn f T a).isSome=Uf/\e=U')):=λy h=>by rw[L h,y];exact⟨_,rfl,U i,U g,_,_,rfl,rfl,(λz=>by exact nS z),λa D=>by cases D;exact⟨p,by rw[hg];rfl,rfl⟩⟩
    cases k:r with
    |none =>
     cases y:e with
     |false =>
      subst y k;exact .inl (I rfl (.inl rfl))
     |true =>
      subst y k;exact .inr ⟨.dat (.int i),L (.inl rfl),i,rfl,p,by rw[hg];rfl,t rfl⟩
    |some l =>
     obtain⟨A,B,C⟩:=m l k;subst C;cases hbb:best with
     |none=>simp_all
     |some Q =>
      subst k hbb;obtain⟨w,s⟩:=a0o g Q;cases w with
      |true=>exact .inl (I rfl (.inr ⟨l,Q,rfl,rfl,Uf,s,rfl⟩))
      |false =>
       refine .inl ⟨[sd (E4 f T),sd (.bool U'),sd (optN (U l)),sd (jg (U Q)),iD i,sd (jg (U g))],?_,U l,U Q,_,_,rfl,rfl,(λz=>by exact nS z),m⟩
       obtain⟨A,B⟩:=g;obtain⟨O,N⟩:=Q;delta bw;walk_at "v";rw[vq K p,hg];simp only[jg,optN]at s ⊢;walk_at "v";rw[s];walk_at "v")
  f.n 0 [sd (E4 f T),sd (.bool e),sd .none,sd .none,J,J] (by rw[G8];exact qH _ _) ⟨J,J,J,J,rfl,rfl,λ_ j E=>by exact kS,λa h=>by exact nE h⟩
 rw[List.drop_zero]at u;rcases u with ⟨R,t,r,best,x,o,rfl,q,m,F⟩|⟨pv,t,a,rfl,m,F,M⟩
 rw[t];refine⟨r,rfl,λk j E=>m k j (by rw[G8];exact E),λa D=>?_⟩;obtain⟨A,B,C⟩:=F a D;exact⟨A,B,λz=>by rw[C]at z;exact nT z⟩;rw[t];exact⟨U a,rfl,(λz=>by exact nS z),λb q=>by cases q;exact⟨m,F,λ_=>M⟩⟩
end
abbrev bx(Q:V3)(T:Sx.Tb)(a:Nat):List p9:=rl Q.m λk=>.int (T.v8 (B5 Q) a k)
structure eV where
 top:Int
 bot:Int
 ch:Nat
 pl:Option Nat
 tp:Bool
variable{C:eV}{d3:List eV}
noncomputable def T1(s:eV):p9:=.tuple [.int s.top,.int s.bot,.int (s.ch:Int),optN s.pl,.bool s.tp]
section
variable{T:Sx.Tb}
def vd(Q:V3)(a:Nat):List eV:=match Q.lim a with
 |some v=>[⟨v,1,a,J,U'⟩]
 |none=>[]
noncomputable def stK(Q:V3)(T:Sx.Tb)(a k:Nat):List eV:=
 if 0<T.sg a*T.v8 (B5 Q) a k then[⟨T.am (B5 Q) k,T.sg a*T.v8 (B5 Q) a k,T.B k,U k,U'⟩]
 else if T.sg a*T.v8 (B5 Q) a k<0 then(match Q.lim (T.B k)with
  |some v=>[⟨v*T.size-T.am (B5 Q) k,-(T.sg a*T.v8 (B5 Q) a k),T.B k,U k,Uf⟩]
  |none=>[])
 else[]
def stI(Q:V3)(T:Sx.Tb)(a:Nat):Nat->List eV
 | 0=>vd Q a
 |k+1=>stI Q T a k++stK Q T a k
theorem VC(Q:V3)(T:Sx.Tb)(a:Nat):∀k,(stI Q T a k).length<=k+1:=by
 intro l_;induction l_ with
 |zero =>
  unfold stI vd;split<;>simp
 |succ k ih_ =>
  have:=ih_;rw[stI,au];have:(stK Q T a k).length<=1:=by
   unfold stK;split;simp
   . split
     . split<;>simp
     simp
  exact yR s9 s9
theorem KP(K:aW f T)(Q:m<f.n)(b:O<f.m)(x7 x8 h:Option PV){l:List eV}(o:l.length<=10000):∃i j g,
  mi [sd (E4 f T),iD (m:Int),sd (.list (bx f T m)),U (.own (l.map T1)),iD (T.sg m),iD (0+(O:Int)),iD (T.am (B5 f) O),x7,x8,h]=U (.next [sd (E4 f T),iD (m:Int),sd (.list (bx f T m)),U (.own ((l++stK f T m O).map T1)),iD (T.sg m),iD (0+(O:Int)),iD (T.am (B5 f) O),i,j,g]):=by
 have d:=K.bn O b;refine⟨iD (T.B O),sd (gy (f.lim (T.B O))),iD (T.sg m*T.v8 (B5 f) m O),?_⟩;delta mi;walk_at "v";rw[Lg _ b];walk_at "v";rw[M9 _ d];walk_at "v";rw[Lg _ b];walk_at "v";rw[C4 (Ut T m) ((K.yo m O Q b).mono (n:=60000) f5)];walk_at "v";delta stK;by_cases c:0<T.sg m*T.v8 (B5 f) m O;simp only[f9 c];rw[pB _ rfl (by rw[C5];exact oF s9 f5),Z2];simp only[Y1];rfl
 . simp only[f6 c];by_cases e:T.sg m*T.v8 (B5 f) m O<0
   . simp only[f9 e];cases hlim:f.lim (T.B O)with
     |none =>
      simp only[gy];walk_at "v"
     |some v =>
      simp only[gy];walk_at "v";rw[C4 ((K.lb _ v d hlim).mono f5) (K.sb.mono f5)];walk_at "v";rw[pB _ rfl (by rw[C5];exact oF s9 f5),Z2];simp only[Y1];rfl
   simp only[f6 e];walk_at "v"
theorem Qm(K:aW f T)(g:m<f.n):iO [E4 f T,.int (m:Int),.list (bx f T m)]=U (.own ((stI f T m f.m).map T1)):=by
 have:=K.m1;obtain⟨s,r,j,o,c,b,Q,rfl⟩:=cM (gt:=Y8 2 (C2 5 (C2 6 Y9))) (items:=rl f.m λi=>.tuple [.int (0+i),.int (T.am (B5 f) i)])
  (λi q=>∃j o c b Q,q=[sd (E4 f T),iD m,sd (.list (bx f T m)),U (.own ((stI f T m i).map T1)),iD (T.sg m),j,o,c,b,Q])
  ⟨J,J,J,J,J,rfl⟩ (by
   rintro i d q u ⟨j,o,c,b,Q,rfl⟩;obtain⟨t,rfl⟩:=xw u;obtain⟨y,z,x,e⟩:=KP K g t c b Q (l:=stI f T m i) (by have:=VC f T m i;omega)
   exact⟨_,_,rfl,.inl e,_,_,_,_,_,rfl⟩)
 rw[G8]at r;have w:∀p,p=(stI f T m 0).map T1->(t7 (u6 4 (iH (A8 (t6 D5 (F5 "Table" "full" (q9 0)) (q9 1))) (gk bX (fC (.int 1))) (fC (.int 1)))) (t7 (G7 (F3 cv (f7 (R1 "Table" "amounts" U0 (q9 0) u3) u3)) (Y8 2 (C2 5 (C2 6 Y9))) mi) (X4 3))) [sd (E4 f T),iD m,sd (.list (bx f T m)),U (.own p),J,J,J,J,J,J]=U (.ret (.own ((stI f T m f.m).map T1))):=by rintro p rfl;walk_at "v";rw[M9 _ g];walk_at "v";rw[sgD];walk_at "v";rw[rO rfl rfl (xH f T) rfl,yw K];walk_at "v";rw[vw,r];walk_at "v"
 have h:(P5 (A8 (t6 fj (t6 D5 (F5 "Table" "limits" (q9 0)) (q9 1)) (fC .none))) (dg 3 (x9 (f7 (t6 D5 (F5 "Table" "limits" (q9 0)) (q9 1)) (f7 (fC (.int 1)) (f7 (q9 1) (f7 (fC .none) (f7 (fC (.bool U')) u3))))))) K0) [sd (E4 f T),iD m,sd (.list (bx f T m)),U (.own []),J,J,J,J,J,J]=U (.next [sd (E4 f T),iD m,sd (.list (bx f T m)),U (.own ((stI f T m 0).map T1)),J,J,J,J,J,J]):=by
  walk_at "v";rw[M9 _ g];unfold stI vd;cases f.lim m with
  |none=>rfl
  |some v =>
   rfl
 unfold iO J3;rw[f9 (by rfl),A5,show S6 3 (N9 u3) (S8 [E4 f T,.int m,.list (bx f T m)]++D3 (10-3) J)=U (.next [sd (E4 f T),iD m,sd (.list (bx f T m)),U (.own []),J,J,J,J,J,J])from rfl,y8,A5,h,y8,w _ rfl];rfl
def ry(s r:eV):Bool:=decide (s.top*r.bot<r.top*s.bot)||(decide (s.top*r.bot=r.top*s.bot)&&decide (s.ch<r.ch))
structure Im(s:eV):Prop where
 t:Bt 20000 s.top
 b:Bt 20000 s.bot
 p:0<s.bot
theorem KR{r:eV}(hs:Im C)(a:Im r):oM [T1 C,T1 r]=sd (.bool (ry C r)):=by
 delta oM T1;walk_at "v";rw[C4 (hs.t.mono f5) (a.b.mono f5)];walk_at "v";rw[C4 (a.t.mono f5) (hs.b.mono f5)];walk_at "v";delta ry;by_cases c:C.top*r.bot<r.top*C.bot;simp[c];rfl;by_cases d:C.top*r.bot=r.top*C.bot;simp[c];rfl;simp[c];rfl
def gu:Option eV->p9
 |none=>.none
 |some s=>T1 s
def fU(o:Option eV)(s:eV):Option eV:=match o with
 |none=>U s
 |some r=>if ry s r=Uf then U s else U r
theorem SU(h:∀s∈d3,Im s):bQ [.list (d3.map T1)]=sd (gu (d3.foldl fU J)):=by
 have f:∀(d3:List eV) o L x,(∀s∈d3,Im s)->(∀r,o=U r->Im r)->∃b,W7 (K5 2) bD (d3.map T1) [sd L,sd (gu o),x]=U (.next [sd L,sd (gu (d3.foldl fU o)),b]):=by
  intro d3;induction d3 with
  |nil=>exact λo L x _ _=>⟨x,rfl⟩
  |cons s d3 j =>
   intro o L x i g;have d:=i s D1;have e:bD [sd L,sd (gu o),sd (T1 s)]=U (.next [sd L,sd (gu (fU o s)),sd (T1 s)]):=by
    delta bD;cases o with
    |none =>
     rfl
    |some r =>
     simp only[gu];simp only[P5,sH,A8,q9,OV,pF,x5,PV.vy,q5,f7,u3,KR d (g r rfl)];delta fU;cases c:ry s r;simp only[c];rfl;simp only[c];rfl
   rw[C7,Q9 rfl e,ED];refine j _ L _ (λy m=>i y (C6 _ m)) λr a=>?_;unfold fU at a;split at a;cases a;exact d;split at a;cases a;exact d;cases a;exact g _ rfl
 obtain⟨b,e⟩:=f d3 J (.list (d3.map T1)) J h (λr z=>by exact nE z);delta bQ;walk_at "v";have k:W7 (K5 2) bD (d3.map T1) [sd (.list (d3.map T1)),sd .none,J]=U (.next [sd (.list (d3.map T1)),sd (gu (d3.foldl fU J)),b]):=e;rw[k];walk_at "v"
def le(r s:eV):Prop:=r.top*s.bot<s.top*r.bot\/(r.top*s.bot=s.top*r.bot/\r.ch<=s.ch)
theorem ME{r:eV}(h:ry C r=U'):le r C:=by
 unfold ry at h;rw[Oy,Bool.and_eq_false_iff]at h;obtain⟨b,a⟩:=h;by_cases c:C.top*r.bot=r.top*C.bot
 . rcases a with a|a
   exact absurd c (of_decide_eq_false a);have:=of_decide_eq_false a;exact .inr ⟨c.symm,jF s9⟩
 left;lia
theorem JD{r:eV}(h:ry C r=Uf):le C r:=by
 unfold ry at h;rw[NO,qV]at h;rcases h with h|⟨a,b⟩
 exact .inl (oE h);have:=oE a;exact .inr ⟨by assumption,by lia⟩
theorem le_trans{s t:eV}(i:0<C.bot)(hs:0<s.bot)(g:0<t.bot)(d:le C s)(b:le s t):le C t:=by
 have k:C.top*s.bot<=s.top*C.bot:=by unfold le at d;omega
 have j:s.top*t.bot<=t.top*s.bot:=by unfold le at b;omega
 have:=mQ k (T7 g);have:=mQ j (T7 i);have:s.top*C.bot*t.bot=s.top*t.bot*C.bot:=by grind
 have a:s.bot*(C.top*t.bot)=C.top*s.bot*t.bot:=by grind
 have:s.bot*(t.top*C.bot)=t.top*s.bot*C.bot:=by grind
 have f:s.bot*(C.top*t.bot)<=s.bot*(t.top*C.bot):=by omega
 have:=zt f hs;by_cases c:C.top*t.bot=t.top*C.bot
 . right;refine⟨c,?_⟩;have e:C.top*s.bot*t.bot=s.top*C.bot*t.bot:=by rw[c]at a;omega
   have h:s.top*t.bot*C.bot=t.top*s.bot*C.bot:=by rw[c]at a;simp_all
   have:=uL K8 e;have:=uL K8 h;unfold le at d b;omega
 left;omega
theorem Na:∀(l:List eV) (o:Option eV),(∀s∈l,0<s.bot)->(∀r,o=U r->0<r.bot)->(l.foldl fU o=J->o=J/\l=[])/\∀r,l.foldl fU o=U r->(o=U r\/r∈l)/\(∀s,o=U s->le r s)/\∀s∈l,le r s:=by
 intro l_;induction l_ with
 |nil =>
  intro o _ _;exact⟨λh=>⟨h,rfl⟩,λr h=>⟨.inl h,λs a=>by have n:o=U r:=h;rw[n]at a;cases a;exact .inr ⟨rfl,T6 _⟩,λs a=>absurd a B3⟩⟩
 |cons x l ih_ =>
  intro o h1 h2;have i:=h1 x D1;have q:∃y,fU o x=U y/\0<y.bot/\(o=U y\/y=x)/\le y x/\∀s,o=U s->le y s:=by
   delta fU;cases o with
   |none=>exact⟨x,rfl,i,.inr rfl,.inr ⟨rfl,T6 _⟩,λs z=>by exact nE z⟩
   |some r =>
    cases c:ry x r with
    |true=>exact⟨x,by simp[c],i,.inr rfl,.inr ⟨rfl,T6 _⟩,λs z=>by cases z;exact JD c⟩
    |false=>exact⟨r,by simp[c],h2 r rfl,.inl rfl,ME c,λs z=>by cases z;exact .inr ⟨rfl,T6 _⟩⟩
  obtain⟨y,e,g,d,m,t⟩:=q;rw[ED,e];obtain⟨w,k⟩:=ih_ (U y) (λs a=>h1 s (C6 _ a)) λr z=>by cases z;exact g
  refine⟨λh=>(by have:=(w h).1;exact nS this),λr v=>?_⟩
  obtain⟨b,p,u⟩:=k r v;have f:0<r.bot:=by
   rcases b with b|b
   cases b;exact g;exact h1 r (C6 _ b)
  have j:=p y rfl;refine⟨?_,λs a=>le_trans f g (h2 s a) j (t s a),λs a=>?_⟩
  . rcases b with b|b
    . cases b;rcases d with d|d
      exact .inl d;rw[d];exact .inr D1
    exact .inr (C6 _ b)
  . rcases List.mem_cons.mp a with rfl|a
    exact le_trans f g i j m;exact u s a
end
section
variable{T:Sx.Tb}
theorem iF(h:l<m):jd m (l:Int)=U l:=by
 delta jd
 simp_all
theorem vg(h:r[m]? = U (U (.ob N (B8 f T))))(e:D2 B (J2 f T)=U (.own A))(b:u r=U g)(c:G r=sd (.int (O:Int)))(Q:O<A.length):
  cu "Table" m B G u r=U (.next (r.set m (U (.ob N (.ins "Table" (P0 B (.own (A.set O g.d)) (J2 f T))))))):=by delta cu gw;rw[b,x5,c,x5,h];simp only[U7,x5,e,tG,PV.vy,iF Q]
theorem LR{pv:PV}(h:r[m]? = U (U (.ob N (B8 f T))))(c:u r=U pv)(hd:pv.d=.bool c6)(Q:G r=sd (.int (l:Int)))(g:l<f.n):
  cu "Table" m "full" G u r=U (.next (r.set m (U (.ob N (B8 f {T with full:=λj=>if j=l then c6 else T.full j}))))):=by
 rw[vg h (zT f T) c Q (by rw[G8];exact g),iY,hd]
 have e:(rl f.n λk=>if k=l then PyData.bool c6 else .bool (T.full k))=rl f.n λj=>.bool (if j=l then c6 else T.full j):=bJ λk _=>by split<;>rfl
 rw[e,Wj]
theorem Gf{pv:PV}(h:r[m]? = U (U (.ob N (B8 f T))))(b:u r=U pv)(hd:pv.d=.int D)(c:G r=sd (.int (l:Int)))(a:l<f.m):
  cu "Table" m "rights" G u r=U (.next (r.set m (U (.ob N (B8 f {T with rt:=λj=>if j=l then D else T.rt j}))))):=by
 rw[vg h (tJ f T) b c (by rw[G8];exact a),iY,hd]
 have e:(rl f.m λk=>if k=l then Z0 D else .int (T.rt k))=rl f.m λj=>.int (if j=l then D else T.rt j):=bJ λk _=>by split<;>rfl
 rw[e,Lp]
theorem Gh{Q:V3}{i:Nat}{w:Option Addr}{ds:Ds}{Fk Fv:DV}{pv:PV}{x:Nat}{p:Nat}(h:ds[i]? = U (U (.ob w (B8 Q T))))(b:Fv ds=U pv)(hd:pv.d=.int (x:Int))(c:Fk ds=sd (.int (p:Int)))(a:p<Q.m):
  cu "Table" i "chosen" Fk Fv ds=U (.next (ds.set i (U (.ob w (B8 Q {T with B:=λj=>if j=p then x else T.B j}))))):=by
 rw[vg h (tM Q T) b c (by rw[G8];exact a),iY,hd]
 have e:(rl Q.m λk=>if k=p then Z0 x else .int (T.B k))=rl Q.m λj=>.int ((if j=p then x else T.B j:Nat)):=bJ λk _=>by split<;>rfl
 rw[e,Lr]
theorem Gg{x:Nat->Int}(h:r[m]? = U (U (.ob N (B8 f T))))(b:u r=U g)(hd:g.d=il f.m x)(c:G r=sd (.int (l:Int)))(a:l<3):
  cu "Table" m "prices" G u r=U (.next (r.set m (U (.ob N (B8 f {T with pr:=λj=>if j=l then x else T.pr j}))))):=by
 rw[vg h (tK f T) b c s9,iY,hd];have e:(rl 3 λk=>if k=l then il f.m x else il f.m (T.pr k))=rl 3 λj=>il f.m (if j=l then x else T.pr j):=bJ λk _=>by split<;>rfl
 rw[e,Lq]
noncomputable def kR(Q:V3)(T:Sx.Tb)(a:Nat)(by':Int):Sx.Tb:={T with full:=λj=>if j=a then !T.full a else T.full j,rt:=λp=>T.rt p+by'*N6 (Q.col a) p}
theorem MX(i:Bt 60000 E):∀(c:List (Nat×Int)) (T:Sx.Tb) (x3 d:Option PV),(∀e∈c,e.1<f.m/\Bt 60000 e.2) ->
  ∃g Q,W7 (Y8 2 (C2 3 (C2 4 Y9))) dJ (c.map λe=>.tuple [.int (e.1:Int),.int e.2]) [U (.ob N (B8 f T)),iD D,iD E,x3,d]=U (.next [U (.ob N (B8 f {T with rt:=λp=>T.rt p+E*N6 c p})),iD D,iD E,g,Q]):=by
 intro l_;induction l_ with
 |nil =>
  intro T x3 d _;exact⟨x3,d,by
   have:({T with rt:=λp=>T.rt p+E*N6 [] p}:Sx.Tb)=T:=by
    have:(λp=>T.rt p+E*N6 [] p)=T.rt:=by funext p;rw[N6,R9,qF]
    rw[this]
   rw[this];rfl⟩
 |cons e c ih_ =>
  intro T x3 d h;obtain⟨k,n⟩:=h e D1;have l:dJ [U (.ob N (B8 f T)),iD D,iD E,iD e.1,iD e.2]=U (.next [U (.ob N (B8 f {T with rt:=λj=>if j=e.1 then T.rt e.1+E*e.2 else T.rt j})),iD D,iD E,iD e.1,iD e.2]):=by
   delta dJ;rw[Gf (pv:=.dat (.int (T.rt e.1+E*e.2))) rfl ?_ rfl rfl k];rfl;walk_at "v";rw[M9 _ k];walk_at "v";rw[C4 i n];walk_at "v"
  obtain⟨g,Q,q⟩:=ih_ {T with rt:=λj=>if j=e.1 then T.rt e.1+E*e.2 else T.rt j} (iD e.1) (iD e.2) λx o=>h x (C6 _ o)
  refine⟨g,Q,?_⟩;rw[C7,Q9 rfl l,q];have:(λp=>(if p=e.1 then T.rt e.1+E*e.2 else T.rt p)+E*N6 c p)=λp=>T.rt p+E*N6 (e::c) p:=by
   funext p
   rw[N6];by_cases z:e.1=p;rw[f9 z.symm,f9 z,z,jz,Int.add_assoc];rw[f6 λy=>z y.symm,f6 z,Y1]
  simp only[this]
theorem HR(b:m<f.n)(i:f.lim m=U D)(Q:Bt 60000 D)(d:∀e∈f.col m,e.1<f.m/\Bt 7000 e.2):P2 [.ob J (B8 f T),.dat (.int (m:Int))]=U (.dat .none,[U (.ob J (B8 f (kR f T m (-(T.sg m*D))))),J]):=by
 refine nU rfl λt=>?_
 have c:Bt 60000 (-(T.sg m*D)):=by
  delta Sx.Tb.sg;split;exact Q.of_le z9;exact Q.of_le z9
 rw[show((cZ t 0 [PV.ob J (B8 f T),.dat (.int m)]).map U++D3 (5-2) J)=[U (.ob (U (t 0)) (B8 f T)),iD m,J,J,J]from rfl]
 have h:u6 2 (iH (A8 (hZ "Table" 0 "full" (q9 1))) (t6 D5 (N0 "Table" 0 "limits") (q9 1)) (gk bX (t6 D5 (N0 "Table" 0 "limits") (q9 1)))) [U (.ob (U (t 0)) (B8 f T)),iD m,J,J,J]=U (.next [U (.ob (U (t 0)) (B8 f T)),iD m,iD (-(T.sg m*D)),J,J]):=by
  walk_at "v";rw[M9 _ b];walk_at "v";rw[M9 _ b,i];walk_at "v";delta Sx.Tb.sg;cases T.full m;simp only[lZ,if_false,cU];rfl;simp only[U7,yF,cU,Int.neg_neg];rfl
 have k:cu "Table" 0 "full" (q9 1) (Dz (hZ "Table" 0 "full" (q9 1))) [U (.ob (U (t 0)) (B8 f T)),iD m,iD (-(T.sg m*D)),J,J]=U (.next [U (.ob (U (t 0)) (B8 f {T with full:=λj=>if j=m then !T.full m else T.full j})),iD m,iD (-(T.sg m*D)),J,J]):=by
  rw[LR (pv:=.dat (.bool (!T.full m))) rfl ?_ rfl rfl b];rfl;walk_at "v";rw[M9 _ b];walk_at "v"
 obtain⟨p,o,l⟩:=MX c (f.col m) {T with full:=λj=>if j=m then !T.full m else T.full j} J J λe g=>⟨(d e g).1,((d e g).2).mono f5⟩;rw[A5,h,y8,A5,k,y8];walk_at "v";rw[M9 _ b];walk_at "v";rw[l];simp only[x5,mm,S7];rfl
theorem HS(K:aW f T)(b:m<f.n)(c:f.lim m=U D):P2 [.ob J (B8 f T),.dat (.int (m:Int))]=U (.dat .none,[U (.ob J (B8 f (kR f T m (-(T.sg m*D))))),J]):=
 HR b c ((K.lb m D b c).mono f5) (K.cb m b)
end
section
variable{T:Sx.Tb}
theorem a1d(ds:Ds):∀xs:List p9,rX ds (xs.map AV.d)=U (xs.map .dat):=by
 intro l_;induction l_ with
 |nil =>
  exact rfl
 |cons x xs ih_ =>
  rw[C7,rX,ih_];rfl
theorem He:∀(xs:List p9) (r ds:Ds),gs (xs.map AV.d) r ds=ds
 | [],r,ds=>by simp[gs]
 |x::xs,[],ds=>by simp[gs]
 |x::xs,y::r,ds=>by rw[C7,gs,He xs]
theorem KY:∀xs:List p9,U2 (xs.map AV.d)=[]:=by
 intro l_;induction l_ with
 |nil =>
  exact rfl
 |cons x xs ih_ =>
  rw[C7,U2,ih_]
theorem wX{c c':OD}{f:List PV->Option (PV×Ds)}{xs:List p9}(h:X[m]? = U (U (.ob N c)))(e:c7 X=U (.s m::xs.map AV.d))(b:f (.ob J c::xs.map .dat)=U (g,U (.ob J c')::r)):
  jl f c7 X=U (g,X.set m (U (.ob N c'))):=by
 delta jl;rw[e,x5];rw[f9 (by rw[U2,KY];simp),rX];simp only[h,a1d,x5,b];rw[gs,h,He];rfl
theorem rE{c':OD}{Q:List PV->Option (PV×Ds)}{xs:List p9}(h:X[l]? = U (U (.ob N (B8 f T))))(e:D2 B (J2 f T)=J)(c:c7 X=U (xs.map AV.d))(b:Q (.ob J (B8 f T)::xs.map .dat)=U (g,U (.ob J c')::r)):
  O0 "Table" B l Q c7 X=U (g,X.set l (U (.ob N c'))):=by
 delta O0 gw;rw[h];simp only[U7,x5,e];refine wX h ?_ b;delta gZ
 simp_all
noncomputable def vK(Q:V3)(T:Sx.Tb)(a l:Nat)(g:Int)(t q:Nat):Int:=(T.pr t q*(g*T.v8 (B5 Q) a l)-(-g*T.rest (B5 Q) t a)*T.inv l q).fdiv T.size
noncomputable def dU(Q:V3)(T:Sx.Tb)(a l:Nat)(g:Int)(k q:Nat):Int:=if k=l then g*T.inv l q else(T.inv k q*(g*T.v8 (B5 Q) a l)-(g*T.v8 (B5 Q) a k)*T.inv l q).fdiv T.size
def S3(Q:V3)(T:Sx.Tb)(a:Nat):Sx.Tb:=if T.full a=Uf then kR Q T a (-(T.sg a*(Q.lim a).getD 0))else T
noncomputable def W9(Q:V3)(T:Sx.Tb)(a l:Nat)(g:Int):Sx.Tb:=⟨λk=>if k=l then a else T.B k,(S3 Q T a).full,g*T.v8 (B5 Q) a l,dU Q T a l g,λt=>if t<3 then vK Q T a l g t else T.pr t,(S3 Q T a).rt⟩
theorem vH:(S3 f T a).B=T.B/\(S3 f T a).size=T.size/\(S3 f T a).inv=T.inv/\(S3 f T a).pr=T.pr:=by delta S3;split<;>exact⟨rfl,rfl,rfl,rfl⟩
noncomputable def Z7(Q:V3)(T:Sx.Tb)(a l:Nat)(g:Int)(i:Nat):Sx.Tb:=⟨T.B,(S3 Q T a).full,T.size,T.inv,λt=>if t<i then vK Q T a l g t else T.pr t,(S3 Q T a).rt⟩
theorem a3w(a l:Nat)(g:Int):Z7 f T a l g 0=S3 f T a:=by
 delta Z7;have:(λt=>if t<0 then vK f T a l g t else T.pr t)=T.pr:=by funext t;simp
 rw[this];obtain⟨b,c,d,e⟩:=vH;cases hu:S3 f T a;rw[hu]at b c d e
 simp_all
theorem wm(K:aW f T){t:Nat}(e:m<f.n)(s:l<f.m)(b:t<3)(B:D=1\/D = -1)(w:Option Addr)(x8:Option PV):
  ∃C,dI [U (.ob w (B8 f (Z7 f T m l D t))),iD (m:Int),iD (l:Int),sd (.list (bx f T m)),iD D,iD (D*T.v8 (B5 f) m l),sd (il f.m (T.inv l)),iD (t:Int),x8,J]=U (.next [U (.ob w (B8 f (Z7 f T m l D (t+1)))),iD (m:Int),iD (l:Int),sd (.list (bx f T m)),iD D,iD (D*T.v8 (B5 f) m l),sd (il f.m (T.inv l)),iD (t:Int),C,J]):=by
 have o:Bt 10 D:=by rcases B with h|h<;>rw[h]<;>exact⟨by decide⟩
 have d:(Z7 f T m l D t).pr t=T.pr t:=by show(if t<t then _ else T.pr t)=T.pr t;simp
 have a:(Z7 f T m l D t).rest (B5 f) t m=T.rest (B5 f) t m:=by delta Sx.Tb.rest;rw[d];rfl
 have p:=K.rsb t m b e;have u:=GX (T:=Z7 f T m l D t) b e (K.cl m e) (K.cb m e) (K.wb t m b e) K.sb (λq hq=>by rw[d];exact K.pb t q b hq);rw[a]at u;obtain⟨r,A,z⟩:=Az K.m1 (λi Q=>(K.pb t i b Q).mono f5) (λi Q=>(K.ib l i s Q).mono f5) ((o.neg.mul p).mono f5) ((o.mul (K.yo m l e s)).mono f5) (K.sb.mono f5) K.sp
 refine⟨iD (-D*T.rest (B5 f) t m),?_⟩;delta dI;have y:u6 8 (t6 N4 (gk bX (q9 4)) (aa (R1 "Table" "rest" U8 (R6 0) (f7 (q9 7) (f7 (q9 1) u3))))) [U (.ob w (B8 f (Z7 f T m l D t))),iD m,iD l,sd (.list (bx f T m)),iD D,iD (D*T.v8 (B5 f) m l),sd (il f.m (T.inv l)),iD t,x8,J]=U (.next [U (.ob w (B8 f (Z7 f T m l D t))),iD m,iD l,sd (.list (bx f T m)),iD D,iD (D*T.v8 (B5 f) m l),sd (il f.m (T.inv l)),iD t,iD (-D*T.rest (B5 f) t m),J]):=by
  walk_at "v";rw[rO (l:=[.int t,.int m]) rfl rfl (Ht f _) rfl,u];walk_at "v";simp only[LF,U7,x5,PV.vy];rw[C4 (o.neg.mono f5) (show Bt 60000 (T.rest (B5 f) t m)from p.mono f5)];rfl
 rw[A5,y,y8];rw[Gg (x:=vK f T m l D t) rfl ?_ z rfl b]
 . have:({Z7 f T m l D t with pr:=λj=>if j=t then vK f T m l D t else(Z7 f T m l D t).pr j}:Sx.Tb)=Z7 f T m l D (t+1):=by
     delta Z7;have:(λj=>if j=t then vK f T m l D t else if j<t then vK f T m l D j else T.pr j)=λj=>if j<t+1 then vK f T m l D j else T.pr j:=by
      funext j
      by_cases c:j=t;rw[f9 c,f9 z9,c];rw[f6 c];by_cases v:j<t;rw[f9 v,f9 eu];rw[f6 v,f6 r9]
     simp only[this]
   rw[this];rfl
 walk_at "v";rw[M9 _ b];walk_at "v";rw[d];exact A
theorem Vv(K:aW f T)(j:m<f.n)(Q:l<f.m)(P:T.full m=Uf->f.lim m≠J)(C:D=if 0<T.v8 (B5 f) m l then 1 else -1):
  dD [.ob J (B8 f T),.dat (.int (m:Int)),.dat (.int (l:Int)),.dat (.list (bx f T m))]=U (.dat .none,[U (.ob J (B8 f (W9 f T m l D))),J,J,J]):=by
 refine nU rfl λt=>?_
 have o:D=1\/D = -1:=by rw[C];split<;>simp
 have p:Bt 10 D:=by rcases o with h|h<;>rw[h]<;>exact⟨by decide⟩
 generalize a:(U (t 0):Option Addr)=w;generalize s:(oo (bx f T m))=PC;rw[show((cZ t 0 [PV.ob J (B8 f T),.dat (.int (m:Int)),.dat (.int (l:Int)),.dat PC]).map U++D3 (10-4) J:Ds)=[U (.ob (U (t 0)) (B8 f T)),iD (m:Int),iD (l:Int),sd PC,J,J,J,J,J,J]from rfl,a]
 have G:P5 (A8 (hZ "Table" 0 "full" (q9 1))) (P1 (O0 "Table" "flip" 0 P2 (O5 (q9 1) eN))) K0 [U (.ob w (B8 f T)),iD (m:Int),iD (l:Int),sd PC,J,J,J,J,J,J]=U (.next [U (.ob w (B8 f (S3 f T m))),iD (m:Int),iD (l:Int),sd PC,J,J,J,J,J,J]):=by
  have R:A8 (hZ "Table" 0 "full" (q9 1)) [U (.ob w (B8 f T)),iD (m:Int),iD (l:Int),sd PC,J,J,J,J,J,J]=U (T.full m):=by walk_at "v";rw[M9 _ j];walk_at "v"
  delta P5 S3;rw[R,x5];by_cases c:T.full m=Uf;rw[f9 c,f9 c];obtain⟨v,B⟩:=Option.ne_none_iff_exists'.mp (P c);rw[B];delta P1;rw[rE (xs:=[.int m]) rfl (wF f T) rfl (HS K j B)];rfl;rw[f6 c,f6 c];rfl
 have I:u6 4 (iH (A8 (t6 xV (t6 D5 (q9 3) (q9 2)) (fC (.int 0)))) (fC (.int 1)) (gk bX (fC (.int 1)))) [U (.ob w (B8 f (S3 f T m))),iD m,iD l,sd PC,J,J,J,J,J,J]=U (.next [U (.ob w (B8 f (S3 f T m))),iD m,iD l,sd PC,iD D,J,J,J,J,J]):=by subst s;walk_at "v";rw[M9 _ Q];walk_at "v";rw[C];split<;>rfl
 have E:u6 5 (t6 N4 (q9 4) (t6 D5 (q9 3) (q9 2))) [U (.ob w (B8 f (S3 f T m))),iD m,iD l,sd PC,iD D,J,J,J,J,J]=U (.next [U (.ob w (B8 f (S3 f T m))),iD m,iD l,sd PC,iD D,iD (D*T.v8 (B5 f) m l),J,J,J,J]):=by subst s;walk_at "v";rw[M9 _ Q];walk_at "v";rw[C4 (p.mono f5) ((K.yo m l j Q).mono f5)];rfl
 have S:u6 6 (t6 D5 (N0 "Table" 0 "inverse") (q9 2)) [U (.ob w (B8 f (S3 f T m))),iD m,iD l,sd PC,iD D,iD (D*T.v8 (B5 f) m l),J,J,J,J]=U (.next [U (.ob w (B8 f (Z7 f T m l D 0))),iD m,iD l,sd PC,iD D,iD (D*T.v8 (B5 f) m l),sd (il f.m (T.inv l)),J,J,J]):=by rw[a3w];walk_at "v";rw[M9 _ Q,(vH).2.2.1];rfl
 have A:∃b e,G7 (J9 (fC fS)) (K5 7) dI [U (.ob w (B8 f (Z7 f T m l D 0))),iD m,iD l,sd PC,iD D,iD (D*T.v8 (B5 f) m l),sd (il f.m (T.inv l)),J,J,J]=U (.next [U (.ob w (B8 f (Z7 f T m l D 3))),iD m,iD l,sd PC,iD D,iD (D*T.v8 (B5 f) m l),sd (il f.m (T.inv l)),b,e,J]):=by subst s;obtain⟨O,N⟩:=wm K j Q (t:=0) f5 o w J;obtain⟨M,Y⟩:=wm K j Q (t:=1) f5 o w O;obtain⟨W,x⟩:=wm K j Q (t:=2) f5 o w M;refine⟨iD 2,W,?_⟩;walk_at "v";rw[Q9 rfl N,Q9 rfl Y,Q9 rfl x];rfl
 obtain⟨b,e,A⟩:=A;have F:S6 9 (y9 (F3 av (f7 (N0 "Table" 0 "inverse") (f7 (q9 3) u3))) (O6 2) z0 gh) [U (.ob w (B8 f (Z7 f T m l D 3))),iD m,iD l,sd PC,iD D,iD (D*T.v8 (B5 f) m l),sd (il f.m (T.inv l)),b,e,J]=U (.next [U (.ob w (B8 f (Z7 f T m l D 3))),iD m,iD l,sd PC,iD D,iD (D*T.v8 (B5 f) m l),sd (il f.m (T.inv l)),b,e,U (.own (rl f.m λk=>il f.m λq=>(T.inv k q*(D*T.v8 (B5 f) m l)-(D*T.v8 (B5 f) m k)*T.inv l q).fdiv T.size))]):=by
  subst s;walk_at "v";rw[show(Z7 f T m l D 3).inv=T.inv from rfl,lq];walk_at "v";rw[f9 (bM K.m1),N5 λk u=>?_];rfl;obtain⟨r,x,H⟩:=Az K.m1 (λi z=>(K.ib k i u z).mono f5) (λi z=>(K.ib l i Q z).mono f5) ((p.mul (K.yo m k j u)).mono f5) ((p.mul (K.yo m l j Q)).mono f5) (K.sb.mono f5) K.sp;refine⟨_,r,rfl,?_,H⟩;delta gh;walk_at "v";rw[C4 (p.mono f5) ((K.yo m k j u).mono f5)];walk_at "v";exact x
 have Z:cq 9 (q9 2) (y9 (J9 (q9 6)) A1 z0 dE) [U (.ob w (B8 f (Z7 f T m l D 3))),iD m,iD l,sd PC,iD D,iD (D*T.v8 (B5 f) m l),sd (il f.m (T.inv l)),b,e,U (.own (rl f.m λk=>il f.m λq=>(T.inv k q*(D*T.v8 (B5 f) m l)-(D*T.v8 (B5 f) m k)*T.inv l q).fdiv T.size))]=U (.next [U (.ob w (B8 f (Z7 f T m l D 3))),iD m,iD l,sd PC,iD D,iD (D*T.v8 (B5 f) m l),sd (il f.m (T.inv l)),b,e,U (.own (rl f.m λk=>il f.m (dU f T m l D k)))]):=by
  have L:y9 (J9 (q9 6)) A1 z0 dE [U (.ob w (B8 f (Z7 f T m l D 3))),iD m,iD l,sd PC,iD D,iD (D*T.v8 (B5 f) m l),sd (il f.m (T.inv l)),b,e,U (.own (rl f.m λk=>il f.m λq=>(T.inv k q*(D*T.v8 (B5 f) m l)-(D*T.v8 (B5 f) m k)*T.inv l q).fdiv T.size))]=U (.own (rl f.m λq=>.int (D*T.inv l q))):=by
   walk_at "v";rw[f9 (bM K.m1),N5 λq hq=>⟨_,_,rfl,by delta dE;walk_at "v";rw[C4 (p.mono f5) ((K.ib l q Q hq).mono f5)],rfl⟩];rfl
  delta cq;rw[L,x5];show(jd (rl f.m _).length l).bind _=_
  rw[G8,iF Q,x5,iY];have:(rl f.m λk=>if k=l then PV.d (.own (rl f.m λq=>.int (D*T.inv l q)))else il f.m λq=>(T.inv k q*(D*T.v8 (B5 f) m l)-(D*T.v8 (B5 f) m k)*T.inv l q).fdiv T.size)=rl f.m λk=>il f.m (dU f T m l D k):=bJ λk _=>by
   by_cases c:k=l
   . rw[f9 c];show il f.m _=_
     congr 2
     funext q
     delta dU;rw[f9 c]
   . rw[f6 c]
     congr 2
     funext q
     delta dU;rw[f6 c]
  rw[this];rfl
 have X:ya 9 (X5 "Table" 0 "inverse" jm (q9 9)) [U (.ob w (B8 f (Z7 f T m l D 3))),iD m,iD l,sd PC,iD D,iD (D*T.v8 (B5 f) m l),sd (il f.m (T.inv l)),b,e,U (.own (rl f.m λk=>il f.m (dU f T m l D k)))]=U (.next [U (.ob w (B8 f {Z7 f T m l D 3 with inv:=dU f T m l D})),iD m,iD l,sd PC,iD D,iD (D*T.v8 (B5 f) m l),sd (il f.m (T.inv l)),b,e,sd (.list (rl f.m λk=>il f.m (dU f T m l D k)))]):=by walk_at "v";rw[f9 (by delta J2;simp),IL]
 have V:X5 "Table" 0 "size" jm (q9 5) [U (.ob w (B8 f {Z7 f T m l D 3 with inv:=dU f T m l D})),iD m,iD l,sd PC,iD D,iD (D*T.v8 (B5 f) m l),sd (il f.m (T.inv l)),b,e,sd (.list (rl f.m λk=>il f.m (dU f T m l D k)))]=U (.next [U (.ob w (B8 f {Z7 f T m l D 3 with inv:=dU f T m l D,size:=D*T.v8 (B5 f) m l})),iD m,iD l,sd PC,iD D,iD (D*T.v8 (B5 f) m l),sd (il f.m (T.inv l)),b,e,sd (.list (rl f.m λk=>il f.m (dU f T m l D k)))]):=by walk_at "v";rw[f9 (by delta J2;simp),Wh]
 have y:cu "Table" 0 "chosen" (q9 2) (q9 1) [U (.ob w (B8 f {Z7 f T m l D 3 with inv:=dU f T m l D,size:=D*T.v8 (B5 f) m l})),iD m,iD l,sd PC,iD D,iD (D*T.v8 (B5 f) m l),sd (il f.m (T.inv l)),b,e,sd (.list (rl f.m λk=>il f.m (dU f T m l D k)))]=U (.next [U (.ob w (B8 f (W9 f T m l D))),iD m,iD l,sd PC,iD D,iD (D*T.v8 (B5 f) m l),sd (il f.m (T.inv l)),b,e,sd (.list (rl f.m λk=>il f.m (dU f T m l D k)))]):=by rw[Gh rfl rfl rfl rfl Q];rfl
 rw[A5,G,y8,A5,I,y8,A5,E,y8,A5,S,y8,A5,A,y8,A5,F,y8,A5,Z,y8,A5,X,y8,A5,V,y8,y];subst a;simp only[x5,mm,S7,U7]
end
section
variable{T:Sx.Tb}
theorem CZ(s:eV):D5 (T1 s) (.int 3)=sd (optN s.pl):=rfl
theorem Si(K:aW f T)(d:m<f.n)(e:f.lim m=U D)(hs:C.pl=J):
  me [.ob J (B8 f T),.dat (.int (m:Int)),.dat S,.dat (T1 C)]=U (.dat .none,[U (.ob J (B8 f (kR f T m (-(T.sg m*D))))),J,J,J]):=by
 refine nU rfl λt=>?_;rw[show((cZ t 0 [PV.ob J (B8 f T),.dat (.int m),.dat S,.dat (T1 C)]).map U++D3 (4-4) J)=[U (.ob (U (t 0)) (B8 f T)),iD m,sd S,sd (T1 C)]from rfl]
 generalize b:(U (t 0))=w;have c:P5 (A8 (t6 iG (t6 D5 (q9 3) (fC (.int 3))) (fC .none))) (t7 (P1 (O0 "Table" "flip" 0 P2 (O5 (q9 1) eN))) lB) K0 [U (.ob w (B8 f T)),iD m,sd S,sd (T1 C)]=U (.retO (.dat .none) [U (.ob w (B8 f (kR f T m (-(T.sg m*D))))),iD m,sd S,sd (T1 C)]):=by
  have Q:A8 (t6 iG (t6 D5 (q9 3) (fC (.int 3))) (fC .none)) [U (.ob w (B8 f T)),iD m,sd S,sd (T1 C)]=U Uf:=by walk_at "v";rw[CZ,hs];rfl
  delta P5;rw[Q,x5,f9 rfl,A5];delta P1;rw[rE (xs:=[.int m]) rfl (wF f T) rfl (HS K d e)];rfl
 rw[A5,c];subst b;show(U (Out.retO _ _)).bind _=_;simp only[x5,mm,S7,U7]
theorem Hy(K:aW f T){v:Int}(p:m<f.n)(o:l<f.m)(hs:C.pl=U l)(x:T.full m=Uf->f.lim m≠J)(q:D=if 0<T.v8 (B5 f) m l then 1 else -1)(e:C.ch<f.n)(h:C.tp=Uf->f.lim C.ch=U v):
  me [.ob J (B8 f T),.dat (.int (m:Int)),.dat (.list (bx f T m)),.dat (T1 C)]=U (.dat .none,[U (.ob J (B8 f (if C.tp=Uf then kR f (W9 f T m l D) C.ch (-((W9 f T m l D).sg C.ch*v))else W9 f T m l D))),J,J,J]):=by
 refine nU rfl λt=>?_;generalize r:(oo (bx f T m))=PC;rw[show((cZ t 0 [PV.ob J (B8 f T),.dat (.int m),.dat PC,.dat (T1 C)]).map U++D3 (4-4) J)=[U (.ob (U (t 0)) (B8 f T)),iD m,sd PC,sd (T1 C)]from rfl]
 generalize i:(U (t 0))=w;have j:P5 (A8 (t6 iG (t6 D5 (q9 3) (fC (.int 3))) (fC .none))) (t7 (P1 (O0 "Table" "flip" 0 P2 (O5 (q9 1) eN))) lB) K0 [U (.ob w (B8 f T)),iD m,sd PC,sd (T1 C)]=U (.next [U (.ob w (B8 f T)),iD m,sd PC,sd (T1 C)]):=by
  have Q:A8 (t6 iG (t6 D5 (q9 3) (fC (.int 3))) (fC .none)) [U (.ob w (B8 f T)),iD m,sd PC,sd (T1 C)]=U U':=by walk_at "v";rw[CZ,hs];rfl
  delta P5;rw[Q];rfl
 have u:P1 (O0 "Table" "turn" 0 dD (O5 (q9 1) (O5 (t6 D5 (q9 3) (fC (.int 3))) (O5 (q9 2) eN)))) [U (.ob w (B8 f T)),iD m,sd PC,sd (T1 C)]=U (.next [U (.ob w (B8 f (W9 f T m l D))),iD m,sd PC,sd (T1 C)]):=by
  delta P1;have b:O5 (q9 1) (O5 (t6 D5 (q9 3) (fC (.int 3))) (O5 (q9 2) eN)) [U (.ob w (B8 f T)),iD m,sd PC,sd (T1 C)]=U (([.int m,.int l,PC]).map AV.d):=by walk_at "v";rw[CZ,hs];rfl
  rw[rE rfl (RW f T) b (by subst r;exact Vv K p o x q)];rfl
 have y:P5 (A8 (t6 D5 (q9 3) (fC (.int 4)))) (P1 (O0 "Table" "flip" 0 P2 (O5 (t6 D5 (q9 3) (fC (.int 2))) eN))) K0 [U (.ob w (B8 f (W9 f T m l D))),iD m,sd PC,sd (T1 C)]=U (.next [U (.ob w (B8 f (if C.tp=Uf then kR f (W9 f T m l D) C.ch (-((W9 f T m l D).sg C.ch*v))else W9 f T m l D))),iD m,sd PC,sd (T1 C)]):=by
  have Q:A8 (t6 D5 (q9 3) (fC (.int 4))) [U (.ob w (B8 f (W9 f T m l D))),iD m,sd PC,sd (T1 C)]=U C.tp:=by rfl
  delta P5;rw[Q,x5];by_cases c:C.tp=Uf
  . rw[f9 c,f9 c];delta P1;have b:O5 (t6 D5 (q9 3) (fC (.int 2))) eN [U (.ob w (B8 f (W9 f T m l D))),iD m,sd PC,sd (T1 C)]=U (([.int C.ch]).map AV.d):=by rfl
    rw[rE rfl (wF f _) b (HR e (h c) ((K.lb _ v e (h c)).mono f5) (K.cb _ e))];rfl
  rw[f6 c,f6 c];rfl
 rw[A5,j,y8,A5,u,y8,y];subst i;simp only[x5,mm,S7,U7]
noncomputable def bL(Q:V3)(T:Sx.Tb)(tp:Nat->Option Q2):Nat->Nat->Q2
 | 0,j=>if T.full j=Uf then(tp j).getD q0 else q0
 |i+1,j=>if j=T.B i then D8 (T.am (B5 Q) i*Q.sc (T.B i)) (T.size*Q.un)else bL Q T tp i j
theorem a0n(K:aW f T){tp:Nat->Option Q2}(hs:∀j,j<f.n->Bt 7000 (f.sc j))(o:Bt 900 f.un)(hz:Bt 7000 T.size)(x:0<f.un)(u:∀j,j<f.n->T.full j=Uf->tp j≠J):
  cN [E4 f T,.list (rl f.n λj=>X1 (tp j))]=U (.own (rl f.n λj=>fr (bL f T tp f.m j))):=by
 have w:Bt 8000 (T.size*f.un):=(hz.mul o).mono f5;have a:T.size*f.un≠0:=by have:=K9 K.sp x;exact K8
 delta cN;walk_at "v";rw[lq];walk_at "v";rw[f9 (bM K.n1),N5 (g:=λj=>fr (bL f T tp 0 j)) λj p=>⟨_,if T.full j=Uf then .dat (X1 (tp j))else .dat M4,rfl,by
  delta sr;walk_at "v";split<;>rfl,by
  show PV.d _=fr (if T.full j=Uf then(tp j).getD q0 else q0);by_cases c:T.full j=Uf;rw[f9 c,f9 c];obtain⟨v,s⟩:=Option.ne_none_iff_exists'.mp (u j p c);rw[s];rfl
  . rw[f6 c,f6 c];rfl⟩]
 walk_at "v";rw[rO rfl rfl (xH f T) rfl,yw K];walk_at "v";rw[lq];walk_at "v";obtain⟨q,h,x3,b,rfl⟩:=cM (gt:=Y8 2 (C2 3 (C2 4 Y9))) (G:=mW) (items:=rl f.m λi=>.tuple [.int (T.B i),.int (T.am (B5 f) i)])
  (λi l=>∃x3 b,l=[sd (E4 f T),sd (.list (rl f.n λj=>X1 (tp j))),U (.own (rl f.n λj=>fr (bL f T tp i j))),x3,b])
  ⟨J,J,rfl⟩ (by
   rintro i d l r ⟨x3,b,rfl⟩;obtain⟨Q,rfl⟩:=xw r;have e:=K.bn i Q;refine⟨[sd (E4 f T),sd (.list (rl f.n λj=>X1 (tp j))),U (.own (rl f.n λj=>fr (bL f T tp i j))),iD (T.B i),iD (T.am (B5 f) i)],[sd (E4 f T),sd (.list (rl f.n λj=>X1 (tp j))),U (.own (rl f.n λj=>fr (bL f T tp (i+1) j))),iD (T.B i),iD (T.am (B5 f) i)],rfl,.inl ?_,_,_,rfl⟩
   delta mW;have t:q5 V2 (f7 (t6 N4 (q9 4) (t6 D5 (F5 "Table" "scales" (q9 0)) (q9 3))) (f7 (t6 N4 (F5 "Table" "size" (q9 0)) (F5 "Table" "unit" (q9 0))) u3)) [sd (E4 f T),sd (.list (rl f.n λj=>X1 (tp j))),U (.own (rl f.n λj=>fr (bL f T tp i j))),iD (T.B i),iD (T.am (B5 f) i)]=sd (fr (D8 (T.am (B5 f) i*f.sc (T.B i)) (T.size*f.un))):=by walk_at "v";rw[M9 _ e];walk_at "v";rw[C4 ((K.ab i Q).mono f5) ((hs _ e).mono f5),C4 (hz.mono f5) (o.mono f5)];walk_at "v";rw[gG a w]
   delta cq;rw[t,x5];show(jd (rl f.n _).length (T.B i)).bind _=_
   rw[G8,iF e,x5,iY];have:(rl f.n λk=>if k=T.B i then PV.d (.dat (fr (D8 (T.am (B5 f) i*f.sc (T.B i)) (T.size*f.un))))else fr (bL f T tp i k))=rl f.n λj=>fr (bL f T tp (i+1) j):=bJ λk _=>by rw[bL];split<;>rfl
   rw[this];rfl)
 rw[G8]at h;rw[h];walk_at "v"
noncomputable def aR(Q:V3)(T:Sx.Tb)(p:Nat):Tr:=⟨D8 (T.pr 0 p) (T.size*Q.mu 0),D8 (T.pr 1 p) (T.size*Q.mu 1),D8 (T.pr 2 p) (T.size*Q.mu 2)⟩
theorem Rl(K:aW f T)(d:m<f.m)(Q:∀t,t<3->0<f.mu t/\Bt 900 (f.mu t)):jQ [E4 f T,.int (m:Int)]=sd (K7 (aR f T m)):=by
 have one:∀t:Nat,t<3->fF [iD t,sd (E4 f T),iD m,J]=sd (fr (D8 (T.pr t m) (T.size*f.mu t))):=λt b=>by
  obtain⟨m0,m1⟩:=Q t b;have a:T.size*f.mu t≠0:=by have:=K9 K.sp m0;exact K8
  delta fF;walk_at "v";rw[M9 _ b];walk_at "v";rw[M9 _ d,M9 _ b];walk_at "v";rw[C4 (K.sb.mono f5) (m1.mono f5)];walk_at "v";rw[gG a ((K.sb.mul m1).mono f5)]
 delta jQ;walk_at "v";have e:P4 A1 z0 fF [sd (E4 f T),iD m,J] [.int 0,.int 1,.int 2]=U [fr (D8 (T.pr 0 m) (T.size*f.mu 0)),fr (D8 (T.pr 1 m) (T.size*f.mu 1)),fr (D8 (T.pr 2 m) (T.size*f.mu 2))]:=by
  have:=N5 (gt:=A1) λi c=>⟨_,_,rfl,one i c,rfl⟩;exact this
 rw[e];rfl
theorem zP(x:p9)(h:m<=1000):eS (.list [x]) (.int (m:Int))=U (.own (rl m λ_=>x)):=by
 show(if (0<=(m:Int)/\(m:Int).toNat<=100000)/\[x].length*(m:Int).toNat<=100000 then U (PV.own (D3 (m:Int).toNat [x]).flatten)else J)=_;rw[f9 ⟨⟨by simp[*],pd⟩,by rw[fY,FA];lia⟩,fY,YX]
noncomputable def dR(Q:V3)(T:Sx.Tb)(a:Nat):Nat->Nat->Q2
 | 0,j=>if j=a then(Q.sc a,1)else q0
 |i+1,j=>if j=T.B i then D8 (-T.v8 (B5 Q) a i*Q.sc (T.B i)) T.size else dR Q T a i j
theorem Yl(K:aW f T)(b:m<f.n)(hs:∀j,j<f.n->Bt 7000 (f.sc j)):kL [E4 f T,.int (m:Int),.list (bx f T m)]=U (.own (rl f.n λj=>fr (dR f T m f.m j))):=by
 have s:S6 3 (t6 eS (N9 (f7 (fC M4) u3)) (q5 E2 (f7 (F5 "Table" "full" (q9 0)) u3))) [sd (E4 f T),iD m,sd (.list (bx f T m)),J,J,J]=U (.next [sd (E4 f T),iD m,sd (.list (bx f T m)),U (.own (rl f.n λ_=>M4)),J,J]):=by walk_at "v";rw[G8];rw[zP _ K.n1];rfl
 have r:cq 3 (q9 1) (x9 (f7 (t6 D5 (F5 "Table" "scales" (q9 0)) (q9 1)) (f7 (fC (.int 1)) u3))) [sd (E4 f T),iD m,sd (.list (bx f T m)),U (.own (rl f.n λ_=>M4)),J,J]=U (.next [sd (E4 f T),iD m,sd (.list (bx f T m)),U (.own (rl f.n λj=>fr (dR f T m 0 j))),J,J]):=by
  have c:x9 (f7 (t6 D5 (F5 "Table" "scales" (q9 0)) (q9 1)) (f7 (fC (.int 1)) u3)) [sd (E4 f T),iD m,sd (.list (bx f T m)),U (.own (rl f.n λ_=>M4)),J,J]=sd (fr (f.sc m,1)):=by walk_at "v";rw[M9 _ b];walk_at "v"
  delta cq;rw[c,x5];show(jd (rl f.n _).length m).bind _=_
  rw[G8,iF b,x5,iY];have:(rl f.n λk=>if k=m then PV.d (.dat (fr (f.sc m,1)))else M4)=rl f.n λj=>fr (dR f T m 0 j):=bJ λk _=>by rw[dR];split<;>rfl
  rw[this];rfl
 obtain⟨p,l,e,g,rfl⟩:=cM (gt:=Y8 2 (C2 4 (C2 5 Y9))) (G:=mV) (items:=rl f.m λi=>.tuple [.int (T.B i),.int (T.v8 (B5 f) m i)])
  (λi o=>∃e g,o=[sd (E4 f T),iD m,sd (.list (bx f T m)),U (.own (rl f.n λj=>fr (dR f T m i j))),e,g])
  ⟨J,J,rfl⟩ (by
   rintro i d o q ⟨e,g,rfl⟩;obtain⟨h,rfl⟩:=xw q;have Q:=K.bn i h;refine⟨[sd (E4 f T),iD m,sd (.list (bx f T m)),U (.own (rl f.n λj=>fr (dR f T m i j))),iD (T.B i),iD (T.v8 (B5 f) m i)],[sd (E4 f T),iD m,sd (.list (bx f T m)),U (.own (rl f.n λj=>fr (dR f T m (i+1) j))),iD (T.B i),iD (T.v8 (B5 f) m i)],rfl,.inl ?_,_,_,rfl⟩
   delta mV;have c:q5 V2 (f7 (t6 N4 (gk bX (q9 5)) (t6 D5 (F5 "Table" "scales" (q9 0)) (q9 4))) (f7 (F5 "Table" "size" (q9 0)) u3)) [sd (E4 f T),iD m,sd (.list (bx f T m)),U (.own (rl f.n λj=>fr (dR f T m i j))),iD (T.B i),iD (T.v8 (B5 f) m i)]=sd (fr (D8 (-T.v8 (B5 f) m i*f.sc (T.B i)) T.size)):=by walk_at "v";rw[M9 _ Q];walk_at "v";rw[C4 (((K.yo m i b h).mono f5).neg) ((hs _ Q).mono f5)];walk_at "v";rw[gG (by have:=K.sp;exact K8) (K.sb.mono f5)]
   delta cq;rw[c,x5];show(jd (rl f.n _).length (T.B i)).bind _=_
   rw[G8,iF Q,x5,iY];have:(rl f.n λk=>if k=T.B i then PV.d (.dat (fr (D8 (-T.v8 (B5 f) m i*f.sc (T.B i)) T.size)))else fr (dR f T m i k))=rl f.n λj=>fr (dR f T m (i+1) j):=bJ λk _=>by rw[dR];split<;>rfl
   rw[this];rfl)
 rw[G8]at l;delta kL J3;rw[f9 (by rfl),show(S8 [E4 f T,.int m,.list (bx f T m)]++D3 (6-3) J:Ds)=[sd (E4 f T),iD m,sd (.list (bx f T m)),J,J,J]from rfl,A5,s,y8,A5,r,y8];walk_at "v";rw[lq];walk_at "v";rw[l];walk_at "v"
end
def qw(c x:Int):Int:=(D8 c x).1*x
def UW(l:List Int):Int:=l.foldl qw 1
theorem Nu(y:0<E)(f:0<M)(i:E∣D)(g:M∣D):0<qw E M/\E∣qw E M/\M∣qw E M/\qw E M∣D:=by
 obtain⟨j,l,s,o⟩:=Z8 f;delta qw;generalize (D8 E M).1=p at *;generalize (D8 E M).2=q at *;obtain⟨r,b⟩:=o;have hq:q≠0:=by lia
 have a:E=p*r:=by
  have:q*(p*r)=q*E:=by rw[b]at s;grind
  exact(zu hq this).symm
 have G9:0<r:=by
  rcases eI 0 r with h|h
  exact h;have:=sf (T7 j) h;lia
 have d:0<p:=by
  rcases eI 0 p with h|h
  exact h;have:=Po h (T7 G9);lia
 refine⟨K9 d f,⟨q,by omega⟩,⟨p,J5 _ _⟩,?_⟩
 obtain⟨u,e⟩:=i;obtain⟨v,t⟩:=g;have k:p*u=q*v:=by
  have:r*(p*u)=r*(q*v):=by rw[a]at e;rw[b]at t;grind
  exact zu K8 this
 have n:q∣u:=by
  have:q∣p*u:=⟨v,k⟩;have h:=Int.natAbs_dvd_natAbs.mpr this;rw[cX]at h;refine Int.natAbs_dvd_natAbs.mp (Nat.Coprime.dvd_of_dvd_mul_left ?_ h);show Nat.gcd q.natAbs p.natAbs=1;rw[Nat.gcd_comm];exact l
 obtain⟨w,m⟩:=n;exact⟨w,by rw[e,a,m,b];grind⟩
theorem BJ:∀(l:List Int) (c:Int),0<c->c∣D->(∀x∈l,0<x/\x∣D)->0<l.foldl qw c/\c∣l.foldl qw c/\(∀x∈l,x∣l.foldl qw c)/\l.foldl qw c∣D:=by
 intro l_;induction l_ with
 |nil =>
  intro c h1 h2 _;exact⟨h1,eH _,λx k=>absurd k B3,h2⟩
 |cons x l ih_ =>
  intro c h1 h2 h3;obtain⟨d,h⟩:=h3 x D1;obtain⟨i,j,n,m⟩:=Nu h1 d h2 h;obtain⟨e,b,f,g⟩:=ih_ (qw c x) i m λy a=>h3 y (C6 _ a);refine⟨e,gS j b,λy a=>?_,g⟩
  rcases List.mem_cons.mp a with rfl|a
  exact gS n b;exact f y a
theorem tV(hD:0<D)(a:0<E)(h:E∣D)(b:Bt m D):Bt m E:=b.of_le (by have:=fV hD h;omega)
theorem mr(hD:0<D)(i:Bt 7000 D)(h:∀x∈a8,0<x/\x∣D):N1 [.list (a8.map .int)]=sd (.int (UW a8)):=by
 have d:∀(k:List Int) c L x,0<c->c∣D->(∀x∈k,0<x/\x∣D)->∃j,W7 (K5 2) Z6 (k.map .int) [sd L,iD c,x]=U (.next [sd L,iD (k.foldl qw c),j]):=by
  intro k;induction k with
  |nil=>exact λc L x _ _ _=>⟨x,rfl⟩
  |cons y k o =>
   intro c L x g f n;obtain⟨b,m⟩:=n y D1;obtain⟨p,s,t,q⟩:=Nu g b f m;have a:=tV hD b m i;have e:Z6 [sd L,iD c,iD y]=U (.next [sd L,iD (qw c y),iD y]):=by delta Z6;walk_at "r";rw[gG K8 (a.mono f5)];walk_at "r";rw[C4 ((fh b (tV hD g f i) a).bt.mono f5) (a.mono f5)];rfl
   rw[C7,Q9 rfl e,ED];exact o _ L _ p q λz r=>n z (C6 _ r)
 obtain⟨j,e⟩:=d a8 1 (.list (a8.map .int)) J f5 ⟨D,by simp[*]⟩ h;delta N1;walk_at "r";rw[e];rfl
def wh(q:Q2)(b:Int):Int:=q.1*b.fdiv q.2
theorem rj(e:Bt 7000 o.1)(c:Bt 7000 o.2)(a:o.2≠0)(d:Bt 7000 D):iM [fr o,.int D]=sd (.int (wh o D)):=by delta iM;walk_at "r";rw[L8 a (c.mono f5)];walk_at "r";rw[C4 (e.mono f5) (d.fdiv.mono f5)];rfl
theorem xh(h:0<o.2)(hd:o.2∣D):wh o D*o.2=o.1*D:=by obtain⟨c,a⟩:=hd;delta wh;rw[a,OY _ K8];grind
structure F4 where
 m:Nat
 n:Nat
 cost:Nat->Tr
 row:Nat->Nat->Q2
 rg:Nat->Q2
 tp:Nat->Option Q2
 fs:Nat->Nat
variable{e:F4}
def R4(x:Tr):Nat->Q2
 | 0=>x.a
 | 1=>x.b
 | 2=>x.c
 |_=>q0
theorem a0B(x:Tr)(h:m<3):D5 (K7 x) (.int (m:Int))=sd (fr (R4 x m)):=by rcases(by lia:m=0\/m=1\/m=2)with rfl|rfl|rfl<;>rfl
def F4.sc(I:F4)(j:Nat):Int:=UW ((D0 I.m).map λp=>(I.row p j).2)
def F4.bY(I:F4)(j:Nat):Nat->List (Nat×Int)
 | 0=>[]
 |i+1=>I.bY j i++(if I.row i j≠q0 then[(i,wh (I.row i j) (I.sc j))]else[])
def F4.wq(I:F4)(t j:Nat):Q2:=N3 (R4 (I.cost j) t) (I.sc j,1)
def F4.mu(I:F4)(t:Nat):Int:=UW ((D0 I.n).map λj=>(I.wq t j).2)
def F4.wt(I:F4)(t j:Nat):Int:=wh (I.wq t j) (I.mu t)
def F4.hq(I:F4)(j:Nat):Option Q2:=(I.tp j).map λq=>N3 q (1,I.sc j)
def F4.pR(I:F4):List Int:=((D0 I.m).map λp=>(I.rg p).2)++(D0 I.n).filterMap λj=>(I.hq j).map (·.2)
def F4.un(I:F4):Int:=UW I.pR
def F4.lim(I:F4)(j:Nat):Option Int:=(I.hq j).map λq=>wh q I.un
def F4.b(I:F4)(p:Nat):Int:=wh (I.rg p) I.un
def F4.J8(I:F4):V3:=⟨I.m,I.n,I.sc,λj=>I.bY j I.m,I.mu,I.wt,I.un,I.lim⟩
def F4.tab(I:F4):Sx.Tb:=⟨I.fs,λ_=>U',1,λk q=>if k=q then 1 else 0,λt k=>I.wt t (I.fs k),I.b⟩
structure E8(I:F4)(D E F:Int):Prop where
 m1:I.m<=1000
 n1:I.n<=1000
 d0:0<D
 e0:0<E
 f0:0<F
 db:Bt 900 D
 eb:Bt 900 E
 fb:Bt 900 F
 row:∀p j,p<I.m->j<I.n->B4 800 (I.row p j)/\(I.row p j).2∣D
 cost:∀t j,t<3->j<I.n->B4 800 (R4 (I.cost j) t)/\(R4 (I.cost j) t).2∣E
 rg:∀p,p<I.m->B4 800 (I.rg p)/\(I.rg p).2∣F
 tp:∀j q,j<I.n->I.tp j=U q->B4 800 q/\∀s,s∣D->q.2*s∣F
 fs:∀k,k<I.m->I.fs k<I.n
theorem E8.sc(H:E8 e D E M)(f:m<e.n):0<e.sc m/\e.sc m∣D/\Bt 900 (e.sc m)/\∀p,p<e.m->(e.row p m).2∣e.sc m:=by
 have:=BJ (D:=D) ((D0 e.m).map λp=>(e.row p m).2) 1 f5 ⟨D,by simp[*]⟩ λx I=>by obtain⟨p,a,rfl⟩:=mem_map.mp I;have:=H.row p m (mem_range.mp a) f;exact⟨this.1.pos,this.2⟩
 obtain⟨b,g,d,c⟩:=this;exact⟨b,c,tV H.d0 b c H.db,λp a=>d _ (mem_map.mpr ⟨p,mem_range.mpr a,rfl⟩)⟩
theorem Qu(H:E8 e D E M)(b:m<e.n):jP [.list (rl e.m λp=>.list (rl e.n λm=>fr (e.row p m))),.int (m:Int)]=sd (.int (e.sc m)):=by
 delta jP;walk_at "r";rw[f9 (bM H.m1),N5 λp a=>⟨_,.dat (.int (e.row p m).2),rfl,by delta oP;walk_at "r";rw[M9 _ b];walk_at "r",rfl⟩]
 walk_at "r";have I:(rl e.m λp=>Z0 (e.row p m).2)=((D0 e.m).map λp=>(e.row p m).2).map Z0:=by rw[cW];rfl
 rw[I,mr H.d0 (H.db.mono f5) λx c=>by obtain⟨p,a,rfl⟩:=mem_map.mp c;have:=H.row p m (mem_range.mp a) b;exact⟨this.1.pos,this.2⟩];rfl
theorem a0l(p q:Q2):gx (fr p) (fr q)=sd (.bool (decide (p≠q))):=Hx p q
theorem Nt(H:E8 e D E M)(s:m<e.n):gU [.list (rl e.m λp=>.list (rl e.n λm=>fr (e.row p m))),.int (m:Int),.int (e.sc m)]=U (.own ((e.bY m e.m).map λI=>.tuple [.int (I.1:Int),.int I.2])):=by
 obtain⟨_,_,G,_⟩:=H.sc s;have u:∀k,k<=e.m->P4 (O6 2) Y5 Y7 [sd (.list (rl e.m λp=>.list (rl e.n λm=>fr (e.row p m)))),iD m,iD (e.sc m)] ((rl e.m λi=>.tuple [.int (0+i),.list (rl e.n λm=>fr (e.row i m))]).take k)=U ((e.bY m k).map λI=>.tuple [.int I.1,.int I.2]):=by
  have w:∀(q g o f) d,P4 (O6 2) Y5 Y7 d q=U o->P4 (O6 2) Y5 Y7 d g=U f->P4 (O6 2) Y5 Y7 d (q++g)=U (o++f):=by
   intro q;induction q with
   |nil=>intro g o f d a r;cases a;exact r
   |cons x q t =>
    intro g o f d a r;rw[aZ];unfold P4 at a ⊢;obtain⟨bs,K,a⟩:=r4 a;obtain⟨b,L,a⟩:=r4 a;rw[K,x5,L,x5];cases b with
    |false =>
     exact t g o f d a r
    |true =>
     obtain⟨y,C,a⟩:=r4 a;obtain⟨l,B,a⟩:=r4 a;cases a;rw[C,x5,t g l f d B r];rfl
  intro k;induction k with
  |zero=>intro _;rfl
  |succ k t =>
   intro O;have h:k<e.m:=by lia
   obtain⟨v,N⟩:=H.row k m h s;have A:(rl e.m λi=>eG [.int (0+i),.list (rl e.n λm=>fr (e.row i m))]).take (k+1)=(rl e.m λi=>eG [.int (0+i),.list (rl e.n λm=>fr (e.row i m))]).take k++[.tuple [.int (0+k),.list (rl e.n λm=>fr (e.row k m))]]:=by rw[List.take_succ,L1,oH h];rfl
   rw[A,F4.bY,Z2];refine w _ _ _ _ _ (t eR) ?_;unfold P4;simp only[O6,Y2,jD,U7,x5];have eq:Y5 (S8 [.int (0+k),.list (rl e.n λm=>fr (e.row k m))]++[sd (.list (rl e.m λp=>.list (rl e.n λm=>fr (e.row p m)))),iD m,iD (e.sc m)])=U (decide (e.row k m≠q0)):=by unfold Y5;walk_at "r";rw[M9 _ s];walk_at "r";rw[a0l (e.row k m) q0];walk_at "r"
   rw[eq,x5];by_cases c:e.row k m=q0;rw[f6 (by simp[c]),f6 (λz=>z c)];rfl
   . rw[f9 (by simpa using c),f9 c]
     have F:Y7 (S8 [.int (0+k),.list (rl e.n λm=>fr (e.row k m))]++[sd (.list (rl e.m λp=>.list (rl e.n λm=>fr (e.row p m)))),iD m,iD (e.sc m)])=sd (.tuple [.int (0+k),.int (wh (e.row k m) (e.sc m))]):=by
      unfold Y7;walk_at "r";rw[M9 _ s];walk_at "r";rw[rj (v.bt.mono f5) (v.bb.mono f5) (by have:=v.pos;exact K8) (G.mono f5)];walk_at "r"
     rw[F,x5];simp only[P4,x5,C7,qJ,Y1,PV.vy]
 have:=u e.m E7;rw[FG (by rw[G8];simp[*])]at this;unfold gU;walk_at "r";rw[vw,f9 (bM H.m1),this];rfl
theorem Tq(I:F4)(j:Nat):∀k e,e∈I.bY j k->e.1<k/\e.2=wh (I.row e.1 j) (I.sc j):=by
 intro l_;induction l_ with
 |zero =>
  intro e h;exact absurd h (by simp[F4.bY])
 |succ k ih_ =>
  intro e h;rcases List.mem_append.mp h with h|h
  have:=ih_ e h;exact⟨by lia,this.2⟩
  simp_all
theorem Ts(I:F4)(j:Nat):∀k,(I.bY j k).length<=k:=by
 intro l_;induction l_ with
 |zero =>
  simp[F4.bY]
 |succ k ih_ =>
  have:=ih_;rw[F4.bY,au];split<;>simp<;>omega
theorem Tp(c d:List (Nat×Int))(r:Nat):N6 (c++d) r=N6 c r+N6 d r:=by
 induction c with
 |nil=>simp[N6]
 |cons e c a=>rw[aZ,N6,N6,a];lia
theorem Nr(I:F4)(j p:Nat):∀k,N6 (I.bY j k) p=if p<k then wh (I.row p j) (I.sc j)else 0:=by
 intro l_;induction l_ with
 |zero =>
  rfl
 |succ k ih_ =>
  rw[F4.bY,Tp,ih_];by_cases c:p=k;subst c;have g:(if p<p then wh (I.row p j) (I.sc j)else 0)=0:=f6 z9;have f:(if p<p+1 then wh (I.row p j) (I.sc j)else 0)=wh (I.row p j) (I.sc j):=f9 z9;rw[g,f];by_cases z:I.row p j=q0;have a:(if I.row p j≠q0 then[(p,wh (I.row p j) (I.sc j))]else[])=[]:=f6 (λy=>y z);rw[a,z];show 0+0=0*_;simp[*];have a:(if I.row p j≠q0 then[(p,wh (I.row p j) (I.sc j))]else[])=[(p,wh (I.row p j) (I.sc j))]:=f9 z;rw[a];simp[N6]
  . have e:N6 (if I.row k j≠q0 then[(k,wh (I.row k j) (I.sc j))]else[]) p=0:=by
      split;have d:¬k=p:=λz=>c z.symm;simp[N6,d];rfl
    rw[e];by_cases b:p<k;rw[f9 b,f9 eu];simp[*];rw[f6 b,f6 r9];rfl
theorem xM:∀fs:List (Str×PF),(fs.map (·.1)).contains B=U'->D2 B fs=J:=by
 intro l_;induction l_ with
 |nil =>
  intro _;exact rfl
 |cons a_ r ih_ =>
  obtain⟨g,x⟩:=a_;intro h;rw[C7,List.contains_cons,Oy]at h;rw[D2,f6 (λz=>by lia)];exact ih_ h.2
theorem QR:∀fs:List (Str×PF),D2 B fs=J->P0 B a9 fs=fs++[(B,a9)]:=by
 intro l_;induction l_ with
 |nil =>
  intro _;exact rfl
 |cons a_ r ih_ =>
  obtain⟨g,x⟩:=a_;intro h;rw[D2]at h;split at h;exact nS h;rename_i c;rw[P0,f6 c,ih_ h];rfl
theorem aP{a:PV->Option PF}{pv:PV}{p:PF}(h:r[m]? = U (U (.ob N (.ins "Table" a1))))(b:a1.length<900)(c:(a1.map (·.1)).contains B=U')(d:G r=U pv)(e:a pv=U p):X5 "Table" m B a G r=U (.next (r.set m (U (.ob N (.ins "Table" (a1++[(B,p)])))))):=by delta X5 gw;rw[d,x5,e,x5,h];simp only[U7,x5];rw[f9 b,QR a1 (xM a1 c)]
theorem nM(h:r[m]? = U (U (.ob N (.ins "Table" a1))))(a:D2 B a1=U (.dat S)):N0 "Table" m B r=U (.dat S):=by delta N0 gw;rw[h];simp only[U7,x5,a,DH]
theorem Hn(h:r[m]? = U (U (.ob N (.ins "Table" a1))))(a:D2 B a1=U (.own A))(b:A.length<1000000)(c:G r=U g):mM "Table" m B G r=U (.next (r.set m (U (.ob N (.ins "Table" (P0 B (.own (A++[g.d])) a1)))))):=by delta mM gw;rw[c,x5,h];simp only[U7,x5,a,tG];rw[f9 b]
theorem AL{c':OD}{f:List PV->Option (PV×Ds)}{xs:List p9}(h:X[l]? = U (U (.ob N (.ins "Table" a1))))(e:(a1.map (·.1)).contains B=U')(c:c7 X=U (xs.map AV.d))(b:f (.ob J (.ins "Table" a1)::xs.map .dat)=U (g,U (.ob J c')::r)):
  O0 "Table" B l f c7 X=U (g,X.set l (U (.ob N c'))):=by delta O0 gw;rw[h];simp only[U7,x5,xM a1 e];refine wX h ?_ b;delta gZ;rw[h];simp only[c,x5]
theorem rF:D2 B ((B,a9)::a1)=U a9:=by rw[D2,f9 rfl]
theorem fO{g:Str}(h:(g==B)=U'):D2 B ((g,a9)::a1)=D2 B a1:=by rw[D2,f6 (by simpa using h)]
theorem a3t{q:PF}:P0 B q ((B,a9)::a1)=(B,q)::a1:=by rw[P0,f9 rfl]
theorem put2{g:Str}{q:PF}(h:(g==B)=U'):P0 B q ((g,a9)::a1)=(g,a9)::P0 B q a1:=by rw[P0,f6 (by simpa using h)]
abbrev F4.G3(I:F4):p9:=.list (rl I.n λj=>K7 (I.cost j))
abbrev F4.ah(I:F4):p9:=.list (rl I.m λp=>.list (rl I.n λj=>fr (I.row p j)))
abbrev F4.F2(I:F4):p9:=.list (rl I.m λp=>fr (I.rg p))
abbrev F4.L6(I:F4):p9:=.list (rl I.n λj=>X1 (I.tp j))
abbrev F4.U3(I:F4):p9:=.list (rl I.m λk=>.int (I.fs k:Int))
theorem E8.wq(H:E8 e D E M){t:Nat}(f:t<3)(c:m<e.n):B4 1700 (e.wq t m)/\(e.wq t m).2∣E:=by
 obtain⟨i,h,d,g⟩:=H.sc c;obtain⟨a,I⟩:=H.cost t m f c;refine⟨iR a (rC d f5),?_⟩;have:=(Z8 (t:=(R4 (e.cost m) t).1*e.sc m) (b:=(R4 (e.cost m) t).2*1) (by have:=a.pos;simp[*])).2.2.2;rw[ou]at this;delta F4.wq N3;rw[ou];exact gS this I
theorem E8.mu(H:E8 e D E M)(I:m<3):0<e.mu m/\e.mu m∣E/\Bt 900 (e.mu m)/\∀j,j<e.n->(e.wq m j).2∣e.mu m:=by
 obtain⟨b,g,f,c⟩:=BJ (D:=E) ((D0 e.n).map λj=>(e.wq m j).2) 1 f5 ⟨E,by simp[*]⟩ λx d=>by obtain⟨p,a,rfl⟩:=mem_map.mp d;have:=H.wq I (mem_range.mp a);exact⟨this.1.pos,this.2⟩
 exact⟨b,c,tV H.e0 b c H.eb,λp a=>f _ (mem_map.mpr ⟨p,mem_range.mpr a,rfl⟩)⟩
theorem E8.wt(H:E8 e D E M)(a:m<3)(b:l<e.n):Bt 2600 (e.wt m l):=(H.wq a b).1.bt.mul (H.mu a).2.2.1.fdiv
theorem E8.hq(H:E8 e D E M)(c:m<e.n)(h:e.hq m=U o):B4 1700 o/\o.2∣M:=by
 obtain⟨b,g,d,i⟩:=H.sc c;obtain⟨r,f,rfl⟩:=Option.map_eq_some_iff.mp h;obtain⟨a,I⟩:=H.tp m r c f;have k:B4 900 (1,e.sc m):=⟨b,by simp,⟨by simp⟩,d⟩;refine⟨iR a k,?_⟩;have:=(Z8 (t:=r.1*1) (K9 a.pos b)).2.2.2;exact gS this (I _ g)
theorem E8.NB(H:E8 e D E M):∀x∈e.pR,0<x/\x∣M:=by
 intro x a;rcases List.mem_append.mp a with a|a
 obtain⟨p,b,rfl⟩:=mem_map.mp a;have:=H.rg p (mem_range.mp b);exact⟨this.1.pos,this.2⟩;obtain⟨j,c,h⟩:=List.mem_filterMap.mp a;obtain⟨q,hq,rfl⟩:=Option.map_eq_some_iff.mp h;have:=H.hq (mem_range.mp c) hq;exact⟨this.1.pos,this.2⟩
theorem E8.un(H:E8 e D E M):0<e.un/\e.un∣M/\Bt 900 e.un/\(∀p,p<e.m->(e.rg p).2∣e.un)/\∀j q,j<e.n->e.hq j=U q->q.2∣e.un:=by
 obtain⟨a,f,c,b⟩:=BJ e.pR 1 f5 ⟨M,by simp[*]⟩ H.NB;refine⟨a,b,tV H.f0 a b H.fb,λp d=>c _ (List.mem_append.mpr (.inl (mem_map.mpr ⟨p,mem_range.mpr d,rfl⟩))),λj q I hq=>c _ (List.mem_append.mpr (.inr (List.mem_filterMap.mpr ⟨j,mem_range.mpr I,by rw[hq];rfl⟩)))⟩
theorem E8.lim(H:E8 e D E M){v:Int}(a:m<e.n)(h:e.lim m=U v):Bt 2600 v:=by obtain⟨q,hq,rfl⟩:=Option.map_eq_some_iff.mp h;exact(H.hq a hq).1.bt.mul H.un.2.2.1.fdiv
theorem E8.b(H:E8 e D E M){p:Nat}(a:p<e.m):Bt 1700 (e.b p):=(H.rg p a).1.bt.mul H.un.2.2.1.fdiv
noncomputable abbrev UP(I:F4):List (Str×PF):=[("scales",.dat (il I.n I.sc)),("columns",.dat (.list (rl I.n λj=>gz (I.bY j I.m))))]
noncomputable abbrev nQ(I:F4)(u v:List p9):List (Str×PF):=[("scales",.dat (il I.n I.sc)),("columns",.dat (.list (rl I.n λj=>gz (I.bY j I.m)))),("multiples",.own u),("weights",.own v)]
theorem pM(H:E8 e D E M){t:Nat}(a:t<3)(w:Option Addr)(u v:List p9)(s:u.length<1000)(r:v.length<1000)(x3 c:Option PV):∃q k,aO [U (.ob w (.ins "Table" (nQ e u v))),sd e.G3,iD (t:Int),x3,c]=U (.next [U (.ob w (.ins "Table" (nQ e (u++[.int (e.mu t)]) (v++[il e.n (e.wt t)])))),sd e.G3,iD (t:Int),q,k]):=by
 refine⟨sd (.list (rl e.n λj=>fr (e.wq t j))),iD (e.mu t),?_⟩
 delta aO;have i:u6 3 (y9 (F3 av (f7 (q9 1) (f7 (N0 "Table" 0 "scales") u3))) (O6 2) z0 W3) [U (.ob w (.ins "Table" (nQ e u v))),sd e.G3,iD t,x3,c]=U (.next [U (.ob w (.ins "Table" (nQ e u v))),sd e.G3,iD t,sd (.list (rl e.n λj=>fr (e.wq t j))),c]):=by
  have m:N0 "Table" 0 "scales" [U (.ob w (.ins "Table" (nQ e u v))),sd e.G3,iD t,x3,c]=sd (il e.n e.sc):=nM rfl rF;have g:y9 (F3 av (f7 (q9 1) (f7 (N0 "Table" 0 "scales") u3))) (O6 2) z0 W3 [U (.ob w (.ins "Table" (nQ e u v))),sd e.G3,iD t,x3,c]=U (.own (rl e.n λj=>fr (e.wq t j))):=by
   walk_at "r";rw[m];walk_at "r";rw[lq];walk_at "r";rw[f9 (bM H.n1),N5 λj b=>⟨_,.dat (fr (e.wq t j)),rfl,by delta W3;walk_at "r";rw[a0B _ a];walk_at "r";rw[nu (H.cost t j a b).1 (rC (H.sc b).2.2.1 f5) f5];rfl,rfl⟩];walk_at "r"
  rw[dV,g];rfl
 rw[A5,i,y8];have l:u6 4 (q5 N1 (f7 (y9 (J9 (q9 3)) A1 z0 dG) u3)) [U (.ob w (.ins "Table" (nQ e u v))),sd e.G3,iD t,sd (.list (rl e.n λj=>fr (e.wq t j))),c]=U (.next [U (.ob w (.ins "Table" (nQ e u v))),sd e.G3,iD t,sd (.list (rl e.n λj=>fr (e.wq t j))),iD (e.mu t)]):=by
  walk_at "r";rw[f9 (bM H.n1),N5 λj b=>⟨_,.dat (.int (e.wq t j).2),rfl,by rfl,rfl⟩]
  walk_at "r";have I:(rl e.n λj=>Z0 (e.wq t j).2)=((D0 e.n).map λj=>(e.wq t j).2).map Z0:=by rw[cW];rfl
  rw[I,mr H.e0 (H.eb.mono f5) λx f=>by obtain⟨p,h,rfl⟩:=mem_map.mp f;have:=H.wq a (mem_range.mp h);exact⟨this.1.pos,this.2⟩];rfl
 rw[A5,l,y8];rw[A5,Hn rfl (by rw[fO A3,fO A3,rF]) (B6 s9 f5) rfl,y8];rw[show P0 "multiples" (.own (u++[(PV.dat (.int (e.mu t))).d])) (nQ e u v)=nQ e (u++[.int (e.mu t)]) v from by rw[put2 A3,put2 A3,a3t];rfl]
 have o:y9 (J9 (q9 3)) A1 z0 dF [U (.ob w (.ins "Table" (nQ e (u++[.int (e.mu t)]) v))),sd e.G3,iD t,sd (.list (rl e.n λj=>fr (e.wq t j))),iD (e.mu t)]=U (.own (rl e.n λj=>.int (e.wt t j))):=by
  walk_at "r";rw[f9 (bM H.n1),N5 λj b=>⟨_,.dat (.int (e.wt t j)),rfl,by walk_at "r";exact rj ((H.wq a b).1.bt.mono f5) ((H.wq a b).1.bb.mono f5) (by have:=(H.wq a b).1.pos;exact K8) ((H.mu a).2.2.1.mono f5),rfl⟩];walk_at "r"
 simp only[jq];rw[Hn rfl (by rw[fO A3,fO A3,fO A3,rF]) pd o];rfl
theorem Ir(H:E8 e D E M):Z5 [.ob J (.ins "Table" (UP e)),.dat e.G3]=U (.dat .none,[U (.ob J (.ins "Table" (nQ e (rl 3 λt=>.int (e.mu t)) (rl 3 λt=>il e.n (e.wt t))))),J]):=by
 refine nU rfl λt=>?_;generalize a:(U (t 0))=w;generalize h:e.G3=C;rw[show((cZ t 0 [PV.ob J (.ins "Table" (UP e)),.dat C]).map U++D3 (5-2) J)=[U (.ob (U (t 0)) (.ins "Table" (UP e))),sd C,J,J,J]from rfl,a];rw[A5,aP rfl (by show 2<900;decide) (by show(["scales","columns"]:List Str).contains _=U';decide +kernel) rfl rfl,y8];rw[A5,aP rfl (by show 3<900;decide) (by show(["scales","columns","multiples"]:List Str).contains _=U';decide +kernel) rfl rfl,y8];simp only[jq,aZ,bU];subst h;obtain⟨I,f,j⟩:=pM H (t:=0) f5 w [] [] f5 f5 J J;obtain⟨c,i,b⟩:=pM H (t:=1) f5 w [.int (e.mu 0)] [il e.n (e.wt 0)] (by show 1<1000;decide) (by show 1<1000;decide) I f;obtain⟨g,k,d⟩:=pM H (t:=2) f5 w [.int (e.mu 0),.int (e.mu 1)] [il e.n (e.wt 0),il e.n (e.wt 1)] (by show 2<1000;decide) (by show 2<1000;decide) c i;delta G7;rw[show J9 (fC fS) [U (.ob w (.ins "Table" (nQ e [] []))),sd e.G3,J,J,J]=U [.int 0,.int 1,.int 2]from rfl];rw[x5];rw[Q9 rfl j];rw[Q9 rfl b];rw[Q9 rfl d];show mm [PV.ob J (.ins "Table" (UP e)),.dat e.G3] t (.next [U (.ob w (.ins "Table" (nQ e (rl 3 λt=>.int (e.mu t)) (rl 3 λt=>il e.n (e.wt t))))),sd e.G3,_,g,k])=_;rw[<-a];simp only[mm,S7,U7]
noncomputable abbrev Dl(I:F4):List (Str×PF):=nQ I (rl 3 λt=>.int (I.mu t)) (rl 3 λt=>il I.n (I.wt t))
noncomputable abbrev fsU(I:F4):List (Str×PF):=[("scales",.dat (il I.n I.sc)),("columns",.dat (.list (rl I.n λj=>gz (I.bY j I.m)))),("multiples",.own (rl 3 λt=>.int (I.mu t))),("weights",.own (rl 3 λt=>il I.n (I.wt t))),("unit",.dat (.int I.un))]
noncomputable abbrev fsR(I:F4):List (Str×PF):=[("scales",.dat (il I.n I.sc)),("columns",.dat (.list (rl I.n λj=>gz (I.bY j I.m)))),("multiples",.own (rl 3 λt=>.int (I.mu t))),("weights",.own (rl 3 λt=>il I.n (I.wt t))),("unit",.dat (.int I.un)),("rights",.own (rl I.m λp=>.int (I.b p)))]
noncomputable abbrev fsM(I:F4):List (Str×PF):=[("scales",.dat (il I.n I.sc)),("columns",.dat (.list (rl I.n λj=>gz (I.bY j I.m)))),("multiples",.own (rl 3 λt=>.int (I.mu t))),("weights",.own (rl 3 λt=>il I.n (I.wt t))),("unit",.dat (.int I.un)),("rights",.own (rl I.m λp=>.int (I.b p))),("limits",.dat (.list (rl I.n λj=>gy (I.lim j))))]
theorem a0e(H:E8 e D E M)(a:m<e.n):B4 900 (1,e.sc m):=by obtain⟨c,I,b,d⟩:=H.sc a;exact⟨c,by simp,⟨by simp⟩,b⟩
theorem Nq(k:Nat)(h:Nat->Option Q2)(ds:Ds):P4 A1 R8 S0 ds (rl k λj=>X1 (h j))=U (((D0 k).filterMap λj=>(h j).map (·.2)).map .int):=by
 have a:∀l:List Nat,P4 A1 R8 S0 ds (l.map λj=>X1 (h j))=U ((l.filterMap λj=>(h j).map (·.2)).map .int):=by
  intro l;induction l with
  |nil=>rfl
  |cons j l b =>
   rw[C7];unfold P4;simp only[A1,x5];have c:R8 (S8 [X1 (h j)]++ds)=U (h j).isSome:=by walk_at "r";cases h j<;>rfl
   rw[c,x5,zm];cases hj:h j with
   |none =>
    exact b
   |some q =>
    have d:S0 (S8 [X1 (U q)]++ds)=sd (.int q.2):=by rfl
    rw[d,x5,b];rfl
 exact a _
theorem MA(H:E8 e D E M):aB [.ob J (.ins "Table" (Dl e)),.dat e.F2,.dat e.L6]=U (.dat .none,[U (.ob J (.ins "Table" (fsM e))),J,J]):=by
 refine nU rfl λt=>?_;obtain⟨u1,u2,I,r,o⟩:=H.un;generalize f:(U (t 0))=w;rw[show((cZ t 0 [PV.ob J (.ins "Table" (Dl e)),.dat e.F2,.dat e.L6]).map U++D3 (5-3) J)=[U (.ob (U (t 0)) (.ins "Table" (Dl e))),sd e.F2,sd e.L6,J,J]from rfl,f]
 have i:y9 (F3 av (f7 (q9 2) (f7 (N0 "Table" 0 "scales") u3))) (O6 2) z0 bq [U (.ob w (.ins "Table" (Dl e))),sd e.F2,sd e.L6,J,J]=U (.own (rl e.n λj=>X1 (e.hq j))):=by
  have c:N0 "Table" 0 "scales" [U (.ob w (.ins "Table" (Dl e))),sd e.F2,sd e.L6,J,J]=sd (il e.n e.sc):=nM rfl rF;walk_at "r";rw[c];walk_at "r";rw[lq];walk_at "r";rw[f9 (bM H.n1),N5 λj a=>⟨_,.dat (X1 (e.hq j)),rfl,by
   delta bq;walk_at "r";delta F4.hq;cases hq:e.tp j with
   |none=>rfl
   |some q =>
    simp only[lZ,if_false,X1,qP];rw[nu (H.tp j q a hq).1 (a0e H a) f5],rfl⟩]
  walk_at "r"
 rw[A5,dV,i];simp only[tN,y8,PV.JS,Fd,jq];have g:t6 A9 (y9 (J9 (q9 1)) A1 z0 bp) (y9 (J9 (q9 3)) A1 R8 S0) [U (.ob w (.ins "Table" (Dl e))),sd e.F2,sd e.L6,sd (.list (rl e.n λj=>X1 (e.hq j))),J]=U (.own (e.pR.map .int)):=by
  walk_at "r";rw[f9 (bM H.m1),N5 λp d=>⟨_,.dat (.int (e.rg p).2),rfl,by delta bp;walk_at "r",rfl⟩]
  walk_at "r";rw[f9 (bM H.n1),Nq];walk_at "r";rw[NC (by
   rw[G8,C5];have:=List.length_filterMap_le (λj=>(e.hq j).map (·.2)) (D0 e.n);rw[uE]at this;have:=H.m1;have:=H.n1
   lia)]
  delta F4.pR;rw[Z2,cW];rfl
 rw[A5,dV,g];simp only[tN,y8,PV.JS,Fd,jq];have k:q5 N1 (f7 (q9 4) u3) [U (.ob w (.ins "Table" (Dl e))),sd e.F2,sd e.L6,sd (.list (rl e.n λj=>X1 (e.hq j))),sd (.list (e.pR.map .int))]=sd (.int e.un):=by walk_at "r";rw[mr H.f0 (H.fb.mono f5) H.NB];rfl
 rw[A5,aP (p:=.dat (.int e.un)) rfl (by show 4<900;decide) (by show(["scales","columns","multiples","weights"]:List Str).contains _=U';decide +kernel) k rfl,y8]
 simp only[jq,aZ,bU];have h:y9 (J9 (q9 1)) A1 z0 bj [U (.ob w (.ins "Table" (fsU e))),sd e.F2,sd e.L6,sd (.list (rl e.n λj=>X1 (e.hq j))),sd (.list (e.pR.map .int))]=U (.own (rl e.m λp=>.int (e.b p))):=by
  walk_at "r";rw[f9 (bM H.m1),N5 λp d=>⟨_,.dat (.int (e.b p)),rfl,by
   delta bj;have c:N0 "Table" 1 "unit" (S8 [fr (e.rg p)]++[U (.ob w (.ins "Table" (fsU e))),sd e.F2,sd e.L6,sd (.list (rl e.n λj=>X1 (e.hq j))),sd (.list (e.pR.map .int))])=sd (.int e.un):=nM rfl (by rw[fO A3,fO A3,fO A3,fO A3,rF]);simp only[q5,f7];rw[c];walk_at "r";rw[rj ((H.rg p d).1.bt.mono f5) ((H.rg p d).1.bb.mono f5) (by have:=(H.rg p d).1.pos;exact K8) (I.mono f5)]
   rfl,rfl⟩]
  walk_at "r"
 rw[A5,aP rfl (by show 5<900;decide) (by show(["scales","columns","multiples","weights","unit"]:List Str).contains _=U';decide +kernel) h rfl,y8]
 simp only[jq,aZ,bU];have l:y9 (J9 (q9 3)) A1 z0 bh [U (.ob w (.ins "Table" (fsR e))),sd e.F2,sd e.L6,sd (.list (rl e.n λj=>X1 (e.hq j))),sd (.list (e.pR.map .int))]=U (.own (rl e.n λj=>gy (e.lim j))):=by
  walk_at "r";rw[f9 (bM H.n1),N5 λj a=>⟨_,.dat (gy (e.lim j)),rfl,by
   delta bh;have c:N0 "Table" 1 "unit" (S8 [X1 (e.hq j)]++[U (.ob w (.ins "Table" (fsR e))),sd e.F2,sd e.L6,sd (.list (rl e.n λj=>X1 (e.hq j))),sd (.list (e.pR.map .int))])=sd (.int e.un):=nM rfl (by rw[fO A3,fO A3,fO A3,fO A3,rF])
   simp only[q5,f7,iH];rw[c];walk_at "r";delta F4.lim;cases hq:e.hq j with
   |none=>rfl
   |some q =>
    simp only[lZ,if_false,X1,qP,gy];rw[rj ((H.hq a hq).1.bt.mono f5) ((H.hq a hq).1.bb.mono f5) (by have:=(H.hq a hq).1.pos;exact K8) (I.mono f5)],rfl⟩]
  walk_at "r"
 rw[aP (p:=.dat (.list (rl e.n λj=>gy (e.lim j)))) rfl (by show 6<900;decide) (by show(["scales","columns","multiples","weights","unit","rights"]:List Str).contains _=U';decide +kernel) l rfl,x5];simp only[jq,aZ,bU];rw[<-f];simp only[mm,S7,U7]
theorem VM{i:Nat}{Fk Fv:DV}{ds:Ds}(h:ds[i]? = U (U (.own A)))(c:Fv ds=U g)(b:Fk ds=sd (.int (m:Int)))(e:m<A.length):cq i Fk Fv ds=U (.next (ds.set i (U (.own (A.set m g.d))))):=by delta cq;rw[c,x5,b,x5,h];simp only[PV.vy,iF e,x5]
theorem Gb(f:m<=1000)(g:l<m):jO [.int (m:Int),.int (l:Int)]=U (.own (rl m λq=>.int (if l=q then 1 else 0))):=by
 have b:S6 2 (t6 eS (N9 (f7 (fC (.int 0)) u3)) (q9 0)) [iD m,iD l,J]=U (.next [iD m,iD l,U (.own (rl m λ_=>.int 0))]):=by walk_at "r";rw[zP _ f];rfl
 have a:=VM (i:=2) (Fk:=q9 1) (Fv:=fC (.int 1)) (ds:=[iD m,iD l,U (.own (rl m λ_=>.int 0))]) rfl rfl rfl (by rw[G8];exact g);rw[iY]at a;delta jO;delta J3;rw[show(S8 [.int m,.int l]++D3 (3-2) J)=[iD m,iD l,J]from rfl]
 rw[A5,b,y8,A5,a,y8];have e:(rl m λq=>if q=l then(PV.dat (Z0 1)).d else Z0 0)=rl m λq=>.int (if l=q then 1 else 0):=bJ λq _=>by
  by_cases c:q=l;rw[f9 c,f9 c.symm];rfl;rw[f6 c,f6 λz=>c z.symm]
 rw[e];rfl
noncomputable abbrev fsP(I:F4):List (Str×PF):=[("scales",.dat (il I.n I.sc)),("columns",.dat (.list (rl I.n λj=>gz (I.bY j I.m)))),("multiples",.own (rl 3 λt=>.int (I.mu t))),("weights",.own (rl 3 λt=>il I.n (I.wt t))),("unit",.dat (.int I.un)),("rights",.own (rl I.m λp=>.int (I.b p))),("limits",.dat (.list (rl I.n λj=>gy (I.lim j)))),("chosen",.own (rl I.m λk=>.int (I.fs k:Int))),("full",.own (rl I.n λ_=>.bool U')),("size",.dat (.int 1)),("inverse",.dat (.list (rl I.m λk=>il I.m λq=>if k=q then 1 else 0)))]
abbrev nsP:List Str:=["scales","columns","multiples","weights","unit","rights","limits","chosen","full","size","inverse"]
noncomputable abbrev lP(I:F4):List p9:=[il I.n I.sc,.list (rl I.n λj=>gz (I.bY j I.m)),.list (rl 3 λt=>.int (I.mu t)),.list (rl 3 λt=>il I.n (I.wt t)),.int I.un,.list (rl I.m λp=>.int (I.b p)),.list (rl I.n λj=>gy (I.lim j)),.list (rl I.m λk=>.int (I.fs k:Int)),.list (rl I.n λ_=>.bool U'),.int 1,.list (rl I.m λk=>il I.m λq=>if k=q then 1 else 0)]
noncomputable def Cp(I:F4):p9:=(OD.ins "Table" (fsP I)).d
theorem ZF(I:F4):Cp I=zY "Table" nsP (lP I):=rfl
theorem HJ(I:F4):vo "Table" (Cp I)=U (nsP.map .str,lP I):=by rw[ZF];exact MN _ _ _
theorem IT(I:F4):X6 "Table" "chosen" (Cp I)=U (.list (rl I.m λk=>.int (I.fs k:Int))):=by delta X6;rw[HJ,x5];simp only[C7,T3];walk_at "f"
theorem Ge(I:F4):X6 "Table" "weights" (Cp I)=U (.list (rl 3 λt=>il I.n (I.wt t))):=by delta X6;rw[HJ,x5];simp only[C7,T3];walk_at "f"
theorem yi(H:E8 e D E M)(b:m<3):M0 [Cp e,.int (m:Int)]=U (.own (rl e.m λk=>.int (e.wt m (e.fs k)))):=by
 delta M0;walk_at "v";rw[IT];walk_at "r";rw[f9 (bM H.m1),N5 λk a=>⟨_,.dat (.int (e.wt m (e.fs k))),rfl,by delta cP;walk_at "v";rw[Ge];walk_at "r";rw[M9 _ b];walk_at "r";rw[M9 _ (H.fs k a)];walk_at "r",rfl⟩];rfl
theorem CP(n:Nat)(f:Nat->Int):lH (rl n λk=>.int (f k))=Uf:=by
 have:∀l:List Nat,lH (l.map λk=>Z0 (f k))=Uf:=by
  intro l;induction l with
  |nil=>rfl
  |cons x l a=>rw[C7,lH,a];rfl
 exact this _
theorem Xr(H:E8 e D E M):bC [.ob J (.ins "Table" []),.dat e.G3,.dat e.ah,.dat e.F2,.dat e.L6,.dat e.U3]=U (.dat .none,[U (.ob J (B8 e.J8 e.tab)),J,J,J,J,J]):=by
 refine nU rfl λt=>?_;generalize c:(U (t 0))=w;rw[show((cZ t 0 [PV.ob J (.ins "Table" []),.dat e.G3,.dat e.ah,.dat e.F2,.dat e.L6,.dat e.U3]).map U++D3 (6-6) J)=[U (.ob (U (t 0)) (.ins "Table" [])),sd e.G3,sd e.ah,sd e.F2,sd e.L6,sd e.U3]from rfl,c]
 have f:y9 (F3 O4 (f7 (q5 E2 (f7 (q9 1) u3)) u3)) A1 z0 iq [U (.ob w (.ins "Table" [])),sd e.G3,sd e.ah,sd e.F2,sd e.L6,sd e.U3]=U (.own (rl e.n λj=>.int (e.sc j))):=by
  walk_at "r";rw[G8,bI (by have:=H.n1;lia),fY,xv];walk_at "r";rw[f9 (bM H.n1),N5 λj b=>⟨_,.dat (.int (e.sc j)),rfl,by walk_at "r";exact Qu H b,rfl⟩];walk_at "r"
 rw[A5,aP (p:=.dat (il e.n e.sc)) rfl B3 (by rfl) f rfl,y8]
 simp only[jq,bU];have g:y9 (F3 cv (f7 (N0 "Table" 0 "scales") u3)) (O6 2) z0 ip [U (.ob w (.ins "Table" [("scales",.dat (il e.n e.sc))])),sd e.G3,sd e.ah,sd e.F2,sd e.L6,sd e.U3]=U (.own (rl e.n λj=>gz (e.bY j e.m))):=by
  have l:N0 "Table" 0 "scales" [U (.ob w (.ins "Table" [("scales",.dat (il e.n e.sc))])),sd e.G3,sd e.ah,sd e.F2,sd e.L6,sd e.U3]=sd (il e.n e.sc):=nM rfl rF;walk_at "r";rw[l];walk_at "r";rw[vw,f9 (bM H.n1),N5 λj b=>⟨_,.own ((e.bY j e.m).map λI=>.tuple [.int I.1,.int I.2]),rfl,by walk_at "r";rw[Y1];exact Nt H b,rfl⟩];walk_at "r"
 rw[A5,aP rfl (by show 1<900;decide) (by show(["scales"]:List Str).contains _=U';decide +kernel) g rfl,y8];rw[A5,P1,AL (xs:=[e.G3]) rfl (by show(["scales","columns"]:List Str).contains _=U';decide +kernel) rfl (Ir H),x5,y8];rw[A5,P1,AL (xs:=[e.F2,e.L6]) rfl (by show(["scales","columns","multiples","weights"]:List Str).contains _=U';decide +kernel) rfl (MA H),x5,y8];rw[A5,aP rfl (by show 7<900;decide) (by show(["scales","columns","multiples","weights","unit","rights","limits"]:List Str).contains _=U';decide +kernel) rfl rfl,y8];rw[A5,aP rfl (by show 8<900;decide) (by show(["scales","columns","multiples","weights","unit","rights","limits","chosen"]:List Str).contains _=U';decide +kernel) (by walk_at "r";rw[G8,zP _ H.n1]) rfl,y8];rw[A5,aP (p:=.dat (.int 1)) rfl (by show 9<900;decide) (by show(["scales","columns","multiples","weights","unit","rights","limits","chosen","full"]:List Str).contains _=U';decide +kernel) rfl rfl,y8]
 rw[A5,aP (pv:=.own (rl e.m λk=>il e.m λq=>if k=q then 1 else 0)) (p:=.dat (.list (rl e.m λk=>il e.m λq=>if k=q then 1 else 0))) rfl (by show 10<900;decide) (by show(["scales","columns","multiples","weights","unit","rights","limits","chosen","full","size"]:List Str).contains _=U';decide +kernel) (by
  walk_at "r";rw[G8,bI (by have:=H.m1;lia),fY,xv];walk_at "r";rw[f9 (bM H.m1),N5 λk d=>⟨_,.own (rl e.m λq=>.int (if k=q then 1 else 0)),rfl,by delta ik;walk_at "r";rw[G8];exact Gb H.m1 d,rfl⟩]
  walk_at "r") rfl,y8]
 simp only[jq,aZ,bU];rw[aP rfl (by show 11<900;decide) (by show nsP.contains _=U';decide +kernel) (by
  delta y9;rw[show J9 (fC fS) _=U (rl 3 λi=>.int i)from rfl,x5]
  rw[f9 (bM f5),N5 λa h=>⟨_,.own (rl e.m λk=>.int (e.wt a (e.fs k))),rfl,by
   delta ij aa;have I:R1 "Table" "first_prices" M0 (R6 1) (f7 (q9 0) u3) (S8 [.int a]++[U (.ob w (.ins "Table" (fsP e))),sd e.G3,sd e.ah,sd e.F2,sd e.L6,sd e.U3])=U (.own (rl e.m λk=>.int (e.wt a (e.fs k)))):=by exact yi H h
   rw[I,x5];simp only[CP,U7],rfl⟩]
  rfl) rfl,x5]
 simp only[jq];rw[<-c];simp only[mm,S7];rfl
open Sx (sN pN sm det F7 dot)
theorem ZU(d:1<=m)(g:1<=l):∀(n:Nat) (f:Nat->Nat),(∀i,i<n->i≠O->f i<=m)->(O<n->f O<=l)->pN n f<=m ^ n*l:=by
 intro l_;induction l_ with
 |zero =>
  intro f _ _;rw[pN,Nat.pow_zero];simp[*]
 |succ n ih_ =>
  intro f h1 h2;by_cases c:n=O
  . have a:pN n f<=m ^ n:=by
      have:∀x,x<=n->pN x f<=m ^ x:=by
       intro x;induction x with
       |zero=>intro _;rw[pN,Nat.pow_zero];simp[*]
       |succ x h =>
        exact λj=>yQ (h eR) (h1 x eu r9)
      exact this n E7
    have b:f n<=l:=by rw[c];exact h2 z9
    have e:m ^ n*l<=m ^ (n+1)*l:=oI _ (by rw[El];exact Nat.le_mul_of_pos_right _ d);exact B6 (yQ a b) e
  . have a:=ih_ f (λi y=>h1 i eu) λz=>h2 eu
    calc pN n f*f n<=(m ^ n*l)*m:=yQ a (h1 n z9 c)
     _=m ^ (n+1)*l:=by rw[El,Et,Et,uq l m]
theorem xr:∀{n:Nat} {f:Nat->Nat},n<=1000->(∀i,i<n->f i<2 ^ m)->sN n f<2 ^ (m+10):=by
 intro n f a h;have:∀e,e<=n->sN e f<=e*2 ^ m:=by
  intro e;induction e with
  |zero=>intro _;rw[sN];exact gP _
  |succ e c =>
   intro b;have:=h e s9;rw[sN,Nat.succ_mul];lia
 have:=this n E7;have:0<2 ^ m:=Ef f5;have:n*2 ^ m<=1000*2 ^ m:=oI _ a;lia
theorem Bt.sm(a:l<=1000)(h:∀i,i<l->Bt m (K i)):Bt (m+10) (Sx.sm l K):=⟨oF (Sx.KW l K) (xr a λi b=>(h i b).lt)⟩
theorem Ao{d k:Nat}{M:Nat->Nat->Int}(b:∀i,i<m->i≠k->sN m (λr=>(M i r).natAbs)<=2 ^ l)(a:k<m->sN m (λr=>(M k r).natAbs)<=2 ^ d):Bt (l*m+d+1) (det m M):=⟨by
 have h:=B6 (Sx.Nl m M) (ZU (Ef f5) (Ef f5) m (λi=>sN m λr=>(M i r).natAbs) b a)
 rw[<-Nat.pow_mul,<-Nat.pow_add]at h;exact oF h (Ox f5 z9)⟩
theorem Bt.sign(hs:D=1\/D = -1)(h:D*E=M)(b:Bt m M):Bt m E:=b.of_le (by rw[<-h];rcases hs with rfl|rfl<;>simp)
structure Small(Q:V3)(b:Nat->Int)(c:Nat):Prop where
 m1:Q.m<=1000
 n1:Q.n<=1000
 c1:c*Q.m<=2000
 c2:c<=1000
 cn:∀j,j<Q.n->sN Q.m (λp=>(N6 (Q.col j) p).natAbs)<=2 ^ c
 cl:∀j,j<Q.n->(Q.col j).length<=1000
 cb:∀j,j<Q.n->∀e∈Q.col j,e.1<Q.m/\Bt 7000 e.2
 wb:∀t j,t<3->j<Q.n->Bt 2600 (Q.wt t j)
 w0:∀t j,3<=t->Q.wt t j=0
 lb:∀j v,j<Q.n->Q.lim j=U v->Bt 2600 v/\0<=v
 bb:∀p,p<Q.m->Bt 2600 (b p)
section
variable{T:Sx.Tb}
theorem a1D{f:Nat->Nat}(h:l<m):f l<=sN m f:=by
 induction m with
 |zero=>simp_all
 |succ m a =>
  rw[sN];by_cases z:l=m;rw[z];simp[*];have:=a (lY (oD s9) s9);exact Nat.le_add_right_of_le s9
theorem Small.col{Q:V3}(S:Small Q K m)(d:l<Q.n)(a:O<Q.m):Bt (m+1) (N6 (Q.col l) O):=⟨by
 have:=S.cn l d;have:=a1D (f:=λO=>(N6 (Q.col l) O).natAbs) a;have:2 ^ m<2 ^ (m+1):=Ox f5 z9
 lia⟩
theorem Small.det(S:Small f K m)(L:Sx.Q7 (f.pb K) T){k:Nat}(h:k<f.m){x:Nat->Int}(e:sN f.m (λr=>(x r).natAbs)<=2 ^ l):Bt (m*f.m+l+1) (dot f.m (T.inv k) x):=by
 obtain⟨s,g,b,Q⟩:=L.sg;refine Bt.sign g (Q k h x) (Ao (k:=k) (λi j a=>?_) λ_=>?_);rw[show(λr=>(F7 (T.M (f.pb K)) k x i r).natAbs)=λr=>(N6 (f.col (T.B i)) r).natAbs from by funext r;rw[Sx.aw _ _ _ a];rfl];exact S.cn _ (L.bn i j);rw[show(λr=>(F7 (T.M (f.pb K)) k x k r).natAbs)=λr=>(x r).natAbs from by funext r;rw[Sx.bG]];exact e
theorem Small.tab(S:Small f K l)(b:Sx.Ok (f.pb K) T):aW f T:=by
 have L:=b.G6;have:=S.c1;have:=S.c2;have c:Bt 2001 T.size:=by
  obtain⟨s,x,D,E⟩:=L.sg;have:=Ao (d:=0) (k:=f.m) (λi C _=>S.cn _ (L.bn i C)) (λz=>by simp_all);exact(Bt.sign x D this).mono (yZ s9)
 have w:∀k q,k<f.m->q<f.m->Bt 2012 (T.inv k q):=λk q e hq=>by
  have h:sN f.m (λr=>(Sx.unit q r).natAbs)<2 ^ (1+10):=xr S.m1 λi _=>by delta Sx.unit;split<;>decide
  have:=S.det L e (Q3 h);rw[Sx.rN _ hq]at this;exact this.mono z9
 have v8:∀a k,a<f.n->k<f.m->Bt 3001 (T.v8 (B5 f) a k):=λa k o e=>(S.det L e (S.cn a o)).mono r9
 have rt:∀p,p<f.m->Bt 3612 (T.rt p):=λp Q=>by
  rw[b.rt p Q];have x:Bt (2600+(l+1)+10) (Sx.fsum (f.pb K) T λj=>(f.pb K).A j p):=Bt.sm S.n1 λj u=>by
   split
   . refine Bt.mul ?_ (S.col u Q);show Bt 2600 ((f.lim j).getD 0)
     cases hl:f.lim j with
     |none=>exact Bt.mono (m:=1) ⟨by decide⟩ f5
     |some v=>exact(S.lb j v u hl).1
   exact Bt.mono (m:=1) ⟨by decide⟩ (Nat.succ_pos _)
  exact(((S.bb p Q).mono (n:=3611) f5).sub (x.mono r9))
 have am:∀k,k<f.m->Bt 5623 (T.am (B5 f) k):=λk e=>by exact(S.det L e (Q3 (xr S.m1 λp Q=>(rt p Q).lt))).mono z9
 have y:∀t q,t<3->q<f.m->Bt 4622 (T.pr t q):=λt q g hq=>by rw[L.pr t q hq];exact Bt.sm S.m1 λk e=>((S.wb t _ g (L.bn k e)).mul (w k q e hq)).mono f5
 refine⟨S.m1,S.n1,S.cl,S.cb,λt j g u=>(S.wb t j g u).mono f5,λj v u B=>(S.lb j v u B).1.mono f5,L.bn,λp Q=>(rt p Q).mono f5,λk q e hq=>(w k q e hq).mono f5,λt q g hq=>(y t q g hq).mono f5,c.mono f5,L.pos,λk e=>(am k e).mono f5,λa k o e=>(v8 a k o e).mono f5,λt a g o=>?_⟩;exact((((S.wb t a g o).mul c).mono (n:=5633) f5).sub ((Bt.sm S.m1 λp Q=>(y t p g Q).mul (S.col o Q)).mono r9)).mono f5
end
open Sx (sN pN sm det F7 dot)
section
variable{T:Sx.Tb}
theorem yj(hs:0<D)(h:D*E=M):D*M.fdiv D=M:=by rw[<-h,OY _ K8]
theorem Gd(S:Small f K m)(b:Sx.Ok (f.pb K) T){a:Nat}{g:Int}(n:l<f.m):Sx.Ea (f.pb K) T a l g (W9 f T a l g):=by
 have L:=b.G6;refine⟨λk w=>rfl,rfl,λq hq=>?_,λr q s hq d=>?_,λt q hq=>?_⟩;show dU f T a l g l q=_;delta dU;simp;show T.size*dU f T a l g r q=_;delta dU;rw[f6 d];obtain⟨z,Q⟩:=L.exact n g r q s hq d;exact yj L.pos Q
 . show T.size*(if t<3 then vK f T a l g t else T.pr t) q=_;by_cases h:t<3
   . rw[f9 h];delta vK;obtain⟨z,Q⟩:=L.a0T n g t hq;have e:T.pr t q*(g*T.v8 (B5 f) a l)-(-g*T.rest (B5 f) t a)*T.inv l q=T.pr t q*(g*T.v8 (f.pb K) a l)+g*T.rest (f.pb K) t a*T.inv l q:=by
      show T.pr t q*(g*T.v8 (B5 f) a l)-(-g*T.rest (B5 f) t a)*T.inv l q=T.pr t q*(g*T.v8 (B5 f) a l)+g*T.rest (B5 f) t a*T.inv l q;lia
     rw[e];exact yj L.pos Q
   . rw[f6 h];have i:∀j,(f.pb K).c t j=0:=λj=>S.w0 t j (jF s9)
     have o:∀q,q<f.m->T.pr t q=0:=λq hq=>by rw[L.pr t q hq];exact Sx.iw λk _=>by rw[i,cz]
     have v:T.rest (f.pb K) t a=0:=by
      delta Sx.Tb.rest;rw[i,cz];have:dot (f.pb K).m (T.pr t) ((f.pb K).A a)=0:=Sx.iw λp u=>by rw[o p u,cz]
      rw[this];rfl
     rw[o q hq,v];simp
theorem flip_flip(c:f.lim m=U D):Sx.Kj (f.pb K) T m (kR f T m (-(T.sg m*D))):=by
 refine⟨λ_ _=>rfl,rfl,λ_ _ _ _=>rfl,λ_ _ _=>rfl,λj _=>rfl,λp _=>?_⟩;show T.rt p + -(T.sg m*D)*N6 (f.col m) p=T.rt p-T.sg m*(Sx.uv (f.pb K) m*N6 (f.col m) p)
 have:Sx.uv (f.pb K) m=D:=by delta Sx.uv;show(f.lim m).getD 0=D;rw[c];rfl
 rw[this,yF,O8];rfl
theorem aE:∀{k:Nat},C∈stI f T m k↔C∈vd f m\/∃i,i<k/\C∈stK f T m i:=by
 intro l_;induction l_ with
 |zero =>
  constructor;exact .inl;rintro(h|⟨i,b,_⟩);exact h;exact kS
 |succ k ih_ =>
  rw[stI,jC,ih_];constructor;rintro((h|⟨i,b,h⟩)|h);exact .inl h;exact .inr ⟨i,eu,h⟩;exact .inr ⟨k,by simp[*],h⟩;rintro(h|⟨i,b,h⟩);exact .inl (.inl h);by_cases z:i=k;rw[z]at h;exact .inr h;exact .inl (.inr ⟨i,lY (oD s9) s9,h⟩)
theorem iB:C∈vd f m ↔ ∃v,f.lim m=U v/\C=⟨v,1,m,J,U'⟩:=by
 delta vd;cases h:f.lim m with
 |none=>simp
 |some v=>simp
theorem aD:C∈stK f T m l↔(0<T.sg m*T.v8 (B5 f) m l/\C=⟨T.am (B5 f) l,T.sg m*T.v8 (B5 f) m l,T.B l,U l,U'⟩)\/(T.sg m*T.v8 (B5 f) m l<0/\∃v,f.lim (T.B l)=U v/\C=⟨v*T.size-T.am (B5 f) l,-(T.sg m*T.v8 (B5 f) m l),T.B l,U l,Uf⟩):=by
 delta stK;by_cases c:0<T.sg m*T.v8 (B5 f) m l;rw[f9 c];constructor;exact λh=>.inl ⟨c,by simpa using h⟩;rintro(⟨_,h⟩|⟨h,_⟩);simpa using h;lia
 . rw[f6 c];by_cases b:T.sg m*T.v8 (B5 f) m l<0
   . rw[f9 b];cases h:f.lim (T.B l)with
     |none =>
      constructor;intro z;simp at z;rintro(⟨z,_⟩|⟨_,v,z,_⟩);exact kS;exact nE z
     |some v =>
      constructor;intro z;exact .inr ⟨b,v,rfl,by simpa using z⟩;rintro(⟨z,_⟩|⟨_,d,z,e⟩);exact kS;cases z;simpa using e
   . rw[f6 b];constructor;intro z;simp at z
     . rintro(⟨z,_⟩|⟨z,_⟩)<;>exact kS
theorem zD(h:C∈stI f T m l):0<C.bot:=by
 rcases aE.mp h with h|⟨i,_,h⟩
 obtain⟨v,_,rfl⟩:=iB.mp h;exact Int.one_pos
 . rcases aD.mp h with ⟨b,rfl⟩|⟨b,v,_,rfl⟩
   exact b
   simp_all
theorem YI(K:aW f T)(Q:m<f.n)(h:C∈stI f T m f.m):Im C:=by
 have d:∀x:Int,Bt 7000 x->Bt 7000 (T.sg m*x):=λx g=>by
  rcases Sx.rz T m with ⟨_,e⟩|⟨_,e⟩<;>rw[e]
  exact g.of_le z9;exact g.of_le z9
 refine⟨?_,?_,zD h⟩
 . rcases aE.mp h with h|⟨i,b,h⟩
   obtain⟨v,c,rfl⟩:=iB.mp h;exact(K.lb m v Q c).mono f5
   . rcases aD.mp h with ⟨_,rfl⟩|⟨_,v,c,rfl⟩
     exact(K.ab i b).mono f5;exact((((K.lb _ v (K.bn i b) c).mul K.sb)).sub ((K.ab i b).mono f5)).mono f5
 . rcases aE.mp h with h|⟨i,b,h⟩
   obtain⟨v,c,rfl⟩:=iB.mp h;exact Bt.mono ⟨by show(1:Int).natAbs<2 ^ 1;decide⟩ f5
   . rcases aD.mp h with ⟨_,rfl⟩|⟨_,v,c,rfl⟩
     exact(d _ (K.yo m i Q b)).mono f5;exact(d _ (K.yo m i Q b)).neg.mono f5
theorem VB(S:Small f K m)(b:Sx.Ok (f.pb K) T)(c:l<f.n)(hs:C∈stI f T l f.m)(p:∀r∈stI f T l f.m,le C r):Sx.uc (f.pb K) T l C.top C.bot:=by
 have e:∀r∈stI f T l f.m,C.top*r.bot<=r.top*C.bot:=λr o=>by
  have:=p r o;unfold le at this;lia
 refine⟨?_,(zD hs),λv d=>?_,λk Q g=>?_,λk v Q g d=>?_⟩
 . rcases aE.mp hs with h|⟨i,j,h⟩
   obtain⟨v,d,rfl⟩:=iB.mp h;exact(S.lb l v c d).2
   . rcases aD.mp h with ⟨_,rfl⟩|⟨_,v,d,rfl⟩
     exact b.lo i j;have:=b.hi i v j d;show 0<=v*T.size-T.am (f.pb K) i;simp[*]
 . have:=e ⟨v,1,l,J,U'⟩ (aE.mpr (.inl (iB.mpr ⟨v,d,rfl⟩)))
   simp_all
 exact e ⟨T.am (B5 f) k,T.sg l*T.v8 (B5 f) l k,T.B k,U k,U'⟩ (aE.mpr (.inr ⟨k,Q,aD.mpr (.inl ⟨g,rfl⟩)⟩));exact e ⟨v*T.size-T.am (B5 f) k,-(T.sg l*T.v8 (B5 f) l k),T.B k,U k,Uf⟩ (aE.mpr (.inr ⟨k,Q,aD.mpr (.inr ⟨g,v,d,rfl⟩)⟩))
noncomputable def nextT(Q:V3)(T:Sx.Tb)(a:Nat)(s:eV):Sx.Tb:=match s.pl with
 |none=>kR Q T a (-(T.sg a*(Q.lim a).getD 0))
 |some l=>if s.tp=Uf then kR Q (W9 Q T a l (if 0<T.v8 (B5 Q) a l then 1 else -1)) s.ch (-((W9 Q T a l (if 0<T.v8 (B5 Q) a l then 1 else -1)).sg s.ch*(Q.lim s.ch).getD 0))else W9 Q T a l (if 0<T.v8 (B5 Q) a l then 1 else -1)
theorem Xc(KT:aW f T)(b:Sx.Ok (f.pb K) T)(d:m<f.n)(hs:C∈stI f T m f.m):me [.ob J (B8 f T),.dat (.int (m:Int)),.dat (.list (bx f T m)),.dat (T1 C)]=U (.dat .none,[U (.ob J (B8 f (nextT f T m C))),J,J,J]):=by
 rcases aE.mp hs with h|⟨l,e,h⟩
 . obtain⟨v,c,rfl⟩:=iB.mp h;rw[Si KT d c rfl];delta nextT
   simp_all
 . have Q:=λz=>(b.fu m d z).1
   rcases aD.mp h with ⟨g,rfl⟩|⟨g,v,c,rfl⟩
   rw[Hy KT (v:=0) d e rfl Q rfl (KT.bn l e) (λz=>by exact nT z)];rfl;rw[Hy KT d e rfl Q rfl (KT.bn l e) (λ_=>c)];delta nextT;simp only[c,Option.getD_some]
theorem Mo(S:Small f K m)(b:Sx.Ok (f.pb K) T){a:Nat}(E:Sx.Q5 (f.pb K) T a)(hs:C∈stI f T a f.m)(H:∀r∈stI f T a f.m,le C r):Sx.Step (f.pb K) T a C.top (nextT f T a C):=by
 have I:=VB S b E.an hs H;rcases aE.mp hs with h|⟨l,q,h⟩
 obtain⟨v,i,rfl⟩:=iB.mp h;refine .flip i rfl I ?_;delta nextT;simp only[i];exact flip_flip i
 . have N:=b.G6.bn l q;have o:T.full (T.B l)=U':=by
    cases z:T.full (T.B l)with
    |false=>rfl
    |true=>exact absurd rfl ((b.fu _ N z).2 l q)
   have n:=(E.nb b.G6) l q;have:C.pl=U l/\C.ch=T.B l:=by rcases aD.mp h with ⟨_,rfl⟩|⟨_,v,_,rfl⟩<;>exact⟨rfl,rfl⟩
   have:T.v8 (B5 f) a l≠0:=λz=>by rcases aD.mp h with ⟨Q,_⟩|⟨Q,_⟩<;>rw[z,R9]at Q<;>exact kS
   generalize F:(if 0<T.v8 (B5 f) a l then 1 else -1)=g
   have c:g=1\/g = -1:=by rw[<-F];split<;>simp
   have D:0<g*T.v8 (f.pb K) a l:=by
    show 0<g*T.v8 (B5 f) a l
    rw[<-F];split<;>lia
   have x:C.top=0->∀k,k<(f.pb K).m->(0<T.sg a*T.v8 (f.pb K) a k/\T.am (f.pb K) k=0)\/(T.sg a*T.v8 (f.pb K) a k<0/\∃v,(f.pb K).u (T.B k)=U v/\T.am (f.pb K) k=v*T.size)->T.B l<=T.B k:=by
    intro R k M O;rcases O with ⟨Q,G⟩|⟨Q,v,i,G⟩
    . have:=H ⟨T.am (B5 f) k,T.sg a*T.v8 (B5 f) a k,T.B k,U k,U'⟩ (aE.mpr (.inr ⟨k,M,aD.mpr (.inl ⟨Q,rfl⟩)⟩));unfold le at this;have:T.am (B5 f) k=0:=G
      simp_all
    . have:=H ⟨v*T.size-T.am (B5 f) k,-(T.sg a*T.v8 (B5 f) a k),T.B k,U k,Uf⟩ (aE.mpr (.inr ⟨k,M,aD.mpr (.inr ⟨Q,v,i,rfl⟩)⟩));unfold le at this;have:T.am (B5 f) k=v*T.size:=G
      simp_all
   have d:∀j,(W9 f T a l g).full j=if j=a then U' else T.full j:=λj=>by
    show(S3 f T a).full j=_;delta S3;by_cases z:T.full a=Uf;rw[f9 z];show(if j=a then !T.full a else T.full j)=_;rw[z];rfl;rw[f6 z];by_cases y:j=a;rw[f9 y,y];simpa using z;rw[f6 y]
   have w:∀p,(W9 f T a l g).rt p=T.rt p+(if T.full a=Uf then Sx.uv (f.pb K) a*(f.pb K).A a p else 0):=λp=>by
    show(S3 f T a).rt p=_;delta S3;by_cases z:T.full a=Uf
    . rw[f9 z,f9 z];show T.rt p + -(T.sg a*(f.lim a).getD 0)*N6 (f.col a) p=T.rt p+(f.lim a).getD 0*N6 (f.col a) p
      have:T.sg a = -1:=by delta Sx.Tb.sg;rw[f9 z]
      congr 1
      congr 1
      simp[*]
    rw[f6 z,f6 z,qF]
   have t:=Gd S b (a:=a) (g:=g) q;rcases aD.mp h with ⟨Q,rfl⟩|⟨Q,v,i,rfl⟩
   . refine .move (tp:=U') q c D I ⟨λ_=>⟨rfl,rfl⟩,λz=>by exact nT z⟩ ?_ x;delta nextT;simp only[lZ,if_false];rw[F];refine⟨t,λj P=>?_,λp Q=>?_⟩;rw[d];by_cases z:j=a;rw[f9 z,f9 z];rw[f6 z,f6 z];by_cases y:j=T.B l;rw[f9 y,y,o];rw[f6 y];rw[w];simp
   . refine .move (tp:=Uf) q c D I ⟨λz=>(nF z),λ_=>⟨?_,rfl,?_⟩⟩ ?_ x
     . show v*T.size-_=Sx.uv (f.pb K) (T.B l)*T.size-_
       have:Sx.uv (f.pb K) (T.B l)=v:=by delta Sx.uv;show(f.lim (T.B l)).getD 0=v;rw[i];rfl
       rw[this];rfl
     show f.lim (T.B l)≠J;rw[i];simp
     delta nextT;simp only[U7];rw[F];have L:(W9 f T a l g).sg (T.B l)=1:=by delta Sx.Tb.sg;rw[d,f6 n,o];rfl
     refine⟨⟨t.b,t.size,t.il,t.ir,t.pr⟩,λj P=>?_,λp Q=>?_⟩;show(if j=T.B l then !(W9 f T a l g).full (T.B l)else(W9 f T a l g).full j)=_;rw[d,d,f6 n,o];by_cases z:j=a;rw[f6 (by rw[z];exact λy=>n y.symm),f9 z,f9 z];rw[f6 z,f6 z];rfl;show(W9 f T a l g).rt p + -((W9 f T a l g).sg (T.B l)*(f.lim (T.B l)).getD 0)*N6 (f.col (T.B l)) p=_;have e:(if Uf=Uf then Sx.uv (f.pb K) (T.B l)*(f.pb K).A (T.B l) p else 0)=(f.lim (T.B l)).getD 0*N6 (f.col (T.B l)) p:=f9 rfl;rw[w,L,e,cU,yF];rfl
end
structure Data where
 c:p9
 r:p9
 g:p9
 t:p9
 f:p9
section
variable{Q:V3}{b:Nat->Int}{c:Nat}{tp:Nat->Option Q2}
noncomputable abbrev dP(Z:Data)(Q:V3)(w:Option Addr)(T:Sx.Tb)(r:Option Nat)(x7 x8:Option PV):Ds:=[U (.dat Z.c),U (.dat Z.r),U (.dat Z.g),U (.dat Z.t),U (.dat Z.f),U (.ob w (B8 Q T)),U (.dat (optN r)),x7,x8]
abbrev Iz(Q:V3)(tp:Nat->Option Q2):p9:=.list (rl Q.n λj=>X1 (tp j))
noncomputable abbrev Js(Q:V3)(tp:Nat->Option Q2)(T:Sx.Tb):p9:=.list (rl Q.n λj=>fr (bL Q T tp Q.m j))
noncomputable abbrev PH(Q:V3)(T:Sx.Tb)(a:Nat):p9:=.list (rl Q.n λj=>fr (dR Q T a Q.m j))
theorem HC(h:∀d∈A,LF d=Uf):lH A=Uf:=by
 induction A with
 |nil=>rfl
 |cons x A b=>rw[lH,h x D1,b λd a=>h d (C6 _ a)];rfl
theorem JA(q:Q2):LF (fr q)=Uf:=rfl
theorem CO{f:Nat->p9}(h:∀i,LF (f i)=Uf):lH (rl m f)=Uf:=HC λd a=>by obtain⟨i,_,rfl⟩:=mem_map.mp a;exact h i
theorem a0t(s:eV):LF (T1 s)=Uf:=by delta T1;cases s.pl<;>rfl
theorem qm(h:G r=U (.own A))(a:lH A=Uf):aa G r=U (.own A):=by
 delta aa
 simp_all
theorem Aa(h:G r=sd S)(a:LF S=Uf):aa G r=sd S:=by
 delta aa
 simp_all
theorem a2m(h:G r=U g):q5 b5 (f7 G u3) r=b5 [g.d]:=by delta q5 f7 u3;rw[h];rfl
theorem call2(h:u r=U g)(a:G r=U R):q5 b5 (f7 u (f7 G u3)) r=b5 [g.d,R.d]:=by delta q5 f7 u3;rw[h];rw[a];rfl
theorem HD(r:Option Nat):LF (optN r)=Uf:=by cases r<;>rfl
structure Eb(Q:V3)(b:Nat->Int)(c:Nat)(tp:Nat->Option Q2):Prop where
 s:Small Q b c
 sc:∀j,j<Q.n->Bt 900 (Q.sc j)
 un:0<Q.un/\Bt 900 Q.un
 mu:∀t,t<3->0<Q.mu t/\Bt 900 (Q.mu t)
 tl:∀j,j<Q.n->(tp j=J↔Q.lim j=J)
theorem Eb.mix(H:Eb Q b c tp)(K:Sx.Ok (Q.pb b) c8):cN [E4 Q c8,Iz Q tp]=U (.own (rl Q.n λj=>fr (bL Q c8 tp Q.m j))):=
 a0n (H.s.tab K) (λj a=>(H.sc j a).mono f5) H.un.2 (H.s.tab K).sb H.un.1 λj a z y=>(K.fu j a z).1 ((H.tl j a).mp y)
theorem IB(H:Eb Q b c tp)(K:Sx.Ok (Q.pb b) c8)(E:Sx.Q5 (Q.pb b) c8 m)(Z:Data)(A:Z.t=Iz Q tp)(w:Option Addr)(x7 x8:Option PV):
  (stI Q c8 m Q.m=[]/\bu (dP Z Q w c8 (U m) x7 x8)=U (.ret (.dat (.tuple [.str "endless",Js Q tp c8,PH Q c8 m])))) \/
  ∃s T' r x L,bu (dP Z Q w c8 (U m) x7 x8)=U (.next (dP Z Q w T' r x L))/\Sx.Step (Q.pb b) c8 m s T'/\(r=J->∀j,j<Q.n->¬Sx.Q5 (Q.pb b) T' j)/\∀a',r=U a'->Sx.Q5 (Q.pb b) T' a'/\(s=0->∀j,j<a'->¬Sx.Q5 (Q.pb b) T' j):=by
 have KT:=H.s.tab K;have h:=E.an;generalize l:(oo (bx Q c8 m))=PC;have S:u6 7 (aa (R1 "Table" "paces" Y6 (R6 5) (f7 (q9 6) u3))) (dP Z Q w c8 (U m) x7 x8)=U (.next (dP Z Q w c8 (U m) (sd PC) x8)):=by
  have e:R1 "Table" "paces" Y6 (R6 5) (f7 (q9 6) u3) (dP Z Q w c8 (U m) x7 x8)=U (.own (bx Q c8 m)):=by exact RF KT h
  rw[dV,qm e (CP _ _),<-l];rfl
 have C:u6 8 (q5 bQ (f7 (aa (q5 iO (f7 (R6 5) (f7 (q9 6) (f7 (q9 7) u3))))) u3)) (dP Z Q w c8 (U m) (sd PC) x8)=U (.next (dP Z Q w c8 (U m) (sd PC) (sd (gu ((stI Q c8 m Q.m).foldl fU J))))):=by
  have e:q5 iO (f7 (R6 5) (f7 (q9 6) (f7 (q9 7) u3))) (dP Z Q w c8 (U m) (sd PC) x8)=U (.own ((stI Q c8 m Q.m).map T1)):=by rw[<-l];exact Qm KT h
  have p:q5 bQ (f7 (aa (q5 iO (f7 (R6 5) (f7 (q9 6) (f7 (q9 7) u3))))) u3) (dP Z Q w c8 (U m) (sd PC) x8)=sd (gu ((stI Q c8 m Q.m).foldl fU J)):=by
   rw[a2m (qm e (HC λd G=>by obtain⟨s,_,rfl⟩:=mem_map.mp G;exact a0t s))];exact SU λs f=>YI KT h f
  rw[dV,p];rfl
 have u:=Na (stI Q c8 m Q.m) J (λs f=>zD f) (λr z=>by exact nE z)
 delta bu;rw[A5,S,y8,A5,C,y8,A5];cases ho:(stI Q c8 m Q.m).foldl fU J with
 |none =>
  refine .inl ⟨(u.1 ho).2,?_⟩;have M:aa (q5 cN (f7 (R6 5) (f7 (q9 3) u3))) (dP Z Q w c8 (U m) (sd PC) (sd (gu J)))=U (.own (rl Q.n λj=>fr (bL Q c8 tp Q.m j))):=by
   refine qm ?_ (CO λi=>JA _);show cN [E4 Q c8,Z.t]=_;rw[A];exact H.mix K
  have p:aa (q5 kL (f7 (R6 5) (f7 (q9 6) (f7 (q9 7) u3)))) (dP Z Q w c8 (U m) (sd PC) (sd (gu J)))=U (.own (rl Q.n λj=>fr (dR Q c8 m Q.m j))):=by
   refine qm ?_ (CO λi=>JA _);rw[<-l];exact Yl KT h λj g=>(H.sc j g).mono f5
  delta P5;simp only[D4,x9,f7,M,p];rfl
 |some s =>
  obtain⟨m1,_,B⟩:=u.2 s ho;have f:s∈stI Q c8 m Q.m:=by
   rcases m1 with z|z
   exact nE z;exact z
  have q:=Mo H.s K E f B;have P:A8 (t6 iG (q9 8) (fC .none)) (dP Z Q w c8 (U m) (sd PC) (sd (gu (U s))))=U U':=rfl;have N:P1 (jl me (gZ 5 (O5 (q9 6) (O5 (q9 7) (O5 (q9 8) eN))))) (dP Z Q w c8 (U m) (sd PC) (sd (gu (U s))))=U (.next (dP Z Q w (nextT Q c8 m s) (U m) (sd PC) (sd (gu (U s))))):=by
   delta P1;rw[wX (xs:=[.int m,PC,T1 s]) rfl rfl (by rw[<-l];exact Xc KT K h f)];rfl
  obtain⟨r,D,F,V⟩:=AK (H.s.tab (q.ok K E)) (decide (s.top=0));refine .inr ⟨s.top,nextT Q c8 m s,r,sd PC,sd (gu (U s)),?_,q,λy j g z=>?_,λa' o=>?_⟩
  . delta P5;rw[P];simp only[x5,lZ,if_false,K0,y8,A5,N];rw[dV,Aa ?_ (HD r)];rfl
    . have:(t6 U4 (t6 D5 (q9 8) (fC (.int 0))) (fC (.int 0))) (dP Z Q w (nextT Q c8 m s) (U m) (sd PC) (sd (gu (U s))))=sd (.bool (decide (s.top=0))):=by rfl
      exact D
  have:=(gn_enter g b).mpr z;rw[F y j g]at this;exact nT this;obtain⟨O,I,R⟩:=V a' o;refine⟨(gn_enter O b).mp I,λv j g z=>?_⟩;have:=(gn_enter (qI s9 s9) b).mpr z;rw[R (by simpa using v) j g]at this;exact nT this
structure WS where
 T:Sx.Tb
 a:Nat
 cf:Bool
 x7:Option PV
 x8:Option PV
structure WS.Ok(Q:V3)(b:Nat->Int)(s:WS):Prop where
 ok:Sx.Ok (Q.pb b) s.T
 en:Sx.Q5 (Q.pb b) s.T s.a
 cr:s.cf=Uf->∀j,j<s.a->¬Sx.Q5 (Q.pb b) s.T j
inductive Ends(Z:Data)(Q:V3)(b:Nat->Int)(tp:Nat->Option Q2)(w:Option Addr):Out->Prop
 |best {T x7 x8}:Sx.Ok (Q.pb b) T->(∀j,j<Q.n->¬Sx.Q5 (Q.pb b) T j)->Ends Z Q b tp w (.next (dP Z Q w T J x7 x8))
 |endless {T:Sx.Tb}{a:Nat}:Sx.Ok (Q.pb b) T->Sx.Q5 (Q.pb b) T a->stI Q T a Q.m=[]->Ends Z Q b tp w (.ret (.dat (.tuple [.str "endless",Js Q tp T,PH Q T a])))
theorem xg{Fc:DB}(a:Fc r=U Uf)(b:a7 r=U (.next X)):N2 Fc a7 (m+1) r=N2 Fc a7 m X:=by
 rw[N2,a]
 simp_all
theorem Ko(H:Eb Q b c tp)(Z:Data)(B:Z.t=Iz Q tp)(w:Option Addr)(g:WS)(A:g.Ok Q b):∃m o,N2 cF bu m (dP Z Q w g.T (U g.a) g.x7 g.x8)=U o/\Ends Z Q b tp w o:=by
 have l:∀T a (x7 x8),cF (dP Z Q w T (U a) x7 x8)=U Uf:=λ_ _ _ _=>rfl;have I:∀T (x7 x8),cF (dP Z Q w T J x7 x8)=U U':=λ_ _ _=>rfl
 let j:WS->Prop:=λs=>∃m o,N2 cF bu m (dP Z Q w s.T (U s.a) s.x7 s.x8)=U o/\Ends Z Q b tp w o
 refine uK λK=>?_
 have u:∀s:{s:WS // s.Ok Q b/\¬j s},∃x:{s:WS // s.Ok Q b/\¬j s},∃top,Sx.Step (Q.pb b) s.1.T s.1.a top x.1.T/\(x.1.cf=Uf↔top=0):=by
  rintro⟨s,f,k⟩;rcases IB H f.ok f.en Z B w s.x7 s.x8 with ⟨h,N⟩|⟨top,F,r,n,v,h,q,E,O⟩
  refine absurd ⟨1,_,?_,.endless f.ok f.en h⟩ k;rw[N2,l];simp only[x5,U7,N]
  . have p:=q.ok f.ok f.en;cases r with
    |none =>
     refine absurd ⟨2,_,?_,.best (x7:=n) (x8:=v) p (E rfl)⟩ k;rw[xg (l _ _ _ _) h,N2,I];rfl
    |some y =>
     obtain⟨M,G⟩:=O y rfl;refine⟨⟨⟨F,y,decide (top=0),n,v⟩,⟨p,M,λz=>G (oE z)⟩,λz=>k ?_⟩,top,q,by simp⟩;obtain⟨m,o,L,D⟩:=z;exact⟨m+1,o,by rw[xg (l _ _ _ _) h];exact L,D⟩
 let q0:{s:WS // s.Ok Q b/\¬j s}:=⟨g,A,K⟩
 let d:Nat->{s:WS // s.Ok Q b/\¬j s}:=λi=>Nat.rec q0 (λ_ s=>(u s).choose) i
 have e:=λi=>(u (d i)).choose_spec;exact Sx.Sa (C:=⟨λi=>(d i).1.T,λi=>(d i).1.a,λi=>(e i).choose,λi=>(d i).1.cf⟩) ⟨λi=>(d i).2.1.ok,λi=>(d i).2.1.en,λi=>(d i).2.1.cr,λi=>(e i).choose_spec.1,λi=>(e i).choose_spec.2⟩
end
open Sx (sN pN sm det F7 dot)
structure jL(I:F4)(c:Nat):Prop where
 fi:∀k p,k<I.m->p<I.m->I.row p (I.fs k)=if p=k then(1,1)else q0
 inj:∀k l,k<I.m->l<I.m->I.fs k=I.fs l->k=l
 r0:∀p,p<I.m->0<=(I.rg p).1
 t0:∀j q,j<I.n->I.tp j=U q->0<=q.1
 ft:∀k q,k<I.m->I.tp (I.fs k)=U q->(I.rg k).1*q.2<=q.1*(I.rg k).2
 cn:∀j,j<I.n->sN I.m (λp=>(wh (I.row p j) (I.sc j)).natAbs)<=2 ^ c
 c1:c*I.m<=2000
 c2:c<=1000
section
variable{I:F4}
theorem Qw{g:Nat->Nat}(h:∀i,i<m->d5 i=g i):sN m d5=sN m g:=Nat.le_antisymm (Sx.Bz λi a=>lQ (h i a)) (Sx.Bz λi a=>lQ (h i a).symm)
theorem DK(I:F4)(j:Nat)(a:m<I.m):N6 (I.J8.col j) m=wh (I.row m j) (I.sc j):=by
 show N6 (I.bY j I.m) m=_;rw[Nr,f9 a]
theorem CN(H:E8 I D E M){v:Int}(b:m<I.n)(h:I.lim m=U v):∃q,I.tp m=U q/\0<q.2/\v*(q.2*I.sc m)=q.1*I.un:=by
 obtain⟨e,k,l,s⟩:=H.sc b;obtain⟨r,c,rfl⟩:=Option.map_eq_some_iff.mp h;have g:=H.un.2.2.2.2 m r b c;obtain⟨q,hq,rfl⟩:=Option.map_eq_some_iff.mp c;obtain⟨d,o⟩:=H.tp m q b hq;obtain⟨i,p,f,F⟩:=Z8 (K9 d.pos e);refine⟨q,hq,d.pos,?_⟩;have a:wh (N3 q (1,I.sc m)) I.un*(D8 (q.1*1) (q.2*I.sc m)).2=(D8 (q.1*1) (q.2*I.sc m)).1*I.un:=(xh (H.hq b c).1.pos g);generalize wh (N3 q (1,I.sc m)) I.un=v at a ⊢;generalize (D8 (q.1*1) (q.2*I.sc m)).1=x at *;generalize (D8 (q.1*1) (q.2*I.sc m)).2=y at *;have:y*(v*(q.2*I.sc m))=y*(q.1*I.un):=by
  calc y*(v*(q.2*I.sc m))=(v*y)*(q.2*I.sc m):=by grind
   _=(x*I.un)*(q.2*I.sc m):=by rw[a]
   _=(x*(q.2*I.sc m))*I.un:=by grind
   _=(q.1*1*y)*I.un:=by rw[f]
   _=y*(q.1*I.un):=by grind
 exact zu K8 this
theorem nP:I.tp m=J↔I.lim m=J:=by delta F4.lim F4.hq;simp
theorem wt0(I:F4)(t j:Nat)(h:3<=t):I.wt t j=0:=by
 have:R4 (I.cost j) t=q0:=by
  match t,h with
  |t+3,_=>rfl
 delta F4.wt wh F4.wq;rw[this];have:(N3 q0 (I.sc j,1)).1=0:=by delta N3 D8;rw[cz,Int.zero_fdiv]
 simp_all
theorem F4.side(H:E8 I D E M)(G:jL I m):Eb I.J8 I.b m I.tp:=by
 refine⟨⟨H.m1,H.n1,G.c1,G.c2,λj a=>?_,λj a=>B6 (Ts I j I.m) H.m1,λj a e k=>?_,λt j d a=>H.wt d a,λt j d=>wt0 I t j d,λj v a g=>⟨H.lim a g,?_⟩,λp f=>(H.b f).mono f5⟩,λj a=>(H.sc a).2.2.1,⟨H.un.1,H.un.2.2.1⟩,λt d=>⟨(H.mu d).1,(H.mu d).2.2.1⟩,λj _=>nP⟩;rw[Qw λp f=>by rw[DK I j f]];exact G.cn j a;obtain⟨h,i⟩:=Tq I j I.m e k;refine⟨h,?_⟩;rw[i];exact((H.row e.1 j h a).1.bt.mul (H.sc a).2.2.1.fdiv).mono f5
 . obtain⟨q,hq,q2,e⟩:=CN H a g;have:=fz (G.t0 j q a hq) (T7 H.un.1);rcases eI v 0 with z|z
   have:=zr z (K9 q2 (H.sc a).1);lia;exact z
theorem BZ(H:E8 I D E M)(G:jL I m)(g:l<I.m):I.sc (I.fs l)=1:=by
 obtain⟨e,i,h,d⟩:=BJ (D:=1) ((D0 I.m).map λp=>(I.row p (I.fs l)).2) 1 f5 ⟨1,by rfl⟩ λx b=>by
  obtain⟨p,f,rfl⟩:=mem_map.mp b;rw[G.fi l p g (mem_range.mp f)];split;exact⟨by decide,⟨1,rfl⟩⟩;simp
 have a:I.sc (I.fs l)∣1:=d;have:=fV f5 a;have:0<I.sc (I.fs l):=e;exact Int.le_antisymm s9 s9
theorem yh(H:E8 I D E M)(G:jL I m)(b:l<I.m)(a:O<I.m):N6 (I.J8.col (I.fs l)) O=if l=O then 1 else 0:=by
 rw[DK I _ a,BZ H G b,G.fi l O b a];by_cases z:O=l;rw[f9 z,f9 z.symm];rfl;rw[f6 z,f6 λy=>z y.symm];rfl
theorem HX(x:Nat->Int)(b:l<m):dot m (λq=>if l=q then 1 else 0) x=x l:=by
 delta Sx.dot;rw[Sx.V7 b λi _ a=>by
  show(if l=i then 1 else 0)*x i=0
  rw[f6 (λz=>a z.symm),cz]]
 simp
theorem Nb(H:E8 I D E M)(G:jL I m):Sx.Q7 (I.J8.pb I.b) I.tab:=by
 have l:∀k r,k<I.m->r<I.m->I.tab.M (I.J8.pb I.b) k r=if k=r then 1 else 0:=λk r h j=>yh H G h j;refine⟨H.fs,G.inj,⟨1,.inl rfl,?_,λr j x=>?_⟩,by show 0<1;decide,λp q e hq=>?_,λt q hq=>?_⟩;show 1*1=det I.m (I.tab.M (I.J8.pb I.b));rw[Sx.Y4 l,Sx.Ib];rfl
 . show 1*dot I.m (λq=>if r=q then 1 else 0) x=det I.m (F7 (I.tab.M (I.J8.pb I.b)) r x)
   have a:r<I.m:=j;rw[HX x a,cU];have n:det I.m (F7 (I.tab.M (I.J8.pb I.b)) r x)=det I.m (F7 (λm r=>if m=r then 1 else 0) r λp=>sm I.m λi=>x i*Sx.unit i p):=Sx.Y4 λk p h e=>by
    by_cases z:k=r;rw[z,Sx.bG,Sx.bG,Sx.Kq x e];rw[Sx.aw _ _ _ z,Sx.aw _ _ _ z,l k p h e]
   rw[n,Sx.Ia _ a x Sx.unit I.m,Sx.V7 a λi f g=>?_]
   . have:det I.m (F7 (λm r=>if m=r then 1 else 0) r (Sx.unit r))=1:=by
       refine yy ?_ (Sx.Ib I.m);exact Sx.Y4 λk p h e=>by
        by_cases z:k=r;rw[z,Sx.bG];delta Sx.unit;by_cases y:p=r;rw[f9 y,f9 y.symm];rw[f6 y,f6 λw=>y w.symm];rw[Sx.aw _ _ _ z]
     rw[this,ou]
   . have:det I.m (F7 (λm r=>if m=r then 1 else 0) r (Sx.unit i))=0:=Sx.rP f a g λp e=>by
       rw[Sx.aw _ _ _ g,Sx.bG];delta Sx.unit;by_cases y:i=p;rw[f9 y,f9 y.symm];rw[f6 y,f6 λw=>y w.symm]
     rw[this,R9]
 show sm I.m (λk=>(if k=q then 1 else 0)*N6 (I.J8.col (I.fs k)) p)=if p=q then 1 else 0;have d:q<I.m:=hq;rw[Sx.V7 d λi _ f=>by rw[f6 f,cz],f9 rfl,cU,yh H G d e];by_cases y:p=q;rw[f9 y,f9 y.symm];rw[f6 y,f6 λw=>y w.symm];show I.wt t (I.fs q)=sm I.m λk=>I.wt t (I.fs k)*(if k=q then 1 else 0);have d:q<I.m:=hq;rw[Sx.V7 d λi _ f=>by simp_all,f9 rfl,ou]
theorem SS(H:E8 I D E M)(G:jL I m):Sx.Ok (I.J8.pb I.b) I.tab:=by
 have g:∀k,k<I.m->I.tab.am (I.J8.pb I.b) k=I.b k:=λk a=>HX I.b a;have i:∀k,k<I.m->I.b k*(I.rg k).2=(I.rg k).1*I.un:=λk a=>xh (H.rg k a).1.pos (H.un.2.2.2.1 k a);refine⟨Nb H G,λp o=>?_,λj n z=>(nT z),λk a=>?_,λk v a l=>?_⟩
 . have:Sx.fsum (I.J8.pb I.b) I.tab (λj=>(I.J8.pb I.b).A j p)=0:=Sx.iw λj _=>by rfl
   rw[this];show I.b p=I.b p-0;simp[*]
 . rw[g k a];have h:=i k a;have:=fz (G.r0 k a) (T7 H.un.1);have f:=(H.rg k a).1.pos;rcases eI (I.b k) 0 with z|z
   have:=zr z f;lia;exact z
 . rw[g k a];show I.b k<=v*1
   rw[ou];have d:=a;obtain⟨q,hq,q2,e⟩:=CN H (H.fs k d) l;rw[BZ H G d,ou]at e;have h:=i k d;have f:=(H.rg k d).1.pos;have:=mQ (G.ft k q d hq) (T7 H.un.1);generalize (I.rg k).1=x at *;generalize (I.rg k).2=y at *;have:(q.2*y)*I.b k<=(q.2*y)*v:=by
    have:(q.2*y)*I.b k=x*q.2*I.un:=by
     calc (q.2*y)*I.b k=q.2*(I.b k*y):=by grind
      _=q.2*(x*I.un):=by rw[h]
      _=x*q.2*I.un:=by grind
    lia
   exact zt this (K9 q2 f)
inductive Res(I:F4):p9->Prop
 |best {T}:Sx.Ok (I.J8.pb I.b) T->(∀j,j<I.n->¬Sx.Q5 (I.J8.pb I.b) T j)->Res I (.tuple [.str "best",Js I.J8 I.tp T,.list (rl I.m λp=>K7 (aR I.J8 T p))])
 |endless {T:Sx.Tb}{a:Nat}:Sx.Ok (I.J8.pb I.b) T->Sx.Q5 (I.J8.pb I.b) T a->stI I.J8 T a I.m=[]->Res I (.tuple [.str "endless",Js I.J8 I.tp T,PH I.J8 T a])
theorem a0s(x:Tr):LF (K7 x)=Uf:=rfl
theorem KS(H:E8 I D E M)(G:jL I m):∃d,oN [I.G3,I.ah,I.F2,I.L6,I.U3]=sd d/\Res I d:=by
 have S:=F4.side H G;have l:=SS H G;have y:S6 5 (rL "Table" bC (f7 (q9 0) (f7 (q9 1) (f7 (q9 2) (f7 (q9 3) (f7 (q9 4) u3)))))) [sd I.G3,sd I.ah,sd I.F2,sd I.L6,sd I.U3,J,J,J,J]=U (.next [sd I.G3,sd I.ah,sd I.F2,sd I.L6,sd I.U3,U (.ob J (B8 I.J8 I.tab)),J,J,J]):=by
  have e:rL "Table" bC (f7 (q9 0) (f7 (q9 1) (f7 (q9 2) (f7 (q9 3) (f7 (q9 4) u3))))) [sd I.G3,sd I.ah,sd I.F2,sd I.L6,sd I.U3,J,J,J,J]=U (.ob J (B8 I.J8 I.tab)):=by
   delta rL;rw[show f7 (q9 0) (f7 (q9 1) (f7 (q9 2) (f7 (q9 3) (f7 (q9 4) u3)))) [sd I.G3,sd I.ah,sd I.F2,sd I.L6,sd I.U3,J,J,J,J]=U [I.G3,I.ah,I.F2,I.L6,I.U3]from rfl,x5];rw[show([I.G3,I.ah,I.F2,I.L6,I.U3]).map PV.dat=[.dat I.G3,.dat I.ah,.dat I.F2,.dat I.L6,.dat I.U3]from rfl,Xr H];rfl
  rw[Ah,e];rfl
 generalize k:(⟨I.G3,I.ah,I.F2,I.L6,I.U3⟩:Data)=Z;obtain⟨r,q,K,N⟩:=AK (S.s.tab l) U';have A:u6 6 (aa (q5 ig (f7 (R6 5) (f7 (fC (.bool U')) u3)))) [sd I.G3,sd I.ah,sd I.F2,sd I.L6,sd I.U3,U (.ob J (B8 I.J8 I.tab)),J,J,J]=U (.next (dP Z I.J8 J I.tab r J J)):=by
  rw[dV,Aa ?_ (HD r),<-k];rfl;rw[call2 rfl rfl];exact q
 have wh:∃c o,N2 cF bu c (dP Z I.J8 J I.tab r J J)=U o/\Ends Z I.J8 I.b I.tp J o:=by
  cases r with
  |none =>
   refine⟨1,_,?_,.best (x7:=J) (x8:=J) l λj t z=>?_⟩;rfl;have:=(gn_enter t I.b).mpr z;rw[K rfl j t]at this;exact nT this
  |some a =>
   obtain⟨F,u,_⟩:=N a rfl;exact Ko S Z (by rw[<-k];rfl) J ⟨I.tab,a,U',J,J⟩ ⟨l,(gn_enter F I.b).mp u,λz=>by exact nT z⟩
 obtain⟨c,o,w,L⟩:=wh;delta oN J3;rw[show(S8 [I.G3,I.ah,I.F2,I.L6,I.U3]++D3 (9-5) J)=[sd I.G3,sd I.ah,sd I.F2,sd I.L6,sd I.U3,J,J,J,J]from rfl]
 rw[A5,y,y8,A5,A,y8,A5,(JK w)];cases L with
 |endless f k2 v=>exact⟨_,rfl,.endless f k2 v⟩
 | @best T g h f k2 =>
  refine⟨_,?_,.best f k2⟩;have C:aa (q5 cN (f7 (R6 5) (f7 (q9 3) u3))) (dP Z I.J8 J T J g h)=U (.own (rl I.n λj=>fr (bL I.J8 T I.tp I.m j))):=by
   refine qm ?_ (CO λi=>JA _);rw[call2 rfl (by rw[<-k];rfl)];exact S.mix f
  have q:y9 (F3 O4 (f7 (q5 E2 (f7 (q9 1) u3)) u3)) A1 z0 sq (dP Z I.J8 J T J g h)=U (.own (rl I.m λp=>K7 (aR I.J8 T p))):=by
   have B:F3 O4 (f7 (q5 E2 (f7 (q9 1) u3)) u3) (dP Z I.J8 J T J g h)=U (rl I.m λi=>.int i):=by rw[<-k];walk_at "r";rw[G8,bI (by have:=H.m1;lia),fY,xv]
   delta y9;rw[B,x5,f9 (bM H.m1),N5 λp x=>⟨_,.dat (K7 (aR I.J8 T p)),rfl,by refine Aa ?_ (a0s _);exact Rl (S.s.tab f) x S.mu,rfl⟩];rfl
  rw[y8];simp only[D4,x9,f7,C,q];rfl
end
def a2A(k:Nat)(l:List (Option Q2)):Prop:=∀t,U t∈l->B4 k t
abbrev jZ:Tr:=⟨q0,q0,q0⟩
theorem Yv(h:1<=m):ic m jZ:=⟨qs h,qs h,qs h⟩
def a3L(k:Nat)(l:List Tr):Prop:=∀x∈l,ic k x
def smI(costs:List Tr)(mix:List Q2):Nat->Tr
 | 0=>jZ
 |i+1=>BD (smI costs mix i) (costs.getD i jZ) (mix.getD i q0)
noncomputable def zO(x:Tr)(q:Q2):Tr:=⟨N3 x.a q,N3 x.b q,N3 x.c q⟩
noncomputable def DX(x y:Tr):Tr:=⟨cT x.a y.a,cT x.b y.b,cT x.c y.c⟩
theorem Xe(d:ic m b6)(hq:B4 l o):ic (m+l) (zO b6 o):=⟨iR d.a hq,iR d.b hq,iR d.c hq⟩
theorem XU{y:Tr}(d:ic m b6)(e:ic l y):ic (m+l+1) (DX b6 y):=⟨tD d.a e.a,tD d.b e.b,tD d.c e.c⟩
theorem Nj{a c d:Int}(j:0<D)(hd:0<d):((a:Rat)/(D:Rat)<(c:Rat)/(d:Rat))↔a*d<c*D:=by
 have e:(0:Rat)<D:=by exact_mod_cast j
 have f:(0:Rat)<d:=by exact_mod_cast hd
 have i:(a:Rat)/D*(D*d)=a*d:=by grind
 have g:(c:Rat)/d*(D*d)=c*D:=by grind
 constructor
 . intro h;have:=Pj h (dW e f);rw[i,g]at this
   exact_mod_cast this
 . intro h;have k:(a:Rat)*d<c*D:=by exact_mod_cast h
   refine Rat.lt_of_mul_lt_mul_right ?_ (jB (dW e f));rw[i,g];exact k
theorem sW{p q:Q2}(a:0<p.2)(hq:0<q.2):nr p q=decide (val p<val q):=by delta nr val;rw[decide_eq_decide];exact(Nj a hq).symm
theorem bF:val (0,1)=0:=by rw[val_one];rfl
theorem Xd(b:0<o.2):o.1<0↔val o<0:=by
 have:=Nj (a:=o.1) (c:=0) (d:=1) b f5;have e:((0:Int):Rat)/((1:Int))=0:=by rw[show((0:Rat))=0 from rfl];grind
 rw[e]at this;delta val
 simp_all
theorem CH(a:0<o.2):0<=o.1↔0<=val o:=by
 have:=Xd a;constructor
 . exact λh=>Rat.not_lt.mp λz=>by lia
 exact λh=>Int.not_lt.mp λz=>Rat.not_lt.mpr h (this.mp z)
def Td(row mix:List Q2):Nat->Rat
 | 0=>0
 |i+1=>Td row mix i+val (row.getD i q0)*val (mix.getD i q0)
noncomputable def YT(costs:List Tr)(rows:List (List Q2))(prices:List Tr)(j:Nat):Nat->Tr
 | 0=>costs.getD j jZ
 |i+1=>BD (YT costs rows prices j i) (prices.getD i jZ) (a3v ((rows.getD i []).getD j q0))
abbrev rtL(costs:List Tr)(rows:List (List Q2))(prices:List Tr):List Tr:=(D0 costs.length).map λj=>YT costs rows prices j rows.length
abbrev m1:Q2:=(-1,1)
structure a3J(n m kr kp B:Nat)(costs:List Tr)(rows:List (List Q2))(prices:List Tr):Prop where
 nl:n<=1000
 ml:m<=1000
 cl:costs.length=n
 pl:prices.length=m
 rl:rows.length=m
 rw:∀r∈rows,r.length=n/\a1n kr r
 pf:a3L kp prices
 bf:∀j,j<n->∀i,i<=m->ic B (YT costs rows prices j i)
 bd:B+(kp+1+kr)<=7998
noncomputable def flI(rests:List Tr)(tp:List (Option Q2))(init:Tr):Nat->Tr
 | 0=>init
 |j+1=>if a0Y (rests.getD j jZ) jZ=Uf then BD (flI rests tp init j) (rests.getD j jZ) ((tp.getD j J).getD q0)else flI rests tp init j
structure a4i(n m kr kp kg kt B C:Nat)(costs:List Tr)(rows:List (List Q2))(rights:List Q2)(tp:List (Option Q2))(prices:List Tr):Prop where
 r:a3J n m kr kp B costs rows prices
 gl:rights.length=m
 tl:tp.length=n
 gf:a1n kg rights
 tf:a2A kt tp
 cf:∀j,j<=n->ic C (flI (rtL costs rows prices) tp (smI prices rights rights.length) j)
 b1:1+(kp+kg+1)*m+(kp+kg)<=7998
 b2:C+(B+kt)<=7998
def t8(f:Nat->Rat):Nat->Rat
 | 0=>0
 |n+1=>t8 f n+f n
theorem A2{g:Nat->Rat}:∀n,(∀i,i<n->H i=g i)->t8 H n=t8 g n:=by
 intro l_;induction l_ with
 |zero =>
  intro _;exact rfl
 |succ n ih_ =>
  intro h;show t8 H n+H n=t8 g n+g n;rw[ih_ λi a=>h i eu,h n z9]
theorem hP(f g:Nat->Rat):∀n,t8 (λi=>f i-g i) n=t8 f n-t8 g n:=by
 intro l_;induction l_ with
 |zero =>
  show 0=0-0;grind
 |succ n ih_ =>
  show t8 (λi=>f i-g i) n+(f n-g n)=(t8 f n+f n)-(t8 g n+g n);rw[ih_];grind
theorem V6(f:Nat->Rat)(c:Rat):∀n,t8 f n*c=t8 (λi=>f i*c) n:=by
 intro l_;induction l_ with
 |zero =>
  show 0*c=0;grind
 |succ n ih_ =>
  show(t8 f n+f n)*c=t8 (λi=>f i*c) n+f n*c;rw[<-ih_];grind
theorem cI(f g:Nat->Rat):∀n,t8 (λi=>f i+g i) n=t8 f n+t8 g n:=by
 intro l_;induction l_ with
 |zero =>
  show 0=0+0;grind
 |succ n ih_ =>
  show t8 (λi=>f i+g i) n+(f n+g n)=(t8 f n+f n)+(t8 g n+g n);rw[ih_];grind
theorem iu:∀n,t8 (λ_=>0) n=0:=by
 intro l_;induction l_ with
 |zero =>
  exact rfl
 |succ n ih_ =>
  show t8 (λ_=>0) n+0=0;rw[ih_];grind
theorem AB(f:Nat->Nat->Rat)(m:Nat):∀n,t8 (λj=>t8 (λi=>f i j) m) n=t8 (λi=>t8 (λj=>f i j) n) m:=by
 intro l_;induction l_ with
 |zero =>
  show 0=t8 (λi=>0) m;rw[iu]
 |succ n ih_ =>
  show t8 (λj=>t8 (λi=>f i j) m) n+t8 (λi=>f i n) m=t8 (λi=>t8 (λj=>f i j) n+f i n) m;rw[ih_,cI]
structure Part(π:Tr->Q2):Prop where
 more:∀x y q,π (BD x y q)=cT (π x) (N3 (π y) q)
 ok:∀k x,ic k x->B4 k (π x)
 a0i:π jZ=q0
def NN(a b c:Rat):Prop:=0<a\/(a=0/\(0<b\/(b=0/\0<=c)))
theorem NN.add{b c x y:Rat}(h:NN v b c)(k:NN x y z):NN (v+x) (b+y) (c+z):=by unfold NN at *;grind
theorem NN.zero:NN 0 0 0:=.inr ⟨rfl,.inr ⟨rfl,yE⟩⟩
theorem NN.mul{b k:Rat}(h:NN z b v)(d:0<=k):NN (z*k) (b*k) (v*k):=by
 by_cases a:k=0
 . subst a;have e:∀x:Rat,x*0=0:=λx=>by grind
   rw[e,e,e];exact NN.zero
 . have p:0<k:=by grind
   rcases h with h|⟨rfl,h|⟨rfl,h⟩⟩
   exact .inl (dW h p);exact .inr ⟨by grind,.inl (dW h p)⟩;exact .inr ⟨by grind,.inr ⟨by grind,qO h d⟩⟩
theorem NN.sum{fa b a:Nat->Rat}:∀n,(∀j,j<n->NN (fa j) (b j) (a j))->NN (t8 fa n) (t8 b n) (t8 a n)
 | 0,_=>NN.zero
 |n+1,h=>(NN.sum n λj c=>h j eu).add (h n z9)
theorem An(row mix:List Q2):∀n,Td row mix n=t8 (λj=>val (row.getD j q0)*val (mix.getD j q0)) n:=by
 intro l_;induction l_ with
 |zero =>
  exact rfl
 |succ n ih_ =>
  show Td row mix n+_=t8 _ n+_;rw[ih_]
open Sx (sm)
theorem BP(h:0<o.2)(hd:o.2∣D):((wh o D:Int):Rat)=val o*(D:Rat):=by
 have:((wh o D):Rat)*o.2=o.1*D:=by exact_mod_cast (xh h hd)
 have:=fR (show o.2≠0 by exact K8);delta val;grind
theorem nh(f:Nat->Int):∀n,((sm n f:Int):Rat)=t8 (λi=>((f i:Int):Rat)) n:=by
 intro l_;induction l_ with
 |zero =>
  exact rfl
 |succ n ih_ =>
  show((sm n f+f n:Int))=t8 _ n+_;rw[EC,ih_]
section
variable{T:Sx.Tb}
noncomputable def pick(P:Sx.Pb)(T:Sx.Tb)(g:Nat->Int)(j:Nat):Int:=sm P.m λk=>if T.B k=j then g k else 0
theorem Cq(L:Sx.Q7 a0 T)(g f:Nat->Int):sm a0.n (λj=>f j*pick a0 T g j)=sm a0.m λk=>g k*f (T.B k):=by
 have e:sm a0.n (λj=>f j*pick a0 T g j)=sm a0.n λj=>sm a0.m λk=>if T.B k=j then g k*f j else 0:=Sx.A0 λj _=>by delta pick;rw[<-Sx.J6];exact Sx.A0 λk _=>by split<;>grind
 rw[e,Sx.pV];exact Sx.A0 λk b=>by rw[Sx.V7 (L.bn k b) λi _ a=>f6 λz=>a z.symm,f9 rfl]
theorem zJ(L:Sx.Q7 a0 T)(g:Nat->Int)(b:m<a0.m):pick a0 T g (T.B m)=g m:=by delta pick;rw[Sx.V7 b λi c a=>f6 λz=>a (L.inj i m c b z),f9 rfl]
theorem vf(g:Nat->Int)(h:∀k,k<a0.m->T.B k≠m):pick a0 T g m=0:=Sx.iw λk a=>f6 (h k a)
def yv(P:Sx.Pb)(T:Sx.Tb)(j:Nat):Int:=(if T.full j=Uf then T.size*Sx.uv P j else 0)+pick P T (T.am P) j
theorem Uc(L:Sx.Q7 a0 T)(f:Nat->Int):sm a0.n (λj=>f j*yv a0 T j)=T.size*Sx.fsum a0 T f+sm a0.m λk=>T.am a0 k*f (T.B k):=by
 have e:sm a0.n (λj=>f j*yv a0 T j)=sm a0.n λj=>(T.size*(if T.full j=Uf then Sx.uv a0 j*f j else 0))+f j*pick a0 T (T.am a0) j:=Sx.A0 λj _=>by delta yv;split<;>grind
 rw[e,Sx.iV,Sx.J6,Cq L];rfl
theorem XY(K:Sx.Ok a0 T)(a:m<a0.m):sm a0.n (λj=>a0.A j m*yv a0 T j)=T.size*a0.b m:=by rw[Uc K.G6,K.G6.Qy a,K.rt m a];grind
theorem XZ(K:Sx.Ok a0 T)(t:Nat):sm a0.n (λj=>a0.c t j*yv a0 T j)=T.obj a0 t:=Uc K.G6 _
theorem SI(P:Sx.Pb)(T:Sx.Tb)(x y:Int)(f g:Nat->Int):Sx.fsum P T (λj=>x*f j-y*g j)=x*Sx.fsum P T f-y*Sx.fsum P T g:=by delta Sx.fsum;rw[<-Sx.J6,<-Sx.J6,<-Sx.iU];exact Sx.A0 λj _=>by split<;>grind
theorem Jl(K:Sx.Ok a0 T)(t:Nat):T.obj a0 t=Sx.dot a0.m (T.pr t) a0.b+Sx.fsum a0 T (T.rest a0 t):=by
 have f:(sm a0.m λk=>T.am a0 k*a0.c t (T.B k))=Sx.dot a0.m (T.pr t) T.rt:=by rw[Sx.xB K.G6];exact Sx.A0 λk _=>J5 _ _
 have e:Sx.dot a0.m (T.pr t) T.rt=Sx.dot a0.m (T.pr t) a0.b-Sx.fsum a0 T λj=>Sx.dot a0.m (T.pr t) (a0.A j):=by
  have a:Sx.dot a0.m (T.pr t) T.rt=Sx.dot a0.m (T.pr t) λp=>a0.b p-Sx.fsum a0 T λj=>a0.A j p:=Sx.A0 λp d=>by rw[K.rt p d]
  rw[a,Sx.HW]
  congr 1
  delta Sx.dot Sx.fsum;have b:(sm a0.m λr=>T.pr t r*sm a0.n λj=>if T.full j=Uf then Sx.uv a0 j*a0.A j r else 0)=sm a0.m λr=>sm a0.n λj=>if T.full j=Uf then Sx.uv a0 j*(T.pr t r*a0.A j r)else 0:=Sx.A0 λr _=>by rw[<-Sx.J6];exact Sx.A0 λj _=>by split<;>grind
  rw[b,Sx.pV];exact Sx.A0 λj _=>by
   split;rw[Sx.J6];exact Sx.iw λ_ _=>rfl
 have g:Sx.fsum a0 T (T.rest a0 t)=Sx.fsum a0 T (λj=>T.size*a0.c t j-1*Sx.dot a0.m (T.pr t) (a0.A j)):=Sx.A0 λj _=>by
  split;delta Sx.Tb.rest;grind;rfl
 delta Sx.Tb.obj;rw[f,e,g,SI];grind
def vv(P:Sx.Pb)(T:Sx.Tb)(a j:Nat):Int:=(if j=a then T.size else 0)-pick P T (T.v8 P a) j
theorem v_sum(L:Sx.Q7 a0 T)(b:m<a0.n)(f:Nat->Int):sm a0.n (λj=>f j*vv a0 T m j)=f m*T.size-sm a0.m λk=>T.v8 a0 m k*f (T.B k):=by
 have e:sm a0.n (λj=>f j*vv a0 T m j)=sm a0.n λj=>(if j=m then f m*T.size else 0)-f j*pick a0 T (T.v8 a0 m) j:=Sx.A0 λj _=>by
  delta vv;by_cases z:j=m;rw[f9 z,f9 z,z];grind;rw[f6 z,f6 z];grind
 rw[e,Sx.iU,Cq L,Sx.V7 b λi _ c=>f6 c,f9 rfl]
theorem Ym(L:Sx.Q7 a0 T)(b:m<a0.n)(t:Nat):sm a0.n (λj=>a0.c t j*vv a0 T m j)=T.rest a0 t m:=by rw[v_sum L b,Sx.oY L];grind
end
section
variable{T:Sx.Tb}
abbrev F4.pb(I:F4):Sx.Pb:=I.J8.pb I.b
theorem GW(H:E8 e D E M)(a:m<e.m)(b:l<e.n):((e.pb.A l m:Int):Rat)=val (e.row m l)*(e.sc l:Rat):=by
 show((N6 (e.J8.col l) m):Rat)=_;rw[DK e l a];exact BP (H.row m l a b).1.pos ((H.sc b).2.2.2 m a)
theorem wV(H:E8 e D E M)(b:m<3)(a:l<e.n):((e.pb.c m l:Int):Rat)=val (R4 (e.cost l) m)*(e.sc l:Rat)*(e.mu m:Rat):=by
 show((e.wt m l):Rat)=_;delta F4.wt;rw[BP (H.wq b a).1.pos ((H.mu b).2.2.2 l a)];delta F4.wq;rw[sV (H.cost m l b a).1.pos B3,val_one]
theorem Li(H:E8 e D E M)(a:m<e.m):((e.pb.b m:Int):Rat)=val (e.rg m)*(e.un:Rat):=BP (H.rg m a).1.pos (H.un.2.2.2.1 m a)
theorem uY(H:E8 e D E M)(c:m<e.n)(h:e.tp m=U o):((Sx.uv e.pb m:Int):Rat)*(e.sc m:Rat)=val o*(e.un:Rat)/\∃v,e.lim m=U v/\Sx.uv e.pb m=v:=by
 cases hl:e.lim m with
 |none=>rw[nP.mpr hl]at h;exact nE h
 |some v =>
  obtain⟨f,a,d,b⟩:=CN H c hl;rw[h]at a;cases a;have I:Sx.uv e.pb m=v:=by delta Sx.uv;show(e.lim m).getD 0=v;rw[hl];rfl
  refine⟨?_,v,rfl,I⟩;have:(v:Rat)*(o.2*(e.sc m))=o.1*e.un:=by exact_mod_cast b
  have:=fR (show o.2≠0 by exact K8);delta val;grind
theorem R7(h:0<D):(0:Rat)<(D:Rat):=by exact_mod_cast h
abbrev X3(I:F4)(T:Sx.Tb)(j:Nat):Q2:=bL I.J8 T I.tp I.m j
theorem Xg:∀i,(∀k,k<i->T.B k≠m)->bL e.J8 T e.tp i m=bL e.J8 T e.tp 0 m:=by
 intro l_;induction l_ with
 |zero =>
  intro _;exact rfl
 |succ i ih_ =>
  intro h;show(if m=T.B i then _ else bL e.J8 T e.tp i m)=_;rw[f6 λz=>h i z9 z.symm];exact ih_ λk a=>h k eu
theorem Xh(L:Sx.Q7 e.pb T)(a:m<e.m):∀i,m<i->i<=e.m->bL e.J8 T e.tp i (T.B m)=D8 (T.am (B5 e.J8) m*e.sc (T.B m)) (T.size*e.un):=by
 intro l_;induction l_ with
 |zero =>
  intro h _;exact absurd h (EE _)
 |succ i ih_ =>
  intro h hi;rw[bL];by_cases z:i=m;rw[z,f9 rfl];rfl;rw[f6 λy=>z (L.inj i m (by assumption) a y.symm)];exact ih_ r9 eR
theorem rD(K:Sx.Ok e.pb T)(b:m<e.n):(∃k,k<e.m/\T.B k=m/\T.full m=U'/\X3 e T m=D8 (T.am e.pb k*e.sc m) (T.size*e.un))\/((∀k,k<e.m->T.B k≠m)/\((T.full m=Uf/\∃q,e.tp m=U q/\X3 e T m=q)\/(T.full m=U'/\X3 e T m=q0))):=by
 by_cases h:∃k,k<e.m/\T.B k=m
 . obtain⟨k,a,rfl⟩:=h;refine .inl ⟨k,a,rfl,?_,Xh K.G6 a e.m a E7⟩;cases z:T.full (T.B k)with
   |false=>rfl
   |true=>exact absurd rfl ((K.fu _ b z).2 k a)
 . have c:=λk a z=>h ⟨k,a,z⟩
   refine .inr ⟨c,?_⟩;have I:X3 e T m=bL e.J8 T e.tp 0 m:=Xg e.m c;cases z:T.full m with
   |false=>exact .inr ⟨rfl,by rw[I,bL,f6 (by rw[z];decide)]⟩
   |true =>
    cases hq:e.tp m with
    |none=>exact absurd (nP.mp hq) ((K.fu m b z).1)
    |some q=>exact .inl ⟨rfl,q,rfl,by rw[I,bL,f9 z,hq];rfl⟩
theorem zR(H:E8 e D E M)(K:Sx.Ok e.pb T)(c:m<e.n):val (X3 e T m)*((T.size:Rat)*(e.un:Rat))=(e.sc m:Rat)*((yv e.pb T m:Int):Rat):=by
 rcases rD K c with ⟨k,d,rfl,a,I⟩|⟨b,⟨a,q,hq,I⟩|⟨a,I⟩⟩
 . rw[I,fI (K9 K.G6.pos H.un.1)];have:yv e.pb T (T.B k)=T.am e.pb k:=by delta yv;rw[f6 (by simp_all),zJ K.G6 _ d,Y1]
   have:=dW (R7 K.G6.pos) (R7 H.un.1);grind
 . rw[I];have:yv e.pb T m=T.size*Sx.uv e.pb m:=by delta yv;rw[f9 a,vf _ b,qF]
   have:=(uY H c hq).1;rw[‹yv e.pb T m=_›,jo];grind
 . rw[I];have:yv e.pb T m=0:=by delta yv;rw[f6 (by rw[a];decide),vf _ b,Y1]
   rw[this,bF];grind
theorem Sk(H:E8 e D E M)(K:Sx.Ok e.pb T)(a:m<e.m):t8 (λj=>val (e.row m j)*val (X3 e T j)) e.n=val (e.rg m):=by
 have:t8 (λj=>val (e.row m j)*val (X3 e T j)) e.n*(T.size*e.un)=val (e.rg m)*(T.size*e.un):=by
  rw[V6,A2 (g:=λj=>((e.pb.A j m*yv e.pb T j:Int))) e.n λj b=>by have:=zR H K b;rw[jo,GW H a b];grind];rw[<-nh (λj=>e.pb.A j m*yv e.pb T j),show sm e.n (λj=>e.pb.A j m*yv e.pb T j)=_ from XY K a,jo,Li H a];grind
 have:((T.size:Rat)*e.un)≠0:=by have:=dW (R7 K.G6.pos) (R7 H.un.1);grind
 grind
theorem Sl(H:E8 e D E M)(K:Sx.Ok e.pb T)(b:m<3):t8 (λj=>val (R4 (e.cost j) m)*val (X3 e T j)) e.n*((T.size:Rat)*(e.un:Rat)*(e.mu m:Rat))=((T.obj e.pb m:Int):Rat):=by
 rw[V6,A2 (g:=λj=>((e.pb.c m j*yv e.pb T j:Int))) e.n λj a=>by have:=zR H K a;rw[jo,wV H b a];grind];rw[<-nh (λj=>e.pb.c m j*yv e.pb T j),show sm e.n (λj=>e.pb.c m j*yv e.pb T j)=_ from XZ K m]
end
open Sx (sm)
section
variable{T:Sx.Tb}
abbrev zC(I:F4)(T:Sx.Tb)(a j:Nat):Q2:=dR I.J8 T a I.m j
theorem Vr:∀i,(∀k,k<i->T.B k≠l)->dR e.J8 T m i l=if l=m then(e.sc m,1)else q0:=by
 intro l_;induction l_ with
 |zero =>
  intro _;exact rfl
 |succ i ih_ =>
  intro h;show(if l=T.B i then _ else dR e.J8 T m i l)=_;rw[f6 λz=>h i z9 z.symm];exact ih_ λk b=>h k eu
theorem Vs(L:Sx.Q7 e.pb T)(b:l<e.m):∀i,l<i->i<=e.m->dR e.J8 T m i (T.B l)=D8 (-T.v8 (B5 e.J8) m l*e.sc (T.B l)) T.size:=by
 intro l_;induction l_ with
 |zero =>
  intro h _;exact absurd h (EE _)
 |succ i ih_ =>
  intro h hi;rw[dR];by_cases z:i=l;rw[z,f9 rfl];rfl;rw[f6 λy=>z (L.inj i l (by assumption) b y.symm)];exact ih_ r9 eR
theorem BN(L:Sx.Q7 e.pb T)(j:Nat):(∃k,k<e.m/\T.B k=j/\zC e T m j=D8 (-T.v8 e.pb m k*e.sc j) T.size)\/((∀k,k<e.m->T.B k≠j)/\zC e T m j=if j=m then(e.sc m,1)else q0):=by
 by_cases h:∃k,k<e.m/\T.B k=j;obtain⟨k,b,rfl⟩:=h;exact .inl ⟨k,b,rfl,Vs L b e.m b E7⟩;have c:=λk b z=>h ⟨k,b,z⟩;exact .inr ⟨c,Vr e.m c⟩
theorem Vp(L:Sx.Q7 e.pb T)(nb:∀k,k<e.m->T.B k≠m)(j:Nat):val (zC e T m j)*(T.size:Rat)=(e.sc j:Rat)*((vv e.pb T m j:Int):Rat):=by
 have:=R7 L.pos;rcases BN L j with ⟨k,c,rfl,I⟩|⟨b,I⟩
 . rw[I,fI L.pos];have:vv e.pb T m (T.B k) = -T.v8 e.pb m k:=by delta vv;rw[f6 (nb k c),zJ L _ c,Int.zero_sub]
   rw[this,jo];grind
 . rw[I];by_cases z:j=m
   . have:vv e.pb T m j=T.size:=by delta vv;rw[f9 z,vf _ b,uo]
     rw[this,f9 z,val_one,z]
   . have:vv e.pb T m j=0:=by delta vv;rw[f6 z,vf _ b,uo]
     rw[this,f6 z,bF];grind
theorem PD(H:E8 e D E M)(L:Sx.Q7 e.pb T)(d:m<e.n)(nb:∀k,k<e.m->T.B k≠m)(b:l<3):t8 (λj=>val (R4 (e.cost j) l)*val (zC e T m j)) e.n*((T.size:Rat)*(e.mu l:Rat))=((T.rest e.pb l m:Int):Rat):=by
 rw[V6,A2 (g:=λj=>((e.pb.c l j*vv e.pb T m j:Int))) e.n λj I=>by have:=Vp L nb j;rw[jo,wV H b I];grind];rw[<-nh (λj=>e.pb.c l j*vv e.pb T m j),show sm e.n (λj=>e.pb.c l j*vv e.pb T m j)=_ from Ym L d l]
theorem Bs(K:Sx.Ok e.pb T)(i:Sx.Q5 e.pb T m)(h:stI e.J8 T m e.m=[]):e.lim m=J/\T.full m=U'/\∀k,k<e.m->T.v8 e.pb m k<=0/\(T.v8 e.pb m k<0->e.lim (T.B k)=J):=by
 have b:∀s,s∉stI e.J8 T m e.m:=λs c=>by simp_all
 have d:e.lim m=J:=by
  cases z:e.lim m with
  |none=>rfl
  |some v=>exact absurd (aE.mpr (.inl (iB.mpr ⟨v,z,rfl⟩))) (b ⟨v,1,m,J,U'⟩)
 have f:T.full m=U':=by
  cases z:T.full m with
  |false=>rfl
  |true=>exact absurd d (K.fu m i.an z).1
 have sg:T.sg m=1:=by delta Sx.Tb.sg;rw[f];rfl
 refine⟨d,f,λk I=>⟨?_,λg=>?_⟩⟩
 . rcases eI 0 (T.v8 e.pb m k)with z|z
   exact absurd (aE.mpr (.inr ⟨k,I,aD.mpr (.inl ⟨by rw[sg,cU];exact z,rfl⟩)⟩)) (b _);exact z
 . cases z:e.lim (T.B k)with
   |none=>rfl
   |some v=>exact absurd (aE.mpr (.inr ⟨k,I,aD.mpr (.inr ⟨by rw[sg,cU];exact g,v,z,rfl⟩)⟩)) (b _)
theorem BX(f:0<v)(h:z*v=(D:Rat)):(0<z↔0<D)/\(z=0↔D=0)/\(0<=z↔0<=D):=by
 have c:0<z->0<D:=λx=>by
  have:=dW x f;rw[h]at this
  exact_mod_cast this
 have d:z=0->D=0:=λx=>by
  have:(D:Rat)=0:=by grind
  exact_mod_cast this
 have b:z<0->D<0:=λx=>by
  have:=dW (show 0 < -z by grind) f
  have e : -z*v=((-D:Int)):=by rw[EB,<-h];grind
  rw[e]at this;have:0 < -D:=by exact_mod_cast this
  simp_all
 have a:z<0\/z=0\/0<z:=by grind
 refine⟨⟨c,λx=>?_⟩,⟨d,λx=>?_⟩,⟨λx=>?_,λx=>?_⟩⟩
 . rcases a with t|t|t
   have:=b t;lia
   . have:=d t;simp_all
   exact t
 . rcases a with t|t|t
   . have:=b t;simp_all
   exact t
   . have:=c t;simp_all
 . rcases a with t|t|t
   grind;have:=d t;simp[*];have:=c t;exact de
 . rcases a with t|t|t
   have:=b t;lia;grind;grind
theorem a1W{y k l m:Rat}{r:Nat->Int}(e:0<k)(b:0<l)(c:0<m)(a:v*k=(r 0:Rat))(f:y*l=(r 1:Rat))(d:z*m=(r 2:Rat)):NN v y z↔¬Sx.Neg r:=by
 obtain⟨i,n,_⟩:=BX e a;obtain⟨g,h,_⟩:=BX b f;obtain⟨_,_,j⟩:=BX c d;delta NN Sx.Neg;lia
theorem AH(H:E8 e D E M)(L:Sx.Q7 e.pb T){p:Nat}(a:m<3):val (R4 (aR e.J8 T p) m)*((T.size:Rat)*(e.mu m:Rat))=((T.pr m p:Int):Rat):=by
 have I:R4 (aR e.J8 T p) m=D8 (T.pr m p) (T.size*e.mu m):=by rcases lt3 a with rfl|rfl|rfl<;>rfl
 have:=dW (R7 L.pos) (R7 (H.mu a).1);rw[I,fI (K9 L.pos (H.mu a).1),jo];grind
def eQ(I:F4)(T:Sx.Tb)(t j:Nat):Rat:=val (R4 (I.cost j) t)-t8 (λp=>val (R4 (aR I.J8 T p) t)*val (I.row p j)) I.m
theorem Cd(H:E8 e D E M)(L:Sx.Q7 e.pb T){t:Nat}(a:t<3)(b:m<e.n):eQ e T t m*((e.sc m:Rat)*(e.mu t:Rat)*(T.size:Rat))=((T.rest e.pb t m:Int):Rat):=by
 have I:t8 (λp=>val (R4 (aR e.J8 T p) t)*val (e.row p m)) e.m*((e.sc m)*(e.mu t)*T.size)=((Sx.dot e.m (T.pr t) (e.pb.A m))):=by
  rw[V6,A2 (g:=λp=>((T.pr t p*e.pb.A m p:Int))) e.m λp d=>by have:=AH (p:=p) H L a;rw[jo,GW H d b];grind];rw[<-nh (λp=>T.pr t p*e.pb.A m p)];rfl
 have f:((T.rest e.pb t m):Rat)=((e.pb.c t m))*T.size-((Sx.dot e.m (T.pr t) (e.pb.A m))):=by
  show((e.pb.c t m*T.size-Sx.dot e.m (T.pr t) (e.pb.A m):Int):Rat)=_;simp
 delta eQ;rw[f,wV H a b,<-I];grind
theorem Co(H:E8 e D E M)(L:Sx.Q7 e.pb T)(c:m<3):t8 (λp=>val (R4 (aR e.J8 T p) m)*val (e.rg p)) e.m*((T.size:Rat)*(e.un:Rat)*(e.mu m:Rat))=((Sx.dot e.m (T.pr m) e.pb.b:Int):Rat):=by
 rw[V6,A2 (g:=λp=>((T.pr m p*e.pb.b p:Int))) e.m λp a=>by have:=AH (p:=p) H L c;rw[jo,Li H a];grind];rw[<-nh (λp=>T.pr m p*e.pb.b p)];rfl
theorem Ka(K:Sx.Ok e.pb T)(ne:∀m,m<e.n->¬Sx.Q5 e.pb T m)(a:m<e.n):(e.lim m=U 0)\/(T.full m=U'/\¬Sx.Neg λt=>T.rest e.pb t m)\/(T.full m=Uf/\(Sx.Neg (λt=>T.rest e.pb t m)\/∀t,t<3->T.rest e.pb t m=0)):=by
 by_cases z:e.lim m=U 0;exact .inl z
 . have nn:=λy=>ne m a ⟨a,z,y⟩
   cases hf:T.full m with
   |false =>
    have sg:T.sg m=1:=by delta Sx.Tb.sg;rw[hf];rfl
    refine .inr (.inl ⟨rfl,λy=>nn (y.congr λt _=>by rw[sg,cU])⟩)
   |true =>
    have:T.sg m = -1:=by delta Sx.Tb.sg;rw[hf];rfl
    refine .inr (.inr ⟨rfl,?_⟩);unfold Sx.Neg at *;by_cases w:T.rest e.pb 0 m=0/\T.rest e.pb 1 m=0/\T.rest e.pb 2 m=0
    . exact .inr λt b=>by
        rcases lt3 b with rfl|rfl|rfl
        exact w.1;exact w.2.1;exact w.2.2
    left;lia
theorem AZ(H:E8 e D E M)(K:Sx.Ok e.pb T)(ne:∀m,m<e.n->¬Sx.Q5 e.pb T m)(d:m<e.n)(f:c6=Uf↔Sx.Neg λt=>T.rest e.pb t m):(c6=Uf->e.tp m≠J)/\∀t,t<3->(if c6=Uf then eQ e T t m*val ((e.tp m).getD q0)else 0)*((T.size:Rat)*(e.un:Rat)*(e.mu t:Rat))=((if T.full m=Uf then Sx.uv e.pb m*T.rest e.pb t m else 0:Int):Rat):=by
 have k:=Ka K ne d;constructor
 . intro a c;have g:=nP.mp c;rcases k with k|⟨_,k⟩|⟨i,_⟩
   lia;exact k (f.mp a);exact(K.fu m d i).1 g
 . intro t c;have:val ((e.tp m).getD q0)*e.un=((Sx.uv e.pb m))*(e.sc m):=by
    cases htp:e.tp m with
    |none =>
     have:Sx.uv e.pb m=0:=by delta Sx.uv;show(e.lim m).getD 0=0;rw[nP.mp htp];rfl
     rw[this];show val q0*_=0*_;rw[bF];grind
    |some q =>
     have:=(uY H d htp).1;grind
   have h:e.lim m=U 0->Sx.uv e.pb m=0:=λz=>by delta Sx.uv;show(e.lim m).getD 0=0;rw[z];rfl
   by_cases a:c6=Uf
   . rw[f9 a];have I:((if T.full m=Uf then Sx.uv e.pb m*T.rest e.pb t m else 0))=Sx.uv e.pb m*T.rest e.pb t m:=by
      by_cases b:T.full m=Uf;rw[f9 b]
      . rw[f6 b];rcases k with k|⟨_,k⟩|⟨k,_⟩
        rw[h k,cz];exact absurd (f.mp a) k;exact absurd k b
     rw[I,jo,<-(Cd H K.G6 c d)];grind
   . rw[f6 a];have I:((if T.full m=Uf then Sx.uv e.pb m*T.rest e.pb t m else 0))=0:=by
      by_cases b:T.full m=Uf
      . rw[f9 b];rcases k with k|⟨k,_⟩|⟨_,k|k⟩
        rw[h k,cz]
        . simp_all
        exact absurd (f.mpr k) a;rw[k t c,R9]
      rw[f6 b]
     rw[I];grind
theorem Gz(H:E8 e D E M)(K:Sx.Ok e.pb T)(ne:∀j,j<e.n->¬Sx.Q5 e.pb T j){ch:Nat->Bool}(d:∀j,j<e.n->(ch j=Uf↔Sx.Neg λm=>T.rest e.pb m j))(a:m<3):
  t8 (λp=>val (R4 (aR e.J8 T p) m)*val (e.rg p)) e.m+t8 (λj=>if ch j=Uf then eQ e T m j*val ((e.tp j).getD q0)else 0) e.n=t8 (λj=>val (R4 (e.cost j) m)*val (X3 e T j)) e.n:=by
 have:=dW (dW (R7 K.G6.pos) (R7 H.un.1)) (R7 (H.mu a).1);have:=Co H K.G6 a;have:=Sl H K a;have:t8 (λj=>if ch j=Uf then eQ e T m j*val ((e.tp j).getD q0)else 0) e.n*(T.size*e.un*(e.mu m))=((Sx.fsum e.pb T (T.rest e.pb m))):=by
  rw[V6,A2 e.n λj c=>(AZ H K ne c (d j c)).2 m a];rw[<-nh (λj=>if T.full j=Uf then Sx.uv e.pb j*T.rest e.pb m j else 0)];rfl
 have:((T.obj e.pb m):Rat)=((Sx.dot e.m (T.pr m) e.pb.b))+((Sx.fsum e.pb T (T.rest e.pb m))):=by rw[Jl K m,EC];rfl
 generalize (T.size:Rat)*e.un*(e.mu m)=z at *;grind
end
open Sx (sN pN sm det F7 dot)
section
variable{T:Sx.Tb}
theorem xI{c:Rat}(h:¬NN z v c):NN (-z) (-v) (-c):=by unfold NN at *;grind
theorem JT(b:∀p,p<e.m->t8 (λj=>val (e.row p j)*H j) e.n=val (e.rg p))(t:Nat):
  t8 (λj=>val (R4 (e.cost j) t)*H j) e.n=t8 (λj=>eQ e T t j*H j) e.n+t8 (λp=>val (R4 (aR e.J8 T p) t)*val (e.rg p)) e.m:=by
 have c:t8 (λp=>val (R4 (aR e.J8 T p) t)*val (e.rg p)) e.m=t8 (λj=>t8 (λp=>val (R4 (aR e.J8 T p) t)*val (e.row p j)*H j) e.m) e.n:=by
  rw[AB];refine A2 e.m λp a=>?_;rw[<-b p a,Rat.mul_comm,V6];refine A2 e.n λj _=>?_;grind
 rw[c,<-cI];refine A2 e.n λj _=>?_;rw[<-V6];delta eQ;grind
theorem Kb(F:E8 e D E M)(K:Sx.Ok e.pb T)(ne:∀j,j<e.n->¬Sx.Q5 e.pb T j)(w:∀j,j<e.n->0<=H j)(x:∀j q,j<e.n->e.tp j=U q->H j<=val q)(s:∀p,p<e.m->t8 (λj=>val (e.row p j)*H j) e.n=val (e.rg p)){Δ:Nat->Rat}(hD:∀t,Δ t=t8 (λj=>val (R4 (e.cost j) t)*H j) e.n-t8 (λj=>val (R4 (e.cost j) t)*val (X3 e T j)) e.n):
  NN (Δ 0) (Δ 1) (Δ 2):=by
 classical
 let f:=λj=>decide (Sx.Neg λt=>T.rest e.pb t j)
 have I:∀j,j<e.n->(f j=Uf↔Sx.Neg λt=>T.rest e.pb t j):=λj _=>decide_eq_true_iff
 let g:=λt j=>eQ e T t j*H j-(if f j=Uf then eQ e T t j*val ((e.tp j).getD q0)else 0)
 have a:∀t,t<3->Δ t=t8 (g t) e.n:=λt d=>by rw[hD,JT (T:=T) s t,<-Gz F K ne I d,hP];grind
 rw[a 0 f5,a 1 f5,a 2 f5];refine NN.sum e.n λj b=>?_;have l:∀t,t<3->(0:Rat)<(e.sc j)*(e.mu t)*T.size:=λt d=>dW (dW (R7 (F.sc b).1) (R7 (F.mu d).1)) (R7 K.G6.pos);have i:=λt d=>Cd F K.G6 (t:=t) d b;have o:=a1W (r:=λt=>T.rest e.pb t j) (l 0 f5) (l 1 f5) (l 2 f5) (i 0 f5) (i 1 f5) (i 2 f5);by_cases h:f j=Uf
 . have u:=(AZ F K ne b (I j b)).1 h;obtain⟨q,hq⟩:=Option.ne_none_iff_exists'.mp u;have v:NN (- eQ e T 0 j) (- eQ e T 1 j) (- eQ e T 2 j):=by exact xI λz=>o.mp z ((I j b).mp h)
   have:=v.mul (k:=val q-H j) (by grind)
   have c:∀t,g t j = - eQ e T t j*(val q-H j):=λt=>by grind
   rw[c,c,c];exact this
 . have c:∀t,g t j=eQ e T t j*H j:=λt=>by grind
   rw[c,c,c];exact(o.mpr λz=>h ((I j b).mpr z)).mul (w j b)
end
section
variable{T:Sx.Tb}
theorem CM(h:e.tp m=U o):e.lim m≠J:=by delta F4.lim F4.hq;rw[h];simp
theorem Vq(K:Sx.Ok e.pb T)(f:Sx.Q5 e.pb T m)(h:stI e.J8 T m e.m=[])(hq:e.tp l=U o):val (zC e T m l)=0:=by
 obtain⟨g,_,I⟩:=Bs K f h;rcases BN K.G6 l with ⟨k,d,k2,b⟩|⟨_,b⟩
 . obtain⟨c,a⟩:=I k d;have i:T.v8 e.pb m k=0:=by
    rcases Ff c with z|z
    exact absurd (k2▸a z) (CM hq);exact z
   rw[b,i,fI K.G6.pos,Int.neg_zero,cz];show 0/_=0;rw[Ee,Ej]
 rw[b,f6 (λz=>CM hq (by rw[z];exact g))];exact bF
theorem Gu(H:E8 e D E M)(K:Sx.Ok e.pb T)(b:Sx.Q5 e.pb T m)(h:stI e.J8 T m e.m=[])(fr:∀j,j<e.n->e.tp j=J->e.cost j=jZ):False:=by
 have z:∀t,t<3->T.rest e.pb t m=0:=λt c=>by
  have w:=PD H K.G6 b.an (b.nb K.G6) c;have I:t8 (λj=>val (R4 (e.cost j) t)*val (zC e T m j)) e.n=0:=by
   rw[A2 e.n λj d=>?_,iu]
   cases q:e.tp j with
   |none =>
    rw[fr j d q];have:val (R4 jZ t)=0:=by rcases(by lia:t=0\/t=1\/t=2)with rfl|rfl|rfl<;>exact bF
    rw[this,Ej]
   |some f=>rw[Vq K b h q,Rat.mul_zero]
  rw[I,Ej]at w
  exact_mod_cast w.symm
 exact Sx.iC (λt c=>by rw[z t c,R9]) b.neg
end
open Sx (sN pN sm det F7 dot)
structure Hr where
 ck:Int
 need:Int
 line:Option (Int×Int×Int×Int)
noncomputable def xQ:Option (Int×Int×Int×Int)->p9
 |none=>.none
 |some (a,b,c,d)=>.tuple [.int a,.int b,.int c,.int d]
def y6(h:Hr):p9:=.tuple [.int h.ck,.int h.need,xQ h.line]
structure Wk where
 name:Str
 K4:Int
 first:Int
 last:Int
 most:Int
noncomputable def O2(w:Wk):p9:=.tuple [.str w.name,.int w.K4,.int w.first,.int w.last,.int w.most]
structure y7 where
 hs:List Hr
 size:Int
 start:Int
 fill:Int
 take:Int
 kept:Q2
 left:Q2
 rest:Int
 ws:List Wk
variable{d:y7}
abbrev y7.n(h:y7):Nat:=h.hs.length
abbrev y7.w(h:y7):Nat:=h.ws.length
noncomputable def M6(h:y7):p9:=.tuple [.int h.size,.int h.start,.int h.fill,.int h.take,fr h.kept,fr h.left,.int h.rest]
def u5(h:y7):p9:=.tuple [.tuple (h.hs.map y6),M6 h,.tuple (h.ws.map O2)]
theorem xC{q:Q2}(a:B4 m o)(hq:B4 l q)(h:m+l<=7998):cC [fr o,fr q]=sd (fr (cT o q)):=by
 have e:Bt 60000 o.1:=a.bt.mono (B6 xJ f5);have b:Bt 60000 o.2:=a.bb.mono (B6 xJ f5);have g:Bt 60000 q.1:=hq.bt.mono (B6 CJ f5);have c:Bt 60000 q.2:=hq.bb.mono (B6 CJ f5);obtain⟨i,j,d⟩:=Rp a.pos hq.pos a.low hq.low;have bs:Bt 8000 (gc o.2 q.2):=(a0K a.pos a.bb).mono (B6 xJ f5);have f:∀t,Bt 8000 (gc t (gc o.2 q.2)):=λt=>xZ K8 bs;delta cC;walk_at "r";rw[lE (T7 a.pos) (T7 hq.pos)];walk_at "r";simp only[L8 (show gc o.2 q.2≠0 by exact K8) bs];walk_at "r";simp only[C4,e,b.fdiv,g,c.fdiv];walk_at "r";rw[lE (by split<;>omega) z9,Ae];walk_at "r";simp only[L8 (show gc (o.1*q.2.fdiv (gc o.2 q.2)+q.1*o.2.fdiv (gc o.2 q.2)) (gc o.2 q.2)≠0 by exact K8) (f _),L8 (show gc o.2 q.2≠0 by exact K8) bs];walk_at "r";rw[C4 b.fdiv c.fdiv];delta cT;rw[d];rfl
theorem SJ(h:B4 m d6):B4 m (-d6.1,d6.2):=⟨h.pos,by have:=h.low;simpa using this,h.bt.neg,h.bb⟩
theorem Ro(p q:Int×Int):cT p (-q.1,q.2)=fe p q:=by
 show D8 (p.1*q.2 + -q.1*p.2) _=D8 (p.1*q.2-q.1*p.2) _;rw[yF];rfl
theorem Mu{q:Q2}(a:B4 m o)(hq:B4 l q)(h:m+l<=7998):Q8 [fr o,fr q]=sd (fr (fe o q)):=by
 delta Q8;walk_at "r";rw[show(eG [.int (-q.1),.int q.2])=fr (-q.1,q.2)from rfl,xC a (SJ hq) h,Ro];rfl
structure Ch where
 k:List Key
 c:Tr
 t:Option Q2
 ns:List (Nat×Q2)
variable{b9:Ch}{c9:List Ch}
noncomputable def nN(p:Nat×Q2):p9:=.tuple [.int (p.1:Int),fr p.2]
def P6(x:Ch):p9:=.tuple [L7 x.k,K7 x.c,X1 x.t,.list (x.ns.map nN)]
def Q0(h:Hr):Q2:=if h.ck<=h.need then(1,1)else(-1,1)
def outF(h:Hr):Q2:=if h.ck<=h.need then(-1,1)else(1,1)
def mN(p:Int):Tr:=⟨(0,1),(0,1),(p,1)⟩
def k2(s:Str)(t:Nat):List Key:=[.inr s,.inl (t:Int)]
def CS:Tr:=⟨(1,1),(0,1),(0,1)⟩
def Yo:Tr:=⟨(0,1),(1,1),(0,1)⟩
noncomputable def da(t:Nat)(h:Hr):List Ch:=match h.line with
 |none=>[]
 |some (a,b,c,d)=>[⟨k2 "bought" t,mN a,U (b,1),[(t,Q0 h)]⟩,⟨k2 "given" t,mN (-c),U (d,1),[(t,outF h)]⟩]
noncomputable def ez(t:Nat)(h:Hr):List Ch:=[⟨k2 "lacked" t,CS,U (h.need,1),[(t,Q0 h)]⟩,⟨k2 "spilt" t,⟨(0,1),(0,1),(0,1)⟩,J,[(t,outF h)]⟩]++da t h
theorem ql(h:Hr):eJ [y6 h]=sd (fr (Q0 h)):=by
 delta eJ;walk_at "r";simp only[y6];walk_at "r";delta Q0;by_cases e:h.ck<=h.need;rw[f9 e,f9 e];rfl;rw[f6 e,f6 e];rfl
theorem Cu(h:Hr):ei [y6 h]=sd (fr (outF h)):=by
 delta ei;walk_at "r";rw[ql];delta Q0 outF;by_cases e:h.ck<=h.need
 . rw[f9 e,f9 e];kernel_rfl
 . rw[f6 e,f6 e];kernel_rfl
theorem wW(p:Int):ni [.int p]=sd (K7 (mN p)):=rfl
theorem cS(h:q9 m r=sd (.int (l:Int))):W4 (f7 (fC (.str B)) (f7 (q9 m) u3)) r=sd (L7 (k2 B l)):=by
 delta W4;have:f7 (fC (.str B)) (f7 (q9 m) u3) r=U [.str B,.int l]:=by delta f7;rw[h];rfl
 rw[this];rfl
theorem Xw(t:Nat)(h:Hr):dC [.int (t:Int),y6 h]=U (.own ((ez t h).map P6)):=by
 have g:=ql h;have f:=Cu h;obtain⟨j,i,e⟩:=h;delta dC;cases e with
 |none =>
  walk_at "r";rw[g,f,cS rfl,cS rfl];rfl
 |some l =>
  obtain⟨a,b,c,d⟩:=l;walk_at "r";rw[g,f,cS rfl,cS rfl];simp only[y6,xQ]at g f ⊢;walk_at "r";rw[cS rfl,wW,g];walk_at "r";rw[fo _ rfl B3];walk_at "r";rw[cS rfl,wW,f];rfl
theorem t9{G2:DO}{ds1:Ds}(h:a7 r=U (.next ds1))(b:G2 ds1=d8):t7 a7 G2 r=d8:=by rw[A5,h,y8,b]
theorem L5(a:A.length=m)(h:a7 (S8 A++D3 (l-m) J)=U (.ret g)):J3 m l a7 A=U g:=by delta J3;rw[f9 a,h];rfl
theorem w5{pv:PV}(h:G r=U pv)(a:r.set m (sd pv.d)=X):u6 m G r=U (.next X):=by rw[dV,h,<-a];rfl
theorem X7{a:DL}{items:List p9}(h:a r=U items)(b:items.length<=1000000)(c:P4 d9 z0 G r items=U A):y9 a d9 z0 G r=U (.own A):=by
 delta y9
 simp_all
def G9:Hr:=⟨0,0,J⟩
abbrev y7.hr(h:y7)(i:Nat):Hr:=h.hs.getD i G9
def gX(N t:Nat)(q:Q2):List (Nat×Q2):=(D0 (N-t)).map λi=>(N+t+i,q)
def wO(h:y7)(t:Nat):Int:=if t+1=h.hs.length then h.rest else 0
noncomputable def bZ(h:y7)(t:Nat):List Ch:=
 [⟨k2 "filled" t,⟨(0,1),(0,1),(0,1)⟩,U (h.fill,1),(t,outF (h.hs.getD t G9))::gX h.hs.length t (fe (0,1) h.kept)⟩,
  ⟨k2 "taken" t,⟨(0,1),(0,1),(0,1)⟩,U (h.take,1),(t,N3 (Q0 (h.hs.getD t G9)) h.left)::gX h.hs.length t (1,1)⟩,
  ⟨k2 "level" t,mN (-wO h t),U (h.size,1),[(h.hs.length+t,(1,1))]⟩]
theorem Cb{q:Q2}(N:l<=m)(k:m<=1000)(a:q9 2 r=sd (.int (m:Int)))(d:q9 1 r=sd (.int (l:Int)))(h:∀p:Nat,G (sd (.int (p:Int))::r)=sd (nN (p,q))):
  y9 (F3 iX (f7 (t6 A9 (q9 2) (q9 1)) (f7 (t6 N4 (fC (.int 2)) (q9 2)) u3))) A1 z0 G r=U (.own ((gX m l q).map nN)):=by
 have e:F3 iX (f7 (t6 A9 (q9 2) (q9 1)) (f7 (t6 N4 (fC (.int 2)) (q9 2)) u3)) r=U (ax ((m+l:Nat)) (m-l)):=by
  have b:Bt 60000 1000:=⟨by lia⟩
  have f:N4 (.int 2) (.int m)=sd (.int (2*m)):=C4 (b.of_le f5) (b.of_le z9);have c:t6 A9 (q9 2) (q9 1) r=sd (.int (m+l)):=by delta t6;rw[a,d];rfl
  have g:t6 N4 (fC (.int 2)) (q9 2) r=sd (.int (2*m)):=by
   delta t6 fC
   simp_all
  delta F3 f7;rw[c,g];show iX [.int (m+l),.int (2*m)]=_;rw[Cc ⟨⟨Fm _,by lia⟩,by lia,by lia⟩];rw[show(2*(m:Int)-(m+l)).toNat=m-l by lia];rfl
 refine X7 e ?_ ?_;rw[pX];lia;rw[rV λi j=>⟨_,h (m+l+i),rfl⟩];delta gX;rw[cW];rfl
theorem Ql(h:y7)(j:B4 20 h.kept)(k:B4 20 h.left)(f:l<h.n)(c:h.n<=1000):eX [u5 h,.int (l:Int)]=U (.own ((bZ h l).map P6)):=by
 refine L5 rfl ?_;refine t9 (w5 (pv:=.dat (.int h.n)) ?_ rfl) ?_;show E2 [.tuple (h.hs.map y6)]=_;delta E2 d1;simp;refine t9 (w5 (pv:=.dat (y6 (h.hs.getD l G9))) ?_ rfl) ?_;show D5 (.tuple (h.hs.map y6)) (.int l)=_;rw[vm,dh rfl (by simp_all),L1,aN,L3 f];rfl;refine t9 (w5 rfl rfl) ?_;refine t9 (w5 (Cb (q:=fe (0,1) h.kept) eR c rfl rfl λp=>?_) rfl) ?_;show((((Q8 [fr (0,1),fr h.kept]).bind λx=>U [x.d]).bind λt=>U (Z0 p::t)).bind λt=>if t.length<=1000000 then U (PV.dat (.tuple t))else J)=_;rw[Mu (m:=1) ⟨by decide,by decide,⟨by decide⟩,⟨by decide⟩⟩ j f5];rfl;refine t9 (w5 (Cb (q:=(1,1)) eR c rfl rfl λp=>rfl) rfl) ?_;refine t9 (w5 (pv:=.dat (.int (wO h l))) ?_ rfl) ?_;show(((U4 (.int l) (.int (h.n-1))).bind λx=>Il x.d).bind λb=>if b=Uf then U (PV.dat (.int h.rest))else sd (.int 0))=_;rw[nY];delta wO;by_cases e:l+1=h.n;rw[f9 e,fW (show(l:Int)=h.n-1 by lia)];rfl;rw[f6 e,aM (show ¬(l:Int)=h.n-1 by lia)];rfl
 have g:∀q,((gX h.n l q).map nN).length<=1000:=λq=>by rw[C5];delta gX;rw[C5,uE];exact B6 (yC _ _) s9
 have a:∀d q,A9 (.list [d]) (.list ((gX h.n l q).map nN))=U (.own (d::(gX h.n l q).map nN)):=λd q=>by delta A9;have:=g q;simp only[Y2,jD];rw[f9 r9];rfl
 walk_at "r";rw[cS rfl,cS rfl,cS rfl,Cu,ql];walk_at "r";have i:B4 1 (Q0 (h.hr l)):=by delta Q0;split<;>exact⟨by decide,by decide,⟨by decide⟩,⟨by decide⟩⟩
 rw[show D5 (M6 h) (.int 2)=sd (.int h.fill)from rfl,show D5 (M6 h) (.int 3)=sd (.int h.take)from rfl,show D5 (M6 h) (.int 5)=sd (fr h.left)from rfl,show D5 (M6 h) (.int 0)=sd (.int h.size)from rfl,wW];walk_at "r";rw[nu i k f5];walk_at "r";rw[a,a];rfl
def U1:Wk:=⟨lL,0,0,0,0⟩
abbrev y7.wk(h:y7)(i:Nat):Wk:=h.ws.getD i U1
noncomputable def sT(h:y7)(j t:Nat):Ch:=⟨[.inr "worked",.inl (t:Int),.inl (j:Int)],⟨(0,1),(0,1),(0,1)⟩,U ((h.ws.getD j U1).most,1),[(t,outF (h.hs.getD t G9)),(2*h.hs.length+j,(1,1))]⟩
noncomputable def bR(h:y7)(j:Nat):Ch:=⟨k2 "undone" j,Yo,U ((h.ws.getD j U1).K4,1),[(2*h.hs.length+j,(1,1))]⟩
def Av(w:Wk):Nat:=(w.last+1-w.first).toNat
def bE(h:y7)(j:Nat):List Ch:=bR h j::(D0 (Av (h.ws.getD j U1))).map λi=>sT h j ((h.ws.getD j U1).first.toNat+i)
theorem Xx(h:y7)(a:m<h.n):D5 (.tuple (h.hs.map y6)) (.int (m:Int))=sd (y6 (h.hs.getD m G9)):=by
 rw[vm,dh rfl (by simp_all),L1,aN,L3 a];rfl
theorem Vn(h:y7)(a:m<h.w):D5 (.tuple (h.ws.map O2)) (.int (m:Int))=sd (O2 (h.ws.getD m U1)):=by
 rw[vm,dh rfl (by simp_all),L1,aN,L3 a];rfl
theorem F0{f:p9->p9->Option PV}{Fa Fb:DV}{x y:PV}(b:Fa r=U x)(a:Fb r=U y):t6 f Fa Fb r=f x.d y.d:=by
 delta t6
 simp_all
theorem Km(h:y7){w:Wk}(c:h.ws.getD m U1=w)(e:O<h.n){l:List p9}(b:l.length<1000000)(a:Option PV):
  ek [sd (u5 h),sd (.int (m:Int)),sd (O2 w),sd (.int ((2*h.n+m:Nat):Int)),U (.own l),sd (.int (O:Int)),a] =
   U (.next [sd (u5 h),sd (.int (m:Int)),sd (O2 w),sd (.int ((2*h.n+m:Nat):Int)),U (.own (l++[P6 (sT h m O)])),sd (.int (O:Int)),sd (.list [nN (O,outF (h.hr O)),nN (2*h.n+m,(1,1))])]):=by
 refine t9 (w5 (pv:=.own [nN (O,outF (h.hr O)),nN (2*h.n+m,(1,1))]) ?_ rfl) ?_;show(((((((D5 (.tuple (h.hs.map y6)) (.int O)).bind λx=>U [x.d]).bind ei).bind λx=>U [x.d]).bind λl=>U (Z0 O::l)).bind λl=>if l.length<=1000000 then U (PV.dat (.tuple l))else J).bind λx=>U [x.d,.tuple [.int ((2*h.n+m)),.tuple [.int 1,.int 1]]]).bind (λl=>if l.length<=1000000 then U (PV.own l)else J)=_;rw[Xx h e,x5,x5,show(PV.dat (y6 (h.hr O))).d=y6 (h.hr O)from rfl,Cu];rfl;rw[fP];refine yy (B9 (λo=>DW o 4 _) (?_:_=U (PV.dat (P6 (sT h m O))))) (fo _ rfl b);delta sT;rw[c];rfl
theorem Vm(h:y7)(s:m<h.w)(E:h.n<=1000)(r:0<=(h.wk m).first)(D:(h.wk m).first<=(h.wk m).last)(u:(h.wk m).last<(h.n:Int)):gb [u5 h,.int (m:Int)]=U (.own ((bE h m).map P6)):=by
 have p:Bt 60000 1000:=⟨by lia⟩;have y:N4 (.int 2) (.int h.n)=sd (.int (2*h.n)):=C4 (p.of_le f5) (p.of_le z9);have j:=Vn h s;generalize d:h.ws.getD m U1=w at j r u D;refine L5 rfl ?_;refine t9 (w5 j rfl) ?_;refine t9 (w5 (pv:=.dat (.int ((2*h.n+m:Nat)))) ?_ rfl) ?_
 . have z:q5 E2 (f7 (t6 D5 (q9 0) (fC (.int 0))) u3) [sd (u5 h),sd (.int m),sd (O2 w),J,J,J,J]=sd (.int h.n):=by
     show E2 [.tuple (h.hs.map y6)]=_;delta E2 d1;simp only[C5]
   have c:=F0 (f:=N4) (Fa:=fC (.int 2)) rfl z;have g:=F0 (f:=A9) (Fb:=q9 1) (c.trans y) rfl;assumption
 refine t9 (ds1:=[sd (u5 h),sd (.int m),sd (O2 w),sd (.int ((2*h.n+m))),U (.own [P6 (bR h m)]),J,J]) ?_ ?_
 . rw[Ah];have c:N9 (f7 (x9 (f7 (W4 (f7 (fC (.str "undone")) (f7 (q9 1) u3))) (f7 (fC wY) (f7 (x9 (f7 (t6 D5 (q9 2) (fC (.int 1))) (f7 (fC (.int 1)) u3))) (f7 (N9 (f7 (x9 (f7 (q9 3) (f7 (x9 (f7 (fC (.int 1)) (f7 (fC (.int 1)) u3))) u3))) u3)) u3))))) u3) [sd (u5 h),sd (.int m),sd (O2 w),sd (.int ((2*h.n+m))),J,J,J]=U (.own [P6 (bR h m)]):=by delta bR;rw[d];rfl
   exact B9 (λo=>JC o 4 _) c
 have A:∃b a,G7 (F3 iX (f7 (t6 D5 (q9 2) (fC (.int 2))) (f7 (t6 A9 (t6 D5 (q9 2) (fC (.int 3))) (fC (.int 1))) u3))) (K5 5) ek [sd (u5 h),sd (.int m),sd (O2 w),sd (.int ((2*h.n+m:Nat))),U (.own [P6 (bR h m)]),J,J]
   = U (.next [sd (u5 h),sd (.int m),sd (O2 w),sd (.int ((2*h.n+m:Nat))),U (.own ((bE h m).map P6)),b,a]):=by
  have g:F3 iX (f7 (t6 D5 (q9 2) (fC (.int 2))) (f7 (t6 A9 (t6 D5 (q9 2) (fC (.int 3))) (fC (.int 1))) u3)) [sd (u5 h),sd (.int m),sd (O2 w),sd (.int ((2*h.n+m:Nat))),U (.own [P6 (bR h m)]),J,J]=U (ax w.first (Av w)):=by
   show iX [.int w.first,.int (w.last+1)]=_;rw[Cc ⟨⟨by lia,by lia⟩,by lia,by lia⟩];rfl
  delta G7;rw[g,x5];obtain⟨t,B,b,a,x⟩:=nR (gt:=K5 5) (n:=Av w) (ds:=[sd (u5 h),sd (.int m),sd (O2 w),sd (.int ((2*h.n+m:Nat))),U (.own [P6 (bR h m)]),J,J])
   (λi k=>∃b a,k=[sd (u5 h),sd (.int m),sd (O2 w),sd (.int ((2*h.n+m:Nat))),U (.own ((bR h m::(D0 i).map λi=>sT h m (w.first.toNat+i)).map P6)),b,a])
   ⟨J,J,rfl⟩ (by
    rintro i k v ⟨b,a,e⟩;subst e;have:i<(w.last+1-w.first).toNat:=v;have C:w.first.toNat+i<h.n:=by lia
    have q:=Km h d C (l:=(bR h m::(D0 i).map λi=>sT h m (w.first.toNat+i)).map P6) (by simp;lia) a;rw[show((w.first.toNat+i:Nat))=w.first+i by lia]at q
    exact⟨_,_,rfl,.inl q,_,_,by rw[hF,Z2];simp only[C7,Z2];rfl⟩)
  refine⟨b,a,?_⟩;rw[B,x];delta bE;rw[d]
 obtain⟨b,a,e⟩:=A;exact t9 e rfl
def Z9(h:y7)(t:Nat):List Ch:=ez t (h.hs.getD t G9)++bZ h t
def w4(h:y7):List Ch:=(D0 h.hs.length).flatMap (Z9 h)++(D0 h.ws.length).flatMap (bE h)
theorem xU(t:Nat)(h:Hr):(ez t h).length<=4:=by
 delta ez da;cases h.line with
 |none=>simp
 |some l=>simp
theorem DA{i:List p9}(h:G r=U (.own i))(a:r[m]? = U (U (.own A)))(b:A.length+i.length<=1000000)(e:r.set m (U (.own (A++i)))=X):tT m G r=U (.next X):=by delta tT;rw[h,x5,a,<-e];exact f9 b
theorem A4{g:FV}{Fa Fb:DV}{ds:Ds}{x y:PV}(b:Fa ds=U x)(a:Fb ds=U y)(e:g [x.d,y.d]=b8):q5 g (f7 Fa (f7 Fb u3)) ds=b8:=by delta q5 f7;rw[b,x5,a,x5];exact e
structure jM(h:y7):Prop where
 k:B4 20 h.kept
 l:B4 20 h.left
 n:h.hs.length<=1000
 w:h.ws.length<=100
 f:∀j,j<h.ws.length->0<=(h.ws.getD j U1).first/\(h.ws.getD j U1).first<=(h.ws.getD j U1).last/\(h.ws.getD j U1).last<(h.hs.length:Int)
theorem Tv(h:y7)(H:jM h)(a:m<h.n){l:List Ch}(b:l.length<=900000):
  gj [sd (u5 h),U (.own (l.map P6)),sd (.int (m:Int)),sd (y6 (h.hr m))]=U (.next [sd (u5 h),U (.own ((l++Z9 h m).map P6)),sd (.int (m:Int)),sd (y6 (h.hr m))]):=by
 have:=xU m (h.hr m);refine t9 (DA (A4 rfl rfl (Xw m _)) rfl (by rw[C5,C5];lia) rfl) ?_;refine DA (A4 rfl rfl (Ql h H.k H.l a H.n)) rfl ?_ ?_;rw[au,C5,C5,C5];show _+3<=_;lia;delta Z9;simp only[Z2,EU];rfl
theorem Tu(h:y7)(H:jM h)(b:m<h.w){l:List Ch}(g:l.length<=900000)(a:Option PV):
  gi [sd (u5 h),U (.own (l.map P6)),sd (.int (m:Int)),a]=U (.next [sd (u5 h),U (.own ((l++bE h m).map P6)),sd (.int (m:Int)),a]):=by
 obtain⟨d,e,c⟩:=H.f m b;have:=H.n;refine DA (A4 rfl rfl (Vm h b H.n d e c)) rfl ?_ ?_;rw[C5,C5];delta bE Av;rw[Y2,C5,uE];lia;simp
theorem zI(h:y7):∀i,((D0 i).flatMap (Z9 h)).length<=7*i:=by
 intro l_;induction l_ with
 |zero =>
  exact E5
 |succ i ih_ =>
  have:=ih_;have:=xU i (h.hr i);rw[hF,uG,au];have:(List.flatMap (Z9 h) [i]).length=(ez i (h.hr i)).length+3:=by rw[zd,yW,bV];delta Z9;rw[au];rfl
  lia
theorem Kn(h:y7)(H:jM h){c:Nat}(a:h.n<c):∀i,i<=h.w->((D0 i).flatMap (bE h)).length<=c*i:=by
 intro l_;induction l_ with
 |zero =>
  intro _;exact E5
 |succ i ih_ =>
  intro hi;have:=ih_ eR;obtain⟨d,e,b⟩:=H.f i s9;rw[hF,uG,au,Nat.mul_succ];have:(List.flatMap (bE h) [i]).length<=c:=by
   rw[zd,yW,bV];delta bE Av;rw[Y2,C5,uE];lia
  exact yR s9 s9
theorem JW(h:y7)(H:jM h):jT [u5 h]=U (.own ((w4 h).map P6)):=by
 have:=H.n;have:=H.w;refine L5 rfl ?_;refine t9 rfl ?_;have u:∃b a,G7 (F3 cv (f7 (t6 D5 (q9 0) (fC (.int 0))) u3)) (Y8 2 (C2 2 (C2 3 Y9))) gj [sd (u5 h),U (.own []),J,J]
   = U (.next [sd (u5 h),U (.own (((D0 h.n).flatMap (Z9 h)).map P6)),b,a]):=by
  delta G7;rw[show F3 cv (f7 (t6 D5 (q9 0) (fC (.int 0))) u3) [sd (u5 h),U (.own []),J,J]=U (X8 0 (h.hs.map y6))from rfl,x5]
  obtain⟨q,r,b,a,o⟩:=cM (gt:=Y8 2 (C2 2 (C2 3 Y9))) (ds:=[sd (u5 h),U (.own []),J,J])
   (λi f=>∃b a,f=[sd (u5 h),U (.own (((D0 i).flatMap (Z9 h)).map P6)),b,a]) ⟨J,J,rfl⟩ (by
    rintro i d f m ⟨b,a,e⟩;subst e;rw[rM,L1]at m;have k:i<h.n:=by
     rcases Em i h.n with z|z
     exact z;rw[uH z]at m;cases m
    rw[L3 k]at m;have t:h.hr i=h.hs[i]:=by simp_all
    have j:=Tv h H k (l:=(D0 i).flatMap (Z9 h)) (by have:=zI h i;lia);rw[t]at j;cases m;rw[show(i:Int)=0+i from(Y1 _).symm]at j
    refine⟨_,_,rfl,.inl j,sd (.int (0+i)),sd (y6 h.hs[i]),?_⟩;rw[hF,uG,zd,yW,bV])
  rw[wN,C5]at o;exact⟨b,a,by rw[r,o]⟩
 obtain⟨b,a,v⟩:=u;refine t9 v ?_;have s:∃g,G7 (F3 O4 (f7 (q5 E2 (f7 (t6 D5 (q9 0) (fC (.int 2))) u3)) u3)) (K5 2) gi [sd (u5 h),U (.own (((D0 h.n).flatMap (Z9 h)).map P6)),b,a]
   = U (.next [sd (u5 h),U (.own ((w4 h).map P6)),g,a]):=by
  have p:F3 O4 (f7 (q5 E2 (f7 (t6 D5 (q9 0) (fC (.int 2))) u3)) u3) [sd (u5 h),U (.own (((D0 h.n).flatMap (Z9 h)).map P6)),b,a]=U (ax 0 h.w):=by
   show O4 [.int (((h.ws.map O2).length))]=_;rw[C5,bI r9];rfl
  delta G7;rw[p,x5];obtain⟨q,r,g,o⟩:=nR (gt:=K5 2) (n:=h.w) (ds:=[sd (u5 h),U (.own (((D0 h.n).flatMap (Z9 h)).map P6)),b,a])
   (λi f=>∃g,f=[sd (u5 h),U (.own (((D0 h.n).flatMap (Z9 h)++(D0 i).flatMap (bE h)).map P6)),g,a]) ⟨b,by simp⟩ (by
    rintro i f k ⟨g,e⟩;subst e;have:=zI h h.n;have:=Kn h H (c:=1001) (yZ s9) i eR;have j:=Tu h H k (l:=(D0 h.n).flatMap (Z9 h)++(D0 i).flatMap (bE h)) (by rw[au];lia) a;rw[show(i:Int)=0+i from(Y1 _).symm]at j
    refine⟨_,_,rfl,.inl j,sd (.int (0+i)),?_⟩;rw[hF,uG,zd,yW,bV,EU])
  exact⟨g,by rw[r,o];rfl⟩
 obtain⟨g,p⟩:=s;exact t9 p rfl
def kP(x:Hr):Q2:=(if x.need-x.ck<0 then -(x.need-x.ck)else x.need-x.ck,1)
def L4(h:y7):List Q2:=h.hs.map kP++D3 h.hs.length (h.start,1)++h.ws.map λw=>(w.K4,1)
theorem Ce(n:Nat)(x:p9):(D3 n [x]).flatten=D3 n x:=by simp
theorem aQ{ds:Ds}{pv:PV}(h:G ds=U pv):D4 G ds=U (.ret pv):=by delta D4;rw[h];rfl
theorem Lh(h:y7)(H:jM h):kW [u5 h]=U (.own ((L4 h).map fr)):=by
 have:=H.n;have:=H.w;refine L5 rfl ?_;refine t9 (w5 (X7 rfl (by rw[C5];exact B6 s9 f5) (comp_map λx _=>⟨_,rfl,rfl⟩)) rfl) ?_
 have b:q5 E2 (f7 (t6 D5 (q9 0) (fC (.int 0))) u3) [sd (u5 h),sd (.list (h.hs.map λx=>fr (kP x))),J]=sd (.int h.n):=by
  show E2 [.tuple (h.hs.map y6)]=_;delta E2 d1;simp
 refine t9 (w5 (pv:=.own (D3 h.n (fr (h.start,1)))) ((F0 rfl b).trans ?_) rfl) ?_;show eS (.list [fr (h.start,1)]) (.int h.n)=_;delta eS;simp only[Y2,jD,fY];rw[f9 ⟨⟨by simp[*],B6 s9 f5⟩,by lia⟩,Ce]
 . have c:y9 (J9 (t6 D5 (q9 0) (fC (.int 2)))) A1 z0 mB [sd (u5 h),sd (.list (h.hs.map λx=>fr (kP x))),sd (.list (D3 h.n (fr (h.start,1))))]=U (.own (h.ws.map λw=>fr (w.K4,1))):=
     X7 rfl (by rw[C5];exact pd) (comp_map λx _=>⟨_,rfl,rfl⟩)
   have a:t6 A9 (q9 1) (q9 2) [sd (u5 h),sd (.list (h.hs.map λx=>fr (kP x))),sd (.list (D3 h.n (fr (h.start,1))))]=U (.own ((h.hs.map λx=>fr (kP x))++D3 h.n (fr (h.start,1)))):=by refine(F0 rfl rfl).trans ?_;exact f9 (by rw[C5,rf];lia)
   refine aQ ((F0 (f:=A9) a c).trans ?_);refine(f9 (by rw[au,C5,C5,rf];lia)).trans ?_;delta L4;simp only[Z2,cW,Ol];rfl
theorem XD(p q:Q2):U4 (fr p) (fr q)=sd (.bool (decide (p=q))):=by
 have a:(if aX (fr p)=Uf/\aX (fr q)=Uf then U (PV.dat (.bool (!PyData.eqv (fr p) (fr q))))else J)=U (PV.dat (.bool (decide (p≠q)))):=(Hx p q);show(if aX (fr p)=Uf/\aX (fr q)=Uf then U (PV.dat (.bool (Y0 (fr p) (fr q))))else J)=_
 simp_all
def pP(x:Hr):Str:=if x.ck<=x.need then "lacked" else "spilt"
def V9(h:y7):List (List Key):=((D0 h.hs.length).map λt=>k2 (pP (h.hs.getD t G9)) t)++((D0 h.hs.length).map λt=>k2 "level" t)++(D0 h.ws.length).map λj=>k2 "undone" j
theorem tI(g:a2->p9)(a:a2)(l:List a2):l.map g=rl l.length λi=>g (l.getD i a):=by
 refine qT (by simp[rl]) λi d e=>?_
 have c:i<l.length:=by simpa using d
 simp[L3 c]
theorem yx{Fa Fb:DV}{ds:Ds}(a:Fa ds=U g)(b:Fb ds=U R):f7 Fa (f7 Fb u3) ds=U [g.d,R.d]:=by delta f7;rw[a,x5,b,x5];rfl
theorem a0O(h:y7)(t:Nat)(x:Hr)(ds:Ds):jV (sd (.int ((t:Nat):Int))::sd (y6 x)::ds)=sd (L7 (k2 (pP x) t)):=by
 have b:iH (A8 (t6 U4 (q5 eJ (f7 (q9 1) u3)) (x9 (f7 (fC (.int 1)) (f7 (fC (.int 1)) u3))))) (fC (.str "lacked")) (fC (.str "spilt")) (sd (.int t)::sd (y6 x)::ds)=sd (.str (pP x)):=by
  have a:t6 U4 (q5 eJ (f7 (q9 1) u3)) (x9 (f7 (fC (.int 1)) (f7 (fC (.int 1)) u3))) (sd (.int t)::sd (y6 x)::ds)=sd (.bool (decide (Q0 x=(1,1)))):=
   (F0 (x:=.dat (fr (Q0 x))) (y:=.dat (fr (1,1))) (ql x) rfl).trans (XD _ _)
  delta iH A8;rw[a];delta pP Q0;by_cases e:x.ck<=x.need;rw[f9 e,f9 e];rfl;rw[f6 e,f6 e];rfl
 refine(B9 (λo=>yH o _) (yx b rfl)).trans ?_;rfl
theorem Sf(h:y7)(H:jM h):eL [u5 h]=U (.own ((V9 h).map L7)):=by
 have:=H.n;have:=H.w;refine L5 rfl ?_;refine t9 (w5 (X7 (items:=rl h.n λt=>.tuple [.int (0+t),y6 (h.hr t)]) ?_ (by rw[G8];exact B6 s9 f5) (N5 λt b=>⟨[.int (0+t),y6 (h.hr t)],.dat (L7 (k2 (pP (h.hr t)) t)),rfl,?_,rfl⟩)) rfl) ?_;show U (X8 0 (h.hs.map y6))=_;rw[tI y6 G9,vw];rw[show(0:Int)+t=t from Y1 _];exact a0O h t _ _
 have d:∀a,F3 O4 (f7 (q5 E2 (f7 (t6 D5 (q9 0) (fC (.int 0))) u3)) u3) (sd (u5 h)::a)=U (ax 0 h.n):=λa=>by
  show O4 [.int (((h.hs.map y6).length))]=_;rw[C5,bI r9];rfl
 have f:∀a,F3 O4 (f7 (q5 E2 (f7 (t6 D5 (q9 0) (fC (.int 2))) u3)) u3) (sd (u5 h)::a)=U (ax 0 h.w):=λa=>by
  show O4 [.int (((h.ws.map O2).length))]=_;rw[C5,bI r9];rfl
 refine t9 (w5 (X7 (d _) (by rw[pX];exact B6 s9 f5) (rV λt b=>⟨.dat (L7 (k2 "level" t)),?_,rfl⟩)) rfl) ?_;exact cS (by rw[show(0:Int)+t=t from Y1 _];rfl)
 have e:y9 (F3 O4 (f7 (q5 E2 (f7 (t6 D5 (q9 0) (fC (.int 2))) u3)) u3)) A1 z0 jU [sd (u5 h),sd (.list (rl h.n λt=>L7 (k2 (pP (h.hr t)) t))),sd (.list (rl h.n λt=>L7 (k2 "level" t)))]=U (.own (rl h.w λj=>L7 (k2 "undone" j))):=
  X7 (f _) (by rw[pX];exact pd) (rV λt b=>⟨.dat (L7 (k2 "undone" t)),cS (by rw[show(0:Int)+t=t from Y1 _];rfl),rfl⟩)
 have c:t6 A9 (q9 1) (q9 2) [sd (u5 h),sd (.list (rl h.n λt=>L7 (k2 (pP (h.hr t)) t))),sd (.list (rl h.n λt=>L7 (k2 "level" t)))]=U (.own ((rl h.n λt=>L7 (k2 (pP (h.hr t)) t))++rl h.n λt=>L7 (k2 "level" t))):=by refine(F0 rfl rfl).trans ?_;exact f9 (by rw[G8,G8];lia)
 refine aQ ((F0 c e).trans ?_);refine(f9 (by rw[au,G8,G8,G8];lia)).trans ?_;delta V9;simp only[Z2,cW];rfl
theorem SW(x y:Key):Y0 (bN x) (bN y)=decide (x=y):=by rw[qQ,decide_eq_true_iff];cases x<;>cases y<;>simp[bN,Y0]
theorem DE:∀a b:List Key,uw (a.map bN) (b.map bN)=decide (a=b)
 | [],[]=>by rfl
 | [],_::_=>by rfl
 |_::_,[]=>by rfl
 |x::a,y::b=>by rw[C7,C7,uw,SW,DE a b];simp
def Pp(k:List Key):Prop:=∀s:Str,(gM s:Key)∈k->Ei s=Uf
theorem CQ:∀a:List Key,Pp a->fX (a.map bN)=Uf:=by
 intro l_;induction l_ with
 |nil =>
  intro _;rfl
 |cons x a ih_ =>
  intro h;rw[C7,fX,ih_ λs b=>h s (C6 _ b)]
  cases x with
  |inl i=>rfl
  |inr s=>simp[bN,fA,h s D1]
theorem Sr:∀ks:List (List Key),(∀k∈ks,Pp k)->fX ((ks.map L7).map un)=Uf:=by
 intro l_;induction l_ with
 |nil =>
  intro _;rfl
 |cons k ks ih_ =>
  intro h;rw[C7,C7,fX,ih_ λa b=>h a (C6 _ b)];show(fA (.tuple (k.map bN))&&Uf)=Uf;rw[fA,CQ k (h k D1)];rfl
theorem Tf:∀a:List Key,EA (a.map bN)<=1:=by
 intro l_;induction l_ with
 |nil =>
  simp[EA]
 |cons x a ih_ =>
  have:=ih_;rw[C7,EA];cases x<;>simp[bN,Eh]<;>omega
theorem Nc(k:List Key):∀ks:List (List Key),(((ks.map L7).map un).findIdx? λe=>Y0 e (un (L7 k)))=ks.findIdx? λa=>decide (a=k):=by
 intro l_;induction l_ with
 |nil =>
  exact rfl
 |cons a ks ih_ =>
  rw[C7,C7,Oh,Oh,ih_];have:Y0 (un (L7 a)) (un (L7 k))=decide (a=k):=by
   show Y0 (.tuple (a.map bN)) (.tuple (k.map bN))=_;rw[Y0,DE]
  rw[this]
theorem MO{ks:List (List Key)}(b:∀a∈ks,Pp a)(l:ks.length<=1000000)(c:ks[m]? = U a6)(k:ks.Nodup):kz (.list (ks.map L7)) [L7 a6]=sd (.int (m:Int)):=by
 show zZ (.list ((ks.map L7).map un)) [un (L7 a6)]=_
 delta zZ;have g:(un (L7 a6)).canLay0=Uf:=by
  show fA (.tuple (a6.map bN))=Uf;rw[fA,CQ a6 (b a6 (oJ c))]
 have f:(un (L7 a6)).depth<=10:=by
  have:=Tf a6;show Eh (.tuple (a6.map bN))<=10;rw[Eh];exact oF s9 f5
 simp only;rw[f9 ⟨Sr ks b,g,f,by rw[C5,C5];exact l⟩,Nc]
 have:(ks.findIdx? λa=>decide (a=a6))=U m:=by
  obtain⟨h,d⟩:=List.getElem?_eq_some_iff.mp c;rw[List.findIdx?_eq_some_iff_getElem];refine⟨h,fW d,λi n=>?_⟩;simp only[qW];intro e;have:=(Oa k).mp (e.trans d.symm);lia
 rw[this];rfl
theorem ly{s':Str}(h:k2 B m=k2 s' l):B=s'/\m=l:=by
 injection h with h1 h2
 injection h1 with h1
 injection h2 with h2 _
 injection h2 with h2
 exact⟨h1,by lia⟩
theorem a2a{s':Str}(t t':Nat)(h:B≠s'):k2 B t≠k2 s' t':=λe=>h (ly e).1
theorem Xv(h:y7)(t:Nat):(Z9 h t).Pairwise λa b=>a.k≠b.k:=by
 have e:∀l:List Ch,(l.map (·.k)).Nodup->l.Pairwise λa b=>a.k≠b.k:=λl f=>List.pairwise_map.mp f;have p:∀c:List Str,c.Nodup->(c.map λs=>k2 s t).Nodup:=λc d=>List.pairwise_map.mpr (d.imp λz=>a2a t t z)
 refine e _ ?_;delta Z9 ez da bZ;cases(h.hr t).line with
 |none=>exact p ["lacked","spilt","filled","taken","level"] A3
 |some l=>exact p ["lacked","spilt","bought","given","filled","taken","level"] A3
theorem qp(h:y7)(t:Nat)(a:b9∈Z9 h t):∃s:Str,s∈(["lacked","spilt","bought","given","filled","taken","level"]:List Str)/\b9.k=k2 s t:=by
 unfold Z9 ez da bZ at a;cases hl:(h.hr t).line with
 |none =>
  rw[hl]at a;simp only[aZ,bU,T8,cA,az]at a;rcases a with rfl|rfl|rfl|rfl|rfl<;>exact⟨_,by grind,rfl⟩
 |some l =>
  rw[hl]at a;simp only[aZ,bU,T8,cA,az]at a;rcases a with rfl|rfl|rfl|rfl|rfl|rfl|rfl<;>exact⟨_,by grind,rfl⟩
theorem sU(h:y7)(j:Nat)(a:b9∈bE h j):b9.k=k2 "undone" j\/∃i,b9.k=[.inr "worked",.inl (((h.wk j).first.toNat+i:Nat):Int),.inl (j:Int)]:=by
 rcases List.mem_cons.mp a with rfl|a
 exact .inl rfl;obtain⟨i,_,rfl⟩:=mem_map.mp a;exact .inr ⟨i,rfl⟩
theorem Vo(h:y7)(j:Nat):(bE h j).Pairwise λa b=>a.k≠b.k:=by
 refine List.Pairwise.cons (λx c=>?_) ?_;obtain⟨i,_,rfl⟩:=mem_map.mp c;intro e;have:=B9 jA e;simp[bR,sT,k2]at this;refine List.pairwise_map.mpr ((EM).imp λ{a b} ne e=>?_);simp only[sT]at e;exact ne r9
theorem ph(h:y7):((w4 h).map (·.k)).Nodup:=by
 refine List.pairwise_map.mpr ?_;refine List.pairwise_append.mpr ⟨?_,?_,?_⟩;refine List.pairwise_flatMap.mpr ⟨λt _=>Xv h t,(EM).imp λ{a b} ne x c y d e=>?_⟩;obtain⟨s,_,g⟩:=qp h a c;obtain⟨m,_,f⟩:=qp h b d;rw[g,f]at e;exact ne (ly e).2
 . refine List.pairwise_flatMap.mpr ⟨λt _=>Vo h t,(EM).imp λ{a b} ne x c y d e=>?_⟩
   rcases sU h a c with g|⟨i,g⟩<;>rcases sU h b d with f|⟨n,f⟩<;>rw[g,f]at e
   exact ne (ly e).2;have:=B9 jA e;simp[k2]at this;have:=B9 jA e;simp[k2]at this;simp only[NJ]at e;exact ne r9
 . intro x c y d e;obtain⟨t,_,c⟩:=mem_flatMap.mp c;obtain⟨j,_,d⟩:=mem_flatMap.mp d;obtain⟨s,l,g⟩:=qp h t c;rcases sU h j d with f|⟨i,f⟩<;>rw[g,f]at e
   rw[(ly e).1]at l;exact absurd l A3;have:=B9 jA e;simp[k2]at this
theorem MF(t:Nat)(h:Ei B=Uf):Pp (k2 B t):=λz a=>by
 unfold k2 at a
 simp_all
theorem Xo(h:y7):∀k∈(w4 h).map (·.k),Pp k:=by
 intro k d;obtain⟨x,a,rfl⟩:=mem_map.mp d;rcases List.mem_append.mp a with a|a
 . obtain⟨t,_,a⟩:=mem_flatMap.mp a;obtain⟨s,c,e⟩:=qp h t a;rw[e];have:∀s∈(["lacked","spilt","bought","given","filled","taken","level"]:List Str),Ei s=Uf:=by decide +kernel
   exact MF t (this s c)
 . obtain⟨j,_,a⟩:=mem_flatMap.mp a;rcases sU h j a with e|⟨i,e⟩
   rw[e];exact MF j A3;rw[e];intro z b;simp only[T8,cA,az,Sum.inr.injEq,reduceCtorEq]at b;rw[b];decide +kernel
def eO(m n:Nat)(M:Nat->Nat->p9):PV:=.ob J (.seq Uf (kh ((D0 m).map λp=>PF.own (rl n (M p)))))
def rm(M:Nat->Nat->p9)(p j:Nat)(d:p9):Nat->Nat->p9:=λa b=>if a=p/\b=j then d else M a b
theorem YY(f:Nat->p9)(d:p9):(rl m f).set l d=rl m λb=>if b=l then d else f b:=by
 refine qT (by simp[rl]) λi a c=>?_;simp only[EN,qR,EZ];by_cases e:l=i;rw[f9 e,f9 e.symm];rw[f6 e,f6 λz=>e z.symm]
theorem Qr{j:Nat}{M:Nat->Nat->p9}{Fv:DV}{ds:Ds}(c:ds[2]? = U (U (eO m l M)))(f:O<m)(h:j<l)(n:G ds=sd (.int (O:Int)))(p:u ds=sd (.int (j:Int)))(o:Fv ds=U g):
  vr 2 G u Fv ds=U (.next (ds.set 2 (U (eO m l (rm M O j g.d))))):=by
 have k:zL 2 O ds=U (J,kh ((D0 m).map λO=>PF.own (rl l (M O))),lL,O,rl l (M O)):=by
  delta zL;rw[c];simp only[eO];rw[iF (by simp[kh];exact f),x5];simp[kh,f]
 delta vr;rw[o,n,p];show((zL 2 O ds).bind λx=>(jd x.2.2.2.2.length j).bind λj=>U (Out.next (ds.set 2 (U (.ob x.1 (.seq Uf (x.2.1.set x.2.2.2.1 (x.2.2.1,.own (x.2.2.2.2.set j g.d)))))))))=_
 rw[k,x5];rw[G8,iF h,x5,YY];have e:(kh ((D0 m).map λO=>PF.own (rl l (M O)))).set O (lL,PF.own (rl l λb=>if b=j then g.d else M O b))=kh ((D0 m).map λa=>PF.own (rl l (rm M O j g.d a))):=by
  delta kh;refine qT B3 λi q c=>?_;simp only[EN,qR,EZ];by_cases z:O=i;subst z;delta rm;simp;rw[f6 z];delta rm;have:∀b,(if i=O/\b=j then g.d else M i b)=M i b:=λb=>f6 λy=>z y.1.symm;simp only[this]
 rw[e];rfl
def foldM(j:Nat)(ns:List (Nat×Q2))(M:Nat->Nat->p9):Nat->Nat->p9:=ns.foldl (λM e=>rm M e.1 j (fr e.2)) M
theorem VR(f:O<l){d1 d4:Option PV}:∀(ns:List (Nat×Q2)) (M:Nat->Nat->p9) (a b:Option PV),(∀e∈ns,e.1<m) ->
  ∃c d,W7 (Y8 2 (C2 5 (C2 6 Y9))) lg (ns.map nN) [b8,d1,U (eO m l M),sd (.int (O:Int)),d4,a,b]=U (.next [b8,d1,U (eO m l (foldM O ns M)),sd (.int (O:Int)),d4,c,d]):=by
 intro l_;induction l_ with
 |nil =>
  intro M a b _;exact⟨a,b,rfl⟩
 |cons e ns ih_ =>
  intro M a b h;obtain⟨c,d,k⟩:=ih_ (rm M e.1 O (fr e.2)) (sd (.int e.1)) (sd (fr e.2)) λx g=>h x (C6 _ g)
  refine⟨c,d,?_⟩;have i:lg [b8,d1,U (eO m l M),sd (.int O),d4,sd (.int e.1),sd (fr e.2)]=U (.next [b8,d1,U (eO m l (rm M e.1 O (fr e.2))),sd (.int O),d4,sd (.int e.1),sd (fr e.2)]):=
   Qr (Fv:=q9 6) (ds:=[b8,d1,U (eO m l M),sd (.int O),d4,sd (.int e.1),sd (fr e.2)]) rfl (h e D1) f rfl rfl rfl
  rw[C7,Q9 rfl i,k];rfl
def vT:Ch:=⟨[],⟨(0,1),(0,1),(0,1)⟩,J,[]⟩
def allM(C:List Ch):Nat->Nat->Nat->p9
 | 0=>λ_ _=>fr (0,1)
 |j+1=>foldM j (C.getD j vT).ns (allM C j)
theorem VS(N:m<=100000)(K:c9.length<=100000)(v:∀x∈c9,∀e∈x.ns,e.1<m):pH [.list (c9.map P6),.int (m:Int)]=U (eO m c9.length (allM c9 c9.length)):=by
 refine L5 rfl ?_;refine t9 (ds1:=[sd (.list (c9.map P6)),sd (.int m),U (eO m c9.length (allM c9 0)),J,J,J,J]) ?_ ?_
 . have w:lC (F3 O4 (f7 (q9 1) u3)) A1 cO [sd (.list (c9.map P6)),sd (.int m),J,J,J,J,J]=U (eO m c9.length (allM c9 0)):=by
     have I:∀d:p9,cO (sd d::[sd (.list (c9.map P6)),sd (.int m),J,J,J,J,J])=U (.own (rl c9.length λ_=>fr (0,1))):=λd=>by
      have r:q5 E2 (f7 (q9 1) u3) (sd d::[sd (.list (c9.map P6)),sd (.int m),J,J,J,J,J])=sd (.int c9.length):=by
       show E2 [.list (c9.map P6)]=_;delta E2 d1;simp
      refine(F0 rfl r).trans ?_;show eS (.list [fr (0,1)]) (.int c9.length)=_;delta eS;simp only[Y2,jD];rw[f9 ⟨⟨by simp[*],by simp[*]⟩,by simp[*]⟩,Ce]
      congr 2
      refine qT (by simp[rl]) λi L M=>?_;simp[rl]
     have B:∀l:List Nat,ym A1 cO [sd (.list (c9.map P6)),sd (.int m),J,J,J,J,J] (l.map λk=>.int (0+(k:Nat)))=U (l.map λ_=>PF.own (rl c9.length λ_=>fr (0,1))):=λl=>by
      induction l with
      |nil=>rfl
      |cons a l E =>
       show((cO (sd (.int (0+a))::[sd (.list (c9.map P6)),sd (.int m),J,J,J,J,J])).bind λy=>(hB y).bind λp=>(ym A1 cO _ (l.map λk=>.int (0+(k:Nat)))).bind λl=>U (p::l))=_;rw[I,E];rfl
     delta lC;rw[show F3 O4 (f7 (q9 1) u3) [sd (.list (c9.map P6)),sd (.int m),J,J,J,J,J]=U (ax 0 m) by
      show O4 [.int m]=_
      rw[bI r9];rfl,x5,f9 (by rw[pX];exact B6 s9 f5)]
     rw[show ax 0 m=(D0 m).map λk=>Z0 (0+(k:Nat))from rfl,B];rfl
   exact B9 (λo=>JC o 2 _) w
 have F:∃f g b c,G7 (F3 cv (f7 (q9 0) u3)) (Y8 2 (C2 3 (C2 4 Y9))) kZ [sd (.list (c9.map P6)),sd (.int m),U (eO m c9.length (allM c9 0)),J,J,J,J]
   = U (.next [sd (.list (c9.map P6)),sd (.int m),U (eO m c9.length (allM c9 c9.length)),f,g,b,c]):=by
  delta G7;rw[show F3 cv (f7 (q9 0) u3) [sd (.list (c9.map P6)),sd (.int m),U (eO m c9.length (allM c9 0)),J,J,J,J]=U (X8 0 (c9.map P6))from rfl,x5]
  obtain⟨u,D,f,g,b,c,t⟩:=cM (gt:=Y8 2 (C2 3 (C2 4 Y9))) (G:=kZ) (items:=X8 0 (c9.map P6))
   (λi s=>∃f g b c,s=[sd (.list (c9.map P6)),sd (.int m),U (eO m c9.length (allM c9 i)),f,g,b,c]) ⟨J,J,J,J,rfl⟩ (by
    rintro i d s h ⟨f,g,b,c,e⟩;subst e;rw[rM,L1]at h;have j:i<c9.length:=by
     rcases Em i c9.length with z|z
     exact z;rw[uH z]at h;exact nE h
    rw[L3 j]at h;have q:c9.getD i vT=c9[i]:=by rw[aN,L3 j];rfl
    obtain⟨A,H,n⟩:=VR j c9[i].ns (allM c9 i) b c (v c9[i] (qU j));rw[<-q]at n;rw[show(i:Int)=0+i from(Y1 _).symm]at n;rw[q]at n;cases h;refine⟨_,_,rfl,.inl n,sd (.int (0+i)),sd (P6 c9[i]),A,H,?_⟩;show _=[_,_,U (eO m c9.length (foldM i (c9.getD i vT).ns (allM c9 i))),_,_,_,_]
    rw[q])
  rw[wN,C5]at t;exact⟨f,g,b,c,by rw[D,t]⟩
 obtain⟨f,g,b,c,r⟩:=F;exact t9 r rfl
def CA(ns:List (Nat×Q2))(o:p9)(a:Nat):p9:=ns.foldl (λo e=>if a=e.1 then fr e.2 else o) o
theorem SN(j:Nat):∀(ns:List (Nat×Q2)) (M:Nat->Nat->p9) (a b:Nat),foldM j ns M a b=if b=j then CA ns (M a b) a else M a b:=by
 intro l_;induction l_ with
 |nil =>
  intro M a b;split<;>rfl
 |cons e ns ih_ =>
  intro M a b;show foldM j ns (rm M e.1 j (fr e.2)) a b=if b=j then CA ns (if a=e.1 then fr e.2 else M a b) a else M a b;rw[ih_];delta rm;by_cases h:b=j;rw[f9 h,f9 h];by_cases c:a=e.1;rw[f9 ⟨c,h⟩,f9 c];rw[f6 (λz=>c z.1),f6 c];rw[f6 h,f6 h,f6 (λz=>h z.2)]
theorem XT(C:List Ch):∀(n a j:Nat),allM C n a j=if j<n then CA (C.getD j vT).ns (fr (0,1)) a else fr (0,1):=by
 intro l_;induction l_ with
 |zero =>
  intro a j;rfl
 |succ n ih_ =>
  intro a j;show foldM n (C.getD n vT).ns (allM C n) a j=_;rw[SN,ih_ a j];by_cases h:j=n;subst h;rw[f9 rfl,f6 (U9 _),f9 (uC _)];rw[f6 h];by_cases b:j<n;rw[f9 b,f9 eu];rw[f6 b,f6 r9]
def ls(f:Ch->Rat):List Ch->Rat
 | []=>0
 |x::l=>f x+ls f l
theorem qh(f:Ch->Rat):∀a b,ls f (a++b)=ls f a+ls f b:=by
 intro l_;induction l_ with
 |nil =>
  intro b;show ls f b=0+ls f b;grind
 |cons x a ih_ =>
  intro b;show f x+ls f (a++b)=f x+ls f a+ls f b;rw[ih_ b];grind
theorem a0q(f:Ch->Rat)(C:List Ch):∀n,n<=C.length->t8 (λj=>f (C.getD j vT)) n=ls f (C.take n):=by
 intro l_;induction l_ with
 |zero =>
  intro _;rfl
 |succ n ih_ =>
  intro h;show t8 _ n+f (C.getD n vT)=_;rw[ih_ eR,Od,qh,aN,L3 s9];show _=_+(f (C[n])+0);grind
theorem vj(f:Ch->Rat)(g:Nat->List Ch):∀n,ls f ((D0 n).flatMap g)=t8 (λt=>ls f (g t)) n:=by
 intro l_;induction l_ with
 |zero =>
  exact rfl
 |succ n ih_ =>
  rw[hF,uG,qh,ih_];show _+ls f (g n++[])=_;rw[bV];rfl
theorem Mw(f:Ch->Rat)(g:Nat->Ch):∀n,ls f ((D0 n).map g)=t8 (λi=>f (g i)) n:=by
 intro l_;induction l_ with
 |zero =>
  exact rfl
 |succ n ih_ =>
  rw[hF,Z2,qh,ih_];show _+(f (g n)+0)=_+f (g n);grind
theorem vc{g:Nat->Rat}(a b:Nat):∀n,t8 (λi=>if a=b+i then g i else 0) n=if b<=a/\a<b+n then g (a-b)else 0:=by
 intro l_;induction l_ with
 |zero =>
  rw[f6 z9];rfl
 |succ n ih_ =>
  show t8 _ n+(if a=b+n then g n else 0)=_;rw[ih_];by_cases h:a=b+n;rw[f9 h,f6 z9,f9 z9,show a-b=n by simp[*]];grind;rw[f6 h];by_cases c:b<=a/\a<b+n;rw[f9 c,f9 r9];grind;rw[f6 c,f6 r9];grind
theorem Vz{g:Nat->Rat}(s:Nat):∀n,t8 (λi=>if i<=s then g i else 0) n=t8 g (if n<=s then n else s+1):=by
 intro l_;induction l_ with
 |zero =>
  rfl
 |succ n ih_ =>
  show t8 _ n+(if n<=s then g n else 0)=_;rw[ih_];by_cases h:n+1<=s;rw[f9 eR,f9 eR,f9 h];rfl;rw[f6 h];by_cases a:n=s;rw[f9 (lQ s9),f9 (lQ s9),a];rfl;rw[f6 r9,f6 r9];grind
def eZ(ns:List (Nat×Q2))(o:Q2)(a:Nat):Q2:=ns.foldl (λo e=>if a=e.1 then e.2 else o) o
theorem WZ(a:Nat):∀(ns:List (Nat×Q2)) (o:Q2),CA ns (fr o) a=fr (eZ ns o a):=by
 intro l_;induction l_ with
 |nil =>
  intro _;exact rfl
 |cons e ns ih_ =>
  intro o;show CA ns (if a=e.1 then fr e.2 else fr o) a=fr (eZ ns (if a=e.1 then e.2 else o) a)
  rw[<-ih_];split<;>rfl
theorem a0h(b:Nat)(q o:Q2)(p:Nat):∀n,eZ ((D0 n).map λi=>(b+i,q)) o p=if b<=p/\p<b+n then q else o:=by
 intro l_;induction l_ with
 |zero =>
  rw[f6 z9];rfl
 |succ n ih_ =>
  rw[hF,Z2];delta eZ;rw[Ob];show(if p=b+n then q else eZ _ o p)=_;rw[ih_];by_cases h:p=b+n;rw[f9 h,f9 z9];rw[f6 h];by_cases a:b<=p/\p<b+n;rw[f9 a,f9 r9];rw[f6 a,f6 r9]
theorem Ho(c:l<m)(a q:Q2)(p:Nat):eZ ((l,a)::gX m l q) q0 p=if p=l then a else if m+l<=p/\p<2*m then q else q0:=by
 show eZ (gX m l q) (if p=l then a else q0) p=_;delta gX;rw[a0h];by_cases h:p=l;rw[f6 r9,f9 h,f9 h];rw[f6 h,f6 h];by_cases b:m+l<=p/\p<2*m;rw[f9 b,f9 r9];rw[f6 b,f6 r9]
structure Pl where
 lk:Nat->Rat
 sp:Nat->Rat
 bo:Nat->Rat
 gv:Nat->Rat
 fl:Nat->Rat
 tk:Nat->Rat
 lv:Nat->Rat
 un:Nat->Rat
 wk:Nat->Nat->Rat
variable{P:Pl}
def oV(t j:Nat):List Key:=[.inr "worked",.inl (t:Int),.inl (j:Int)]
structure Ag(h:y7)(Y:List Key->Rat)(P:Pl):Prop where
 lk:∀t,Y (k2 "lacked" t)=P.lk t
 sp:∀t,Y (k2 "spilt" t)=P.sp t
 bo:∀t,(h.hs.getD t G9).line≠J->Y (k2 "bought" t)=P.bo t/\Y (k2 "given" t)=P.gv t
 nl:∀t,(h.hs.getD t G9).line=J->P.bo t=0/\P.gv t=0
 fl:∀t,Y (k2 "filled" t)=P.fl t
 tk:∀t,Y (k2 "taken" t)=P.tk t
 lv:∀t,Y (k2 "level" t)=P.lv t
 un:∀j,Y (k2 "undone" j)=P.un j
 wk:∀t j,Y (oV t j)=P.wk t j
def iW(x:Hr):Rat:=if x.ck<=x.need then 1 else -1
theorem cR(n:Int):val (n,1)=(n:Rat):=val_one n
theorem wd(x:Hr):val (Q0 x)=iW x:=by delta Q0 iW;split<;>rw[cR]<;>rfl
theorem uV(x:Hr):val (outF x) = - iW x:=by
 delta outF iW;split<;>rw[cR]
 rfl;rfl
def hV(Y:List Key->Rat)(p:Nat)(x:Ch):Rat:=val (eZ x.ns q0 p)*Y x.k
theorem el{c:Prop}[Decidable c](a b:Q2):val (if c then a else b)=if c then val a else val b:=by split<;>rfl
theorem a0I(A:Ag d L P)(H:jM d)(Y:m<d.n)(p:Nat):ls (hV L p) (Z9 d m) =
  (if p=m then iW (d.hr m)*(P.lk m+P.bo m+val d.left*P.tk m-P.sp m-P.gv m-P.fl m)else 0)+(if d.n+m<=p/\p<2*d.n then P.tk m-val d.kept*P.fl m else 0)+if p=d.n+m then P.lv m else 0:=by
 have g:∀q:Q2,eZ [(m,q)] q0 p=if p=m then q else q0:=λ_=>rfl;have o:eZ [(d.n+m,((1,1)))] q0 p=if p=d.n+m then(1,1)else q0:=rfl
 have u:val (N3 (Q0 (d.hr m)) d.left)=iW (d.hr m)*val d.left:=by rw[sV (by delta Q0;split<;>decide) H.l.pos,wd]
 have s:val (fe (0,1) d.kept) = - val d.kept:=by rw[Ay f5 H.k.pos,show val (0,1)=0 from bF];grind
 have r:ls (hV L p) (bZ d m)=(if p=m then iW (d.hr m)*(val d.left*P.tk m-P.fl m)else 0)+(if d.n+m<=p/\p<2*d.n then P.tk m-val d.kept*P.fl m else 0)+if p=d.n+m then P.lv m else 0:=by
  delta bZ;simp only[ls,hV];rw[Ho Y,Ho Y,o,A.fl,A.tk,A.lv,el,el,el,el,el,u,s,(cR 1),uV,bF];by_cases e:p=m;rw[f9 e,f9 e,f9 e,f6 r9,f6 r9,f6 r9];grind
  . rw[f6 e,f6 e,f6 e];by_cases f:d.n+m<=p/\p<2*d.n
    . rw[f9 f,f9 f,f9 f];split<;>grind
    . rw[f6 f,f6 f,f6 f];split<;>grind
 delta Z9 ez da;rw[qh,r];cases hl:(d.hr m).line with
 |none =>
  obtain⟨j,i⟩:=A.nl m hl;simp only[bV,ls,hV];rw[g,g,A.lk,A.sp,el,el,wd,uV,bF,j,i];by_cases e:p=m;rw[f9 e,f9 e,f9 e,f9 e];grind;rw[f6 e,f6 e,f6 e,f6 e];grind
 |some l =>
  obtain⟨a,b,c,h⟩:=l;obtain⟨j,i⟩:=A.bo m (by rw[hl];simp);simp only[aZ,bU,ls,hV];rw[g,g,A.lk,A.sp,j,i,el,el,wd,uV,bF];by_cases e:p=m;rw[f9 e,f9 e,f9 e,f9 e];grind;rw[f6 e,f6 e,f6 e,f6 e];grind
abbrev L0(h:y7)(j:Nat):Nat:=(h.ws.getD j U1).first.toNat
abbrev dM(h:y7)(j:Nat):Nat:=Av (h.ws.getD j U1)
noncomputable def nk(h:y7)(P:Pl)(s:Nat):Rat:=t8 (λj=>if L0 h j<=s/\s<L0 h j+dM h j then P.wk s j else 0) h.ws.length
theorem Yk(A:Ag d L P)(H:jM d)(g:m<d.w)(p:Nat):ls (hV L p) (bE d m) =
  (if p=2*d.n+m then P.un m+t8 (λi=>P.wk (L0 d m+i) m) (dM d m)else 0)+if L0 d m<=p/\p<L0 d m+dM d m then-iW (d.hr p)*P.wk p m else 0:=by
 have:=H.f m g;show hV L p (bR d m)+ls _ _=_;have h:eZ [(2*d.n+m,((1,1)))] q0 p=if p=2*d.n+m then(1,1)else q0:=rfl
 have c:=cR 1;have l:hV L p (bR d m)=if p=2*d.n+m then P.un m else 0:=by
  show val (eZ [(2*d.n+m,(1,1))] q0 p)*L (k2 "undone" m)=_
  rw[h,A.un,el,c,bF];split<;>grind
 have e:∀i,i<dM d m->hV L p (sT d m (L0 d m+i))=(if p=2*d.n+m then P.wk (L0 d m+i) m else 0)+if p=L0 d m+i then-iW (d.hr (L0 d m+i))*P.wk (L0 d m+i) m else 0:=λi k=>by
  have:i<((d.wk m).last+1-(d.wk m).first).toNat:=k;show val (if p=2*d.n+m then(1,1)else if p=L0 d m+i then outF (d.hr (L0 d m+i))else q0)*L (oV (L0 d m+i) m)=_;rw[A.wk,el,el,c,bF,uV];by_cases a:p=2*d.n+m;rw[f9 a,f9 a,f6 r9];grind
  . rw[f6 a,f6 a];split<;>grind
 rw[l,Mw,A2 _ e,cI,vc];by_cases b:L0 d m<=p/\p<L0 d m+dM d m
 . have:p<d.n:=by
     have:p<L0 d m+((d.wk m).last+1-(d.wk m).first).toNat:=b.2;lia
   rw[A2 _ λi _=>f6 r9,iu];grind
 rw[f6 b,f6 b];by_cases a:p=2*d.n+m;rw[f9 a,f9 a,A2 _ λi _=>f9 a];grind;rw[f6 a,f6 a,A2 _ λi _=>f6 a,iu];grind
theorem zE(A:Ag d L P)(H:jM d)(p:Nat):ls (hV L p) (w4 d)=t8 (λt=>(if p=t then iW (d.hr t)*(P.lk t+P.bo t+val d.left*P.tk t-P.sp t-P.gv t-P.fl t)else 0)+(if d.n+t<=p/\p<2*d.n then P.tk t-val d.kept*P.fl t else 0)+if p=d.n+t then P.lv t else 0) d.n +
  t8 (λj=>(if p=2*d.n+j then P.un j+t8 (λi=>P.wk (L0 d j+i) j) (dM d j)else 0)+if L0 d j<=p/\p<L0 d j+dM d j then-iW (d.hr p)*P.wk p j else 0) d.w:=by delta w4;rw[qh,vj,vj,A2 _ λt b=>a0I A H b p,A2 _ λj a=>Yk A H a p]
theorem GN{g:Nat->Rat}(a:Nat)(h:a<m):t8 (λi=>if a=i then g i else 0) m=g a:=by
 have:=vc (g:=g) a 0 m;rw[f9 z9]at this;rw[<-A2 m λi _=>by rw[qG]]at this;exact this
theorem V5{f:Nat->Rat}(h:∀i,i<m->f i=0):t8 f m=0:=by rw[A2 m h,iu]
theorem YW(A:Ag d L P)(H:jM d)(hs:m<d.n):ls (hV L m) (w4 d)=iW (d.hr m)*(P.lk m+P.bo m+val d.left*P.tk m-P.sp m-P.gv m-P.fl m-nk d P m):=by
 rw[zE A H,cI,cI,GN m hs,
  V5 λt _=>f6 r9,V5 λt _=>f6 (Q1 (M5 s9 (jI _ _))),cI,
  V5 λt _=>f6 r9]
 have:t8 (λj=>if L0 d j<=m/\m<L0 d j+dM d j then-iW (d.hr m)*P.wk m j else 0) d.w=nk d P m * - iW (d.hr m):=by delta nk;rw[V6];exact A2 _ λj _=>by split<;>grind
 grind
theorem Ug(H:jM d)(a:m<d.w)(b:d.n<=l):¬(L0 d m<=l/\l<L0 d m+dM d m):=by
 have:=H.f m a;show ¬(_/\l<(d.wk m).first.toNat+((d.wk m).last+1-(d.wk m).first).toNat);lia
theorem YV(A:Ag d L P)(H:jM d)(hs:m<d.n):ls (hV L (d.n+m)) (w4 d)=P.lv m-t8 (λt=>val d.kept*P.fl t-P.tk t) (m+1):=by
 rw[zE A H,cI,cI,V5 λt _=>f6 r9,cI,
  V5 (f:=λj=>if d.n+m=2*d.n+j then P.un j+t8 (λi=>P.wk (L0 d j+i) j) (dM d j)else 0) λt _=>f6 r9,
  V5 λj b=>f6 (Ug H b z9)]
 have h:t8 (λt=>if d.n+m=d.n+t then P.lv t else 0) d.n=P.lv m:=by rw[vc,f9 z9,show d.n+m-d.n=m by simp[*]]
 have a:t8 (λt=>if d.n+t<=d.n+m/\d.n+m<2*d.n then P.tk t-val d.kept*P.fl t else 0) d.n=t8 (λt=>P.tk t-val d.kept*P.fl t) (m+1):=by
  have:=Vz (g:=λt=>P.tk t-val d.kept*P.fl t) m d.n;rw[f6 z9]at this;rw[<-this];refine A2 _ λt _=>?_;by_cases c:t<=m;rw[f9 c,f9 r9];rw[f6 c,f6 z9]
 rw[h,a,hP,hP];grind
theorem YU(A:Ag d L P)(H:jM d)(b:m<d.w):ls (hV L (2*d.n+m)) (w4 d)=P.un m+t8 (λi=>P.wk (L0 d m+i) m) (dM d m):=by
 rw[zE A H,V5 λt c=>by rw[f6 r9,f6 z9,f6 r9];grind,cI,
  V5 λi a=>f6 (Ug H a r9),
  vc,f9 z9,show 2*d.n+m-2*d.n=m by simp[*]]
 grind
def dO(x:Hr):Int:=match x.line with
 |none=>0
 |some l=>l.1
def dN(x:Hr):Int:=match x.line with
 |none=>0
 |some l=>l.2.2.1
noncomputable def cV(h:y7)(P:Pl):Nat->Rat
 | 0=>t8 P.lk h.hs.length
 | 1=>t8 P.un h.ws.length
 |_=>t8 (λt=>(dO (h.hs.getD t G9):Rat)*P.bo t-(dN (h.hs.getD t G9):Rat)*P.gv t) h.hs.length-(h.rest:Rat)*P.lv (h.hs.length-1)
def rS(Y:List Key->Rat)(i:Nat)(x:Ch):Rat:=val (R4 x.c i)*Y x.k
theorem Tn(A:Ag d L P)(Y:1<=d.n)(o:m<3):ls (rS L m) (w4 d)=cV d P m:=by
 have z:=bF;have h:=cR 1;have a:∀q j,(∀c,rS L m ⟨(bR d j).k,Yo,c,(bR d j).ns⟩=q)->ls (rS L m) (bE d j)=q:=λq j e=>by
  show rS L m (bR d j)+ls _ _=_;rw[Mw,V5 λt _=>?_,show rS L m (bR d j)=q from e _];grind;show val (R4 ⟨(0,1),(0,1),(0,1)⟩ m)*_=0;rw[show val (R4 ⟨(0,1),(0,1),(0,1)⟩ m)=0 by rcases(by lia:m=0\/m=1\/m=2)with rfl|rfl|rfl<;>exact bF];grind
 delta w4;rw[qh,vj,vj];rcases(by lia:m=0\/m=1\/m=2)with rfl|rfl|rfl
 . rw[V5 λj _=>a 0 j λc=>by show val (0,1)*_=0;rw[z];grind,A2 (g:=P.lk) _ λt _=>?_];show _+0=t8 P.lk _;grind
   . delta Z9 ez da bZ;cases(d.hr t).line<;>simp only[aZ,bU,ls,rS,R4,CS,mN,A.lk]<;>grind
 . rw[A2 _ λj _=>a (P.un j) j λc=>by show val (1,1)*L (k2 "undone" j)=_;rw[h,A.un];grind,V5 λt _=>?_];show 0+_=t8 P.un _;grind
   . delta Z9 ez da bZ;cases(d.hr t).line<;>simp only[aZ,bU,ls,rS,R4,CS,mN]<;>grind
 . rw[V5 λj _=>a 0 j λc=>by show val (0,1)*_=0;rw[z];grind,
     A2 (g:=λt=>((dO (d.hr t))*P.bo t-(dN (d.hr t))*P.gv t)-(if t+1=d.n then d.rest*P.lv t else 0)) _ λt _=>?_,hP]
   . have:t8 (λt=>if t+1=d.n then d.rest*P.lv t else 0) d.n=d.rest*P.lv (d.n-1):=by
       rw[<-GN (g:=λt=>d.rest*P.lv t) (d.n-1) (show d.n-1<d.n by omega)];refine A2 _ λt _=>?_;by_cases c:t+1=d.n;rw[f9 c,f9 r9];rw[f6 c,f6 r9]
     show _+0=_-_;grind
   . have:((-wO d t:Int))*P.lv t = - if t+1=d.n then d.rest*P.lv t else 0:=by
       delta wO;split;rw[EB];grind;show 0*_=_;grind
     delta Z9 ez da bZ dO dN;cases hl:(d.hr t).line with
     |none =>
      obtain⟨f,b⟩:=A.nl t hl;simp only[aZ,bU,ls,rS,R4,CS,mN,cR,A.lv];grind
     |some l =>
      obtain⟨f,b⟩:=A.bo t (by rw[hl];simp);simp only[aZ,bU,ls,rS,R4,CS,mN,cR,A.lv];grind
structure G5(h:y7):Prop where
 n1:1<=h.hs.length
 n4:h.hs.length<=4
 w2:h.ws.length<=2
 k:B4 4 h.kept
 k0:0<h.kept.1/\h.kept.1<=h.kept.2
 l:B4 4 h.left
 l0:0<h.left.1/\h.left.1<=h.left.2
 st:0<=h.start/\h.start<=h.size/\h.size<=1000000
 fl:0<=h.fill/\h.fill<=1000000
 tk:0<=h.take/\h.take<=1000000
 re:0<=h.rest/\h.rest<=1000
 hr:∀t,t<h.hs.length->0<=(h.hs.getD t G9).ck/\(h.hs.getD t G9).ck<=1000000/\0<=(h.hs.getD t G9).need/\(h.hs.getD t G9).need<=1000000
 ln:∀t a b c d,t<h.hs.length->(h.hs.getD t G9).line=U (a,b,c,d)->(-1000<=a/\a<=1000)/\(0<=b/\b<=1000000)/\(-1000<=c/\c<=1000)/\0<=d/\d<=1000000
 wk:∀j,j<h.ws.length->0<=(h.ws.getD j U1).K4/\(h.ws.getD j U1).K4<=1000000/\0<=(h.ws.getD j U1).most/\(h.ws.getD j U1).most<=1000000
 f:∀j,j<h.ws.length->0<=(h.ws.getD j U1).first/\(h.ws.getD j U1).first<=(h.ws.getD j U1).last/\(h.ws.getD j U1).last<(h.hs.length:Int)
abbrev hD(h:y7):Int:=h.kept.2*h.left.2
abbrev hM(h:y7):Nat:=2*h.hs.length+h.ws.length
abbrev CB(q:Q2):Prop:=q.2=1/\-1000<=q.1/\q.1<=1000
structure a3K(h:y7)(x:Ch):Prop where
 ns:∀e∈x.ns,e.1<hM h/\B4 10 e.2/\e.2.2∣hD h
 tp:∀q,x.t=U q->q.2=1/\0<=q.1/\q.1<=1000000
 c:∀t,t<3->CB (R4 x.c t)
 fr:x.t=J->x.c=jZ/\∃t,x.k=k2 "spilt" t
theorem G5.s(H:G5 d):jM d:=⟨H.k.mono f5,H.l.mono f5,by have:=H.n4;exact pd,by have:=H.w2;exact pd,H.f⟩
theorem xj{P:Q2->Prop}(f:P b6.a)(g:P b6.b)(d:P b6.c):∀t,t<3->P (R4 b6 t):=λt e=>by rcases(by lia:t=0\/t=1\/t=2)with rfl|rfl|rfl<;>assumption
theorem rW(H:G5 d):∀x∈w4 d,a3K d x:=by
 have one:1∣hD d:=⟨hD d,by simp[*]⟩
 have B:∀y:Hr,(B4 10 (Q0 y)/\(Q0 y).2∣hD d)/\B4 10 (outF y)/\(outF y).2∣hD d:=λy=>by delta Q0 outF;split<;>exact⟨⟨⟨by decide,by decide,⟨by decide⟩,⟨by decide⟩⟩,one⟩,⟨by decide,by decide,⟨by decide⟩,⟨by decide⟩⟩,one⟩
 have o:CB (0,1):=by decide
 have O:CB (1,1):=by decide
 have C:∀t,t<3->CB (R4 ⟨(0,1),(0,1),(0,1)⟩ t):=xj o o o;have I:∀p:Int,-1000<=p->p<=1000->∀t,t<3->CB (R4 (mN p) t):=λp m L=>xj o o ⟨rfl,m,L⟩
 have s:∀{v:Int},0<=v->v<=1000000->∀q:Q2,U (v,1)=U q->q.2=1/\0<=q.1/\q.1<=1000000:=λm L q e=>by cases e;exact⟨rfl,m,L⟩
 have F:B4 10 ((1,1))/\((1,1)).2∣hD d:=⟨⟨by decide,by decide,⟨by decide⟩,⟨by decide⟩⟩,one⟩
 have m:∀{p:Nat} {q:Q2},p<hM d->B4 10 q/\q.2∣hD d->∀e∈[(p,q)],e.1<hM d/\B4 10 e.2/\e.2.2∣hD d:=λW hq e r=>by rw[mem_singleton.mp r];exact⟨W,hq⟩
 have u:∀{t:Nat} {a q:Q2},t<d.n->B4 10 a/\a.2∣hD d->B4 10 q/\q.2∣hD d->∀e∈(t,a)::gX d.n t q,e.1<hM d/\B4 10 e.2/\e.2.2∣hD d:=λA T hq e r=>by
  rcases List.mem_cons.mp r with rfl|r
  exact⟨by show _<_;lia,T⟩;obtain⟨i,G,rfl⟩:=mem_map.mp r;have:=mem_range.mp G;exact⟨by show _<_;lia,hq⟩
 have:=H.k.pos;have:=H.l.pos;have mk:B4 10 (fe (0,1) d.kept)/\(fe (0,1) d.kept).2∣hD d:=by
  have w:0<1*d.kept.2:=by lia
  refine⟨fh w ?_ ?_,gS (Z8 w).2.2.2 ⟨d.left.2,by rw[cU]⟩⟩;exact(H.k.bt.mono f5).of_le (by show(0*d.kept.2-d.kept.1*1).natAbs<=_;simp[*]);exact(H.k.bb.mono f5).of_le (by show(1*d.kept.2).natAbs<=_;simp[*])
 have S:∀y:Hr,B4 10 (N3 (Q0 y) d.left)/\(N3 (Q0 y) d.left).2∣hD d:=λy=>by
  have M:(Q0 y).2=1:=by delta Q0;split<;>rfl
  have w:0<(Q0 y).2*d.left.2:=by rw[M];simp[*]
  refine⟨fh w ((H.l.bt.mono f5).of_le (by delta Q0;split<;>simp)) ?_,gS (Z8 w).2.2.2 ⟨d.kept.2,by rw[M,cU,J5]⟩⟩;exact(H.l.bb.mono f5).of_le (by rw[M];lia)
 intro x g;rcases List.mem_append.mp g with g|g
 . obtain⟨t,A,g⟩:=mem_flatMap.mp g;have A:=mem_range.mp A;obtain⟨s0,s1,Q,Y⟩:=H.hr t A;have E:t<hM d:=by lia
   rcases List.mem_append.mp g with g|g
   . rcases List.mem_append.mp g with g|g
     . simp only[T8,cA,az]at g;rcases g with rfl|rfl
       exact⟨m E (B _).1,s Q Y,xj O o o,λz=>by exact nS z⟩;exact⟨m E (B _).2,(λq z=>by exact nE z),C,λ_=>⟨rfl,t,rfl⟩⟩
     . unfold da at g;cases hl:(d.hr t).line with
       |none=>rw[hl]at g;cases g
       |some l =>
        obtain⟨a,b,c,h⟩:=l;obtain⟨⟨N,K⟩,⟨w,X⟩,⟨V,c1⟩,R,P⟩:=H.ln t a b c h A hl;rw[hl]at g;simp only[T8,cA,az]at g;rcases g with rfl|rfl
        exact⟨m E (B _).1,s w X,I a N K,λz=>by exact nS z⟩;exact⟨m E (B _).2,s R P,I (-c) r9 r9,λz=>by exact nS z⟩
   . unfold bZ at g;have:=H.re;simp only[T8,cA,az]at g;rcases g with rfl|rfl|rfl
     exact⟨u A (B _).2 mk,s H.fl.1 H.fl.2,C,λz=>by exact nS z⟩;exact⟨u A (S _) F,s H.tk.1 H.tk.2,C,λz=>by exact nS z⟩;exact⟨m r9 F,s (aK H.st.1 H.st.2.1) H.st.2.2,I _ (by delta wO;split<;>lia) (by delta wO;split<;>lia),λz=>by exact nS z⟩
 . obtain⟨j,D,g⟩:=mem_flatMap.mp g;have D:=mem_range.mp D;obtain⟨N,K,m0,m1⟩:=H.wk j D;obtain⟨f0,Z,f2⟩:=H.f j D;rcases List.mem_cons.mp g with rfl|g
   exact⟨m r9 F,s N K,xj o O o,λz=>by exact nS z⟩
   . obtain⟨i,G,rfl⟩:=mem_map.mp g;have G:i<((d.wk j).last+1-(d.wk j).first).toNat:=mem_range.mp G;refine⟨λe r=>?_,s m0 m1,C,λz=>by exact nS z⟩
     unfold sT at r;simp only[T8,cA,az]at r;rcases r with rfl|rfl
     exact⟨by show _<_;lia,(B _).2⟩;exact⟨by show _<_;lia,F⟩
abbrev bz(h:y7):List (List Key):=(w4 h).map (·.k)
abbrev cx(h:y7)(j:Nat):Ch:=(w4 h).getD j vT
def kj(h:y7)(k:List Key):Nat:=(bz h).findIdx λa=>decide (a=k)
noncomputable def x6(h:y7):F4:=⟨hM h,(w4 h).length,λj=>(cx h j).c,λp j=>eZ (cx h j).ns q0 p,λp=>(L4 h).getD p q0,λj=>(cx h j).t,λk=>kj h ((V9 h).getD k [])⟩
theorem fQ(a:m<(w4 d).length):cx d m∈w4 d:=by simp_all
theorem Mm(a:Nat):∀(ns:List (Nat×Q2)) (o:Q2),eZ ns o a=o\/∃e∈ns,eZ ns o a=e.2
 | [],_=>.inl rfl
 |e::ns,o=>by
  rcases Mm a ns (if a=e.1 then e.2 else o)with z|⟨b,c,d⟩
  show eZ ns (if a=e.1 then e.2 else o) a=o\/∃b∈e::ns,eZ ns (if a=e.1 then e.2 else o) a=b.2;rw[z];split;exact .inr ⟨e,D1,rfl⟩;exact .inl rfl;exact .inr ⟨b,C6 _ c,d⟩
theorem getD_at{l:List a2}{a d:a2}(h:l[m]? = U a):l.getD m d=a:=by simp_all
theorem UN(a:m<d.n):d.hs[m]? = U (d.hr m):=by simp_all
theorem Ue(a:m<d.w):d.ws[m]? = U (d.wk m):=by simp_all
theorem Uy(hs:m<d.n):(L4 d).getD m q0=kP (d.hr m):=by
 refine getD_at ?_;delta L4;rw[fZ (by simp;exact NS _ s9),fZ (by simpa using hs),L1,UN hs];rfl
theorem Ux(hs:m<d.n):(L4 d).getD (d.n+m) q0=(d.start,1):=by
 refine getD_at ?_;delta L4;rw[fZ (by simp;omega),js B3];simp[hs]
theorem Uw(a:m<d.w):(L4 d).getD (2*d.n+m) q0=((d.wk m).K4,1):=by
 refine getD_at ?_;delta L4;rw[js (by simp;lia),au,C5,rf,show 2*d.n+m-(d.n+d.n)=m by omega,L1,Ue a];rfl
theorem zK(c:m<hM d):m<d.n\/(∃s,s<d.n/\m=d.n+s)\/∃j,j<d.w/\m=2*d.n+j:=by
 by_cases a:m<d.n;exact .inl a;by_cases b:m<2*d.n;exact .inr (.inl ⟨m-d.n,by lia,by simp_all⟩);exact .inr (.inr ⟨m-2*d.n,by lia,by simp_all⟩)
theorem BA(H:G5 d)(c:m<hM d):((L4 d).getD m q0).2=1/\0<=((L4 d).getD m q0).1/\((L4 d).getD m q0).1<=1000000:=by
 rcases zK c with a|⟨s,a,rfl⟩|⟨j,b,rfl⟩
 . rw[Uy a];have:=H.hr m a;delta kP;refine⟨rfl,?_,?_⟩<;>dsimp only<;>split<;>lia
 rw[Ux a];have:=H.st;exact⟨rfl,by simp[*],by lia⟩;rw[Uw b];have:=H.wk j b;exact⟨rfl,by simp only[*];done,by simp only[*];done⟩
theorem wL(H:G5 d){k:Nat}(i:k<hM d):∃x∈w4 d,x.k=(V9 d).getD k []/\x.ns=[(k,(1,1))]/\∀q,x.t=U q->((L4 d).getD k q0).1<=q.1:=by
 have b:∀{t:Nat},t<d.n->∀{x:Ch},x∈Z9 d t->x∈w4 d:=λf x g=>T9 _ (mem_flatMap.mpr ⟨_,mem_range.mpr f,g⟩)
 rcases zK i with a|⟨s,a,rfl⟩|⟨j,h,rfl⟩
 . have e:(V9 d).getD k []=k2 (pP (d.hr k)) k:=by
     refine getD_at ?_;delta V9;rw[fZ (by simp;exact NS _ s9),fZ (by simpa using a),L1,oH a];rfl
   rw[e,Uy a];delta pP kP;have:=H.hr k a;by_cases c:(d.hr k).ck<=(d.hr k).need
   . rw[f9 c];refine⟨_,b a (T9 _ (T9 _ D1)),rfl,?_,λq z=>?_⟩;show[(k,Q0 _)]=_;delta Q0;rw[f9 c]
     . cases z;split<;>lia
   rw[f6 c];refine⟨_,b a (T9 _ (T9 _ (C6 _ D1))),rfl,?_,λq z=>by exact nE z⟩;delta outF;rw[f6 c]
 . have e:(V9 d).getD (d.n+s) []=k2 "level" s:=by
     refine getD_at ?_;delta V9;rw[fZ (by simp;omega),js B3];simp[a]
   rw[e,Ux a];refine⟨_,b a (K6 _ (C6 _ (C6 _ D1))),rfl,rfl,λq z=>?_⟩;cases z;exact H.st.2.1
 . have e:(V9 d).getD (2*d.n+j) []=k2 "undone" j:=by
     refine getD_at ?_;delta V9;rw[js (by simp;lia)];simp only[au,C5,uE];rw[show 2*d.n+j-(d.n+d.n)=j by lia,L1,oH h];rfl
   rw[e,Uw h];refine⟨bR d j,K6 _ (mem_flatMap.mpr ⟨j,mem_range.mpr h,D1⟩),rfl,rfl,λq z=>?_⟩;cases z;exact oq _
theorem Xa{d:List a2}(n:d.Nodup)(a:m<d.length)(b:l<d.length)(e:d[m]=d[l]):m=l:=by
 have p:=List.pairwise_iff_getElem.mp n;rcases jJ m l with c|c|c
 exact absurd e (p m l a b c);exact c;exact absurd e.symm (p l m b a c)
theorem tX(a:m<(w4 d).length):cx d m=(w4 d)[m]:=by simp_all
theorem CU(c:a6∈bz d):kj d a6<(w4 d).length/\(cx d (kj d a6)).k=a6:=by
 have b:kj d a6<(bz d).length:=List.findIdx_lt_length_of_exists ⟨a6,c,by simp⟩
 have a:kj d a6<(w4 d).length:=by simpa using b
 refine⟨a,?_⟩;have:=oE (List.findIdx_getElem (w:=b));rw[tX a];exact(qR (l:=w4 d) (·.k)).symm.trans this
theorem MG(a:m<(w4 d).length):kj d (cx d m).k=m:=by
 have c:(cx d m).k∈bz d:=mem_map.mpr ⟨_,fQ a,rfl⟩;obtain⟨b,h⟩:=CU c;refine Xa (ph d) (by simpa using b) (by simpa using a) ?_;rw[qR,qR,<-tX b,<-tX a];exact h
theorem yr(b:b9∈w4 d):kj d b9.k<(w4 d).length/\cx d (kj d b9.k)=b9:=by obtain⟨i,a,rfl⟩:=List.mem_iff_getElem.mp b;rw[<-tX a,MG a];exact⟨a,rfl⟩
open Sx (sN pN sm det F7 dot)
theorem xi(h:FD D M o)(hd:o.2∣E)(a:0<E):((wh o E).natAbs:Int)<=M*E:=by
 have p:=h.pos;have d:((wh o E).natAbs)*o.2=o.1.natAbs*E:=by
  have:=B9 Int.natAbs (xh h.pos hd);rw[cX,cX]at this;have c:(((wh o E).natAbs*o.2.natAbs:Nat):Int)=((o.1.natAbs*E.natAbs:Nat)):=by rw[this]
  rw[Int.natCast_mul,Int.natCast_mul,rd (T7 p),rd (T7 a)]at c;exact c
 have:o.2*((wh o E).natAbs)<=o.2*(M*E):=by rw[J5 o.2,d];refine aK (mQ h.vL (T7 a)) (Int.le_of_eq ?_);rw[J5 M,O8]
 exact zt this p
theorem DU(h:(D.natAbs:Int)<=M)(b:Bt m M):Bt m D:=b.of_le r9
section
variable{T:Sx.Tb}
theorem Small.bits(S:Small f K l)(b:Sx.Ok (f.pb K) T){β ω:Nat}(y:∀p,p<f.m->Bt β (K p))(w:∀j v,j<f.n->f.lim j=U v->Bt β v)(D:∀t j,t<3->j<f.n->Bt ω (f.wt t j))(g:1<=β):
  Bt (l*f.m+1) T.size/\(∀a k,a<f.n->k<f.m->Bt (l*f.m+l+1) (T.v8 (f.pb K) a k))/\(∀k,k<f.m->Bt (l*f.m+(β+l+22)+1) (T.am (f.pb K) k))/\∀t q,t<3->q<f.m->Bt (ω+(l*f.m+12)+10) (T.pr t q):=by
 have L:=b.G6;have c:∀k q,k<f.m->q<f.m->Bt (l*f.m+12) (T.inv k q):=λk q e hq=>by
  have h:Sx.sN f.m (λr=>(Sx.unit q r).natAbs)<2 ^ (1+10):=xr S.m1 λi _=>by delta Sx.unit;split<;>decide
  have:=S.det L e (Q3 h);rw[Sx.rN _ hq]at this;exact this
 have rt:∀p,p<f.m->Bt (β+l+12) (T.rt p):=λp Q=>by
  rw[b.rt p Q];have g:Bt (β+(l+1)+10) (Sx.fsum (f.pb K) T λj=>(f.pb K).A j p):=Bt.sm S.n1 λj o=>by
   split
   . refine Bt.mul ?_ (S.col o Q);show Bt β ((f.lim j).getD 0)
     cases hl':f.lim j with
     |none=>exact Bt.mono ⟨by decide⟩ g
     |some v=>exact w j v o hl'
   exact Bt.mono (m:=1) ⟨by decide⟩ (Nat.succ_pos _)
  exact((y p Q).mono r9).sub (g.mono E7)
 refine⟨?_,λa k B e=>S.det L e (S.cn a B),λk e=>?_,λt q u hq=>?_⟩;obtain⟨s,g,x,E⟩:=L.sg;exact Bt.sign g x (Ao (d:=0) (k:=f.m) (λi C _=>S.cn _ (L.bn i C)) (λz=>by simp_all));have h:=xr S.m1 λp Q=>(rt p Q).lt;exact S.det L e (Q3 h);rw[L.pr t q hq];exact Bt.sm S.m1 λk e=>(D t _ u (L.bn k e)).mul (c k q e hq)
end
theorem tR(H:G5 d):0<hD d/\hD d<=225:=by have:=H.k.bb.lt;have:=H.l.bb.lt;have h:=H.l.pos;refine⟨K9 H.k.pos h,?_⟩;exact aK (yP (show d.kept.2<=15 by lia) (show d.left.2<=15 by omega) de f5) f5
theorem xu(H:G5 d)(a:l<(w4 d).length):B4 10 ((x6 d).row m l)/\((x6 d).row m l).2∣hD d:=by
 rcases Mm m (cx d l).ns q0 with z|⟨e,b,z⟩
 show B4 10 (eZ (cx d l).ns q0 m)/\(eZ (cx d l).ns q0 m).2∣_;rw[z];exact⟨qs f5,⟨hD d,by show _=1*_;simp[*]⟩⟩;show B4 10 (eZ (cx d l).ns q0 m)/\(eZ (cx d l).ns q0 m).2∣_;rw[z];exact((rW H _ (fQ a)).ns e b).2
theorem vz{b:Int}(a:Bt m b)(d : -b<=D)(c:D<=b):Bt m D:=a.of_le r9
theorem Dm(f:1<=m)(d:Bt m D)(h:o.2=1)(g : -D<=o.1)(e:o.1<=D):B4 m o:=by obtain⟨a,c⟩:=o;subst h;exact rC (vz d g e) f
theorem xk(H:G5 d)(h:m<(w4 d).length)(hq:(cx d m).t=U o):o.2=1/\0<=o.1/\o.1<=1000000/\B4 20 o:=by obtain⟨a,b,c⟩:=(rW H _ (fQ h)).tp o hq;exact⟨a,b,c,Dm f5 ⟨by decide⟩ a r9 c⟩
theorem jf(H:G5 d):E8 (x6 d) (hD d) 1 (hD d):=by
 obtain⟨l,y⟩:=tR H;have:=H.n4;have:=H.w2;have g:Bt 900 (hD d):=vz ⟨by decide⟩ r9 y;have:(x6 d).m=2*d.n+d.w:=rfl;refine⟨by lia,?_,l,by decide,l,g,⟨by decide⟩,g,λp j i f=>?_,λt j u f=>?_,λp i=>?_,λj q f hq=>?_,λk r=>?_⟩;show(w4 d).length<=1000;delta w4;rw[au];have:=zI d d.n;have:=Kn d H.s (c:=5) (yZ s9) d.w E7;lia;exact⟨(xu H f).1.mono f5,(xu H f).2⟩;obtain⟨a,b,c⟩:=(rW H _ (fQ f)).c t u;exact⟨Dm f5 ⟨by decide⟩ a b c,⟨1,by show _=_*1;rw[show(R4 ((x6 d).cost j) t).2=1 from a];rfl⟩⟩;obtain⟨a,b,c⟩:=BA H i;exact⟨Dm f5 ⟨by decide⟩ a (aK f5 b) c,⟨hD d,by rw[show((x6 d).rg p).2=1 from a];simp[*]⟩⟩;obtain⟨a,b,c,h⟩:=xk H f hq;exact⟨h.mono f5,λs o=>by simp_all⟩;obtain⟨x,v,e,_⟩:=wL H r;show kj d ((V9 d).getD k [])<_;rw[<-e];exact(yr v).1
theorem a2i(h:B4 m o)(hd:o.2∣D):FD D (2 ^ m) o:=by
 refine⟨h.pos,h.low,hd,?_⟩;have:=h.bt.lt;have:=h.pos;have:(2 ^ m)*1<=2 ^ m*o.2:=jt s9 (T7 (Int.pow_pos f5));lia
theorem YR{c:Nat}:∀(m:Nat) (f:Nat->Nat),(∀i,i<m->f i<=c)->Sx.sN m f<=m*c:=by
 intro l_;induction l_ with
 |zero =>
  intro f _;rw[Sx.sN];exact gP _
 |succ m ih_ =>
  intro f hf;have:=ih_ f λi a=>hf i eu;have:=hf m z9;rw[Sx.sN,Nat.add_mul];lia
theorem xT(H:G5 d):jL (x6 d) 22:=by
 have O:=jf H;obtain⟨C,D⟩:=tR H;have:=H.n4;have:=H.w2;have:(x6 d).m=2*d.n+d.w:=rfl;have s:∀k,k<(x6 d).m->∃x∈w4 d,cx d ((x6 d).fs k)=x/\x.ns=[(k,(1,1))]/\∀q,x.t=U q->((L4 d).getD k q0).1<=q.1:=λk h=>by
  obtain⟨x,g,e,a,b⟩:=wL H h;refine⟨x,g,?_,a,b⟩;show cx d (kj d ((V9 d).getD k []))=x;rw[<-e];exact(yr g).2
 have o:∀k p,k<(x6 d).m->p<(x6 d).m->(x6 d).row p ((x6 d).fs k)=if p=k then(1,1)else q0:=λk p h i=>by
  obtain⟨x,g,e,a,b⟩:=s k h;show eZ (cx d ((x6 d).fs k)).ns q0 p=_;rw[e,a];rfl
 refine⟨o,λk l h B e=>?_,λp i=>(BA H i).2.1,λj q f hq=>(xk H f hq).2.1,λk q h hq=>?_,λj f=>?_,by lia,by decide⟩;have u:=o k k h h;have r:=o l k B h;rw[f9 rfl,e]at u;rw[u]at r;by_cases c:k=l;exact c;rw[f6 c]at r;cases r
 . obtain⟨x,g,e,a,b⟩:=s k h;have:=xk H (O.fs k h) hq;have:=BA H h;have A:x.t=U q:=by rw[<-e];exact hq
   have:=b q A;show((L4 d).getD k q0).1*q.2<=q.1*((L4 d).getD k q0).2
   simp_all
 obtain⟨v,y,_,z⟩:=O.sc f;have:=fV C y;refine B6 (YR (c:=230400) _ _ λp i=>?_) ?_;have:=xi (a2i (xu H f).1 (xu H f).2) (z p i) v;lia;have:(x6 d).m*230400<=10*230400:=oI _ r9;exact B6 s9 f5
theorem Ab(H:G5 d)(K:Sx.Ok (x6 d).pb c8):Bt 221 c8.size/\(∀k,k<(x6 d).m->Bt 293 (c8.am (x6 d).pb k))/\∀t q,t<3->q<(x6 d).m->Bt 260 (c8.pr t q):=by
 have O:=jf H;obtain⟨z,R⟩:=tR H;have:=H.n4;have:=H.w2;obtain⟨u1,u2,Q,C,E⟩:=O.un;have:=fV z u2;have:(x6 d).m=2*d.n+d.w:=rfl;have d:=(F4.side O (xT H)).s.bits K (β:=28) (ω:=18) (λp i=>by
   obtain⟨a,b,c⟩:=BA H i;have f:FD 1 1000000 ((x6 d).rg p):=⟨by show 0<((L4 d).getD p q0).2;simp_all,(O.rg p i).1.low,⟨1,by show 1=((L4 d).getD p q0).2*1;lia⟩,by show(((L4 d).getD p q0).1.natAbs)<=_*((L4 d).getD p q0).2;lia⟩;have:=xi f (C p i) u1;refine DU (M:=225000000) ?_ ⟨by decide⟩;show((wh ((x6 d).rg p) (x6 d).un).natAbs:Int)<=_
   lia) (λj v e F=>by
   obtain⟨r,y,rfl⟩:=Option.map_eq_some_iff.mp F;have G:=E j r e y;obtain⟨q,hq,rfl⟩:=Option.map_eq_some_iff.mp y;obtain⟨x,o,_,_⟩:=O.sc e;obtain⟨a,b,c,h⟩:=xk H e hq;have u:FD (hD d) 1 (1,(x6 d).sc j):=⟨x,by simp,o,by show((1:Int).natAbs)<=1*(x6 d).sc j;lia⟩;have l:FD 1 1000000 q:=⟨by simp[*],h.low,⟨1,by simp[*]⟩,by lia⟩;have:=xi (l.times u) G u1;refine DU (M:=225000000) ?_ ⟨by decide⟩
   lia) (λt j g e=>by
   obtain⟨x,o,_,_⟩:=O.sc e;have:=fV z o;obtain⟨m1,L,_,B⟩:=O.mu g;have:=fV f5 L;obtain⟨a,b,c⟩:=(rW H _ (fQ e)).c t g;have l:FD 1 1000 (R4 ((x6 d).cost j) t):=⟨by show 0<(R4 (cx d j).c t).2;simp_all,(O.cost t j g e).1.low,⟨1,by show 1=(R4 (cx d j).c t).2*1;lia⟩,by show((R4 (cx d j).c t).1.natAbs)<=_*(R4 (cx d j).c t).2;lia⟩;have u:FD 1 225 ((x6 d).sc j,1):=⟨by simp,by simp,eH _,by show(((x6 d).sc j).natAbs:Int)<=225*1;lia⟩;refine DU (M:=225000) ?_ ⟨by decide⟩;show((wh ((x6 d).wq t j) ((x6 d).mu t)).natAbs:Int)<=_;have:((wh ((x6 d).wq t j) ((x6 d).mu t)).natAbs)<=1000*225*(x6 d).mu t:=(xi (l.times u) (B j e) m1)
   lia) f5
 obtain⟨N,P,I,D⟩:=d;have:(x6 ‹y7›).J8.m=(x6 ‹y7›).m:=rfl;exact⟨N.mono r9,λk A=>(I k A).mono r9,λt q g hq=>(D t q g hq).mono r9⟩
def q2(x:Rat):Q2:=(x.num,(x.den:Int))
def qd(x:Rat):p9:=fr (q2 x)
theorem bK(x:Rat):0<(q2 x).2:=by have:=x.den_pos;show(0:Int)<x.den;simp[*]
theorem Zi(x:Rat):C9 (q2 x).1 (q2 x).2=1:=x.reduced
theorem eY(x:Rat):val (q2 x)=x:=by
 show x.num/((x.den:Int))=x;rw[<-Rat.divInt_eq_div,Rat.num_divInt_den]
theorem zN(h:0<z):0<z.num:=by
 have:=(Rat.lt_iff 0 z).mp h
 simp_all
theorem NA(i:Int)(h:i.natAbs<=m):Bt m i:=⟨M5 Nat.lt_two_pow_self (OG f5 h)⟩
theorem Dp(a:0<o.2)(b:C9 o.1 o.2=1):B4 (o.1.natAbs+o.2.natAbs) o:=⟨a,b,NA _ z9,NA _ z9⟩
theorem iZ{q:Q2}(a:0<q.2)(b:C9 q.1 q.2=1):q=q2 (val q):=val_inj (Dp a b) (Dp (bK _) (Zi _)) (eY _).symm
theorem Zh{t:Int}(a:0<D):D8 t D=q2 ((t:Rat)/(D:Rat)):=by obtain⟨d,c,_,_⟩:=Z8 a;rw[iZ d c,fI a]
theorem Hd(x y:Rat):cT (q2 x) (q2 y)=q2 (x+y):=by
 obtain⟨b,a,_,_⟩:=Z8 (K9 (bK x) (bK y));have:=iZ (q:=cT (q2 x) (q2 y)) b a
 rwa [PK (bK x) (bK y),eY,eY]at this
theorem QE(x y:Rat):fe (q2 x) (q2 y)=q2 (x-y):=by
 obtain⟨b,a,_,_⟩:=Z8 (K9 (bK x) (bK y));have:=iZ (q:=fe (q2 x) (q2 y)) b a
 rwa [Ay (bK x) (bK y),eY,eY]at this
theorem wu(x y:Rat):N3 (q2 x) (q2 y)=q2 (x*y):=by
 obtain⟨b,a,_,_⟩:=Z8 (K9 (bK x) (bK y));have:=iZ (q:=N3 (q2 x) (q2 y)) b a
 rwa [sV (bK x) (bK y),eY,eY]at this
theorem Lk(x:Rat):(-(q2 x).1,(q2 x).2)=q2 (-x):=rfl
theorem MJ(x:Rat):D5 (qd x) (.int 0)=sd (.int x.num):=rfl
theorem a0D(x:Rat):D5 (qd x) (.int 1)=sd (.int x.den):=rfl
structure RO(x:Rat):Prop where
 f:B4 3000 (q2 x)
structure zB(D:Int):Prop where
 pos:0<D
 bt:Bt 1000 D
structure Sz(D M:Int)(x:Rat):Prop where
 f:FD D M (q2 x)
theorem Sz.m0(h:Sz D M z):0<=M:=by
 have:=h.f.vL;rcases eI M 0 with c|c
 have:=zr c h.f.pos;lia;exact c
theorem Sz.ok(h:Sz D M z)(hD:zB D)(hM:M<=2 ^ 200):RO z:=by
 have:=h.m0;have b:Bt 201 M:=by
  have x:Bt 201 (2 ^ 200):=⟨by decide⟩;exact x.of_le r9
 exact⟨h.f.a3B hD.pos (hD.bt.mono f5) ((b.mul hD.bt).mono f5)⟩
theorem Sz.mono{N:Int}(h:Sz D M z)(hd:D∣E)(a:M<=N):Sz E N z:=⟨h.f.mono hd a⟩
theorem Sz.add(b:Sz D M z)(a:Sz D E v):Sz D (M+E) (z+v):=⟨by rw[<-Hd];exact b.f.plus a.f⟩
theorem Sz.neg(a:Sz D M z):Sz D M (-z):=by
 refine⟨a.f.pos,?_,a.f.dvd,?_⟩;have:=a.f.low;rw[<-Lk];rw[Int.neg_gcd];exact this
 . have:=a.f.vL;rw[<-Lk]
   simp_all
theorem Sz.sub(b:Sz D M z)(a:Sz D E v):Sz D (M+E) (z-v):=by rw[Rat.sub_eq_add_neg];exact b.add a.neg
theorem Sz.mul{N:Int}(a:Sz D M z)(b:Sz E N v):Sz (D*E) (M*N) (z*v):=⟨by rw[<-wu];exact a.f.times b.f⟩
theorem Sz.int(h:(E.natAbs:Int)<=M):Sz D M (E:Rat):=by
 refine⟨by show 0<1;decide,by show C9 E 1=1;simp,by show 1∣D;simp,?_⟩;show E.natAbs<=M*1;simp[*]
theorem Sz.zero(h:0<=M):Sz D M 0:=Sz.int (by simpa using h)
theorem Kw(x y:Rat):nr (q2 x) (q2 y)=decide (x<y):=by rw[sW (bK x) (bK y),eY,eY]
theorem vh:RO 0:=⟨B4.mono (m:=2) ⟨by decide,by decide,⟨by decide⟩,⟨by decide⟩⟩ f5⟩
theorem Dh(h:0<z):q2 z⁻¹=((q2 z).2,(q2 z).1):=by
 have a:C9 z.den z.num=1:=by rw[yI];exact z.reduced
 have:=iZ (q:=(z.den,z.num)) (zN h) a;have e:val (z.den,z.num)=z⁻¹:=by
  have:=eY z;have:val (q2 z)=z.num/((z.den:Int)):=rfl;show((z.den:Int))/z.num=z⁻¹;grind
 rw[e]at this;exact this.symm
theorem a0f(h:0<z)(a:RO z):RO z⁻¹:=by refine⟨?_⟩;rw[Dh h];exact⟨(zN h),by rw[yI];exact a.f.low,a.f.bb,a.f.bt⟩
theorem Yn{q:Q2}(a:B4 m o)(hq:B4 l q)(h:m+l<=59999):iN [fr o,fr q]=sd (.bool (nr o q)):=by have c:Bt 60000 o.1:=a.bt.mono (B6 xJ f5);have b:Bt 60000 o.2:=a.bb.mono (B6 xJ f5);have d:Bt 60000 q.1:=hq.bt.mono (B6 CJ f5);have e:Bt 60000 q.2:=hq.bb.mono (B6 CJ f5);delta iN;walk_at "r";simp only[C4,c,b,d,e];rfl
theorem Mv{q:Int×Int}(hp:B4 3900 d6)(hq:B4 3900 q):dQ [fr d6,fr q]=U (.dat (fr (N3 d6 q))):=by obtain⟨b0,_,b1,b2,b3,b4⟩:=Yr hp hq;obtain⟨c1,c2⟩:=Dn hp;obtain⟨c3,c4⟩:=Dn hq;unfold dQ;walk_at "r";simp only[C4,c1,c2,c3,c4];walk_at "r";rw[AM b0 b2];rfl
theorem vt(h:B4 m o):fr o=qd (val o):=by
 show fr o=fr (q2 (val o));rw[<-iZ h.pos h.low]
theorem fM{y:Rat}(a:RO z)(b:RO y):Q8 [qd z,qd y]=sd (qd (z-y)):=by
 show Q8 [fr (q2 z),fr (q2 y)]=_;rw[Mu a.f b.f f5,QE];rfl
theorem fL{x:Rat}(a:RO x)(b:RO z):J7 [qd x,qd z]=sd (qd (x*z)):=by
 show J7 [fr (q2 x),fr (q2 z)]=_;rw[nu a.f b.f f5,wu];rfl
theorem WK(a:RO z)(b:RO v):iN [qd z,qd v]=sd (.bool (decide (z<v))):=by
 show iN [fr (q2 z),fr (q2 v)]=_;rw[Yn a.f b.f f5,Kw]
theorem ZT(g:RO z)(a:RO v)(h:0<v):uO [qd z,qd v]=sd (qd (z*v⁻¹)):=by
 have d:=zN h;have e:V2 [.int v.den,.int v.num]=sd (qd v⁻¹):=by
  rw[gG (b:=v.num) K8 (Bt.mono a.f.bt f5)];have:=Zh (t:=v.den) d;rw[this];have:((v.den:Int))/v.num=v⁻¹:=by have c:=eY v⁻¹;rw[Dh h]at c;exact c
  rw[this];rfl
 delta uO;walk_at "r";rw[MJ];walk_at "r";rw[f6 (show ¬v.num=0 by exact K8)];walk_at "r";rw[a0D,MJ];walk_at "r";rw[e];walk_at "r";rw[fL g (a0f h a)];walk_at "r"
theorem Xm(a:RO z)(b:RO v):dQ [qd z,qd v]=sd (qd (z*v)):=by
 show dQ [fr (q2 z),fr (q2 v)]=_;rw[Mv (a.f.mono f5) (b.f.mono f5),wu];rfl
def xA(κ f t:Rat):Rat:=if κ*f-t<0 then 0 else(κ*f-t)*κ⁻¹
def Cm(κ f t:Rat):Rat:=if κ*f-t<0 then 0-(κ*f-t)else 0
theorem Wi(f t:Rat)(h:0<z):z*xA z f t-Cm z f t=z*f-t:=by delta xA Cm;split<;>grind
theorem LP(k:B4 m d.kept)(p:0<val d.kept)(s:RO z)(q:RO v)(j:RO (val d.kept))(l:RO (val d.kept*z))(g:RO (val d.kept*z-v)):
  sj [M6 d,qd z,qd v]=sd (.tuple [qd (xA (val d.kept) z v),qd (Cm (val d.kept) z v)]):=by
 have i:D5 (M6 d) (.int 4)=sd (qd (val d.kept)):=by
  show U (PV.dat (fr d.kept))=_;rw[vt k]
 have r:=fM l q;have n:=WK g vh;delta xA Cm;generalize val d.kept*z-v=a at *;refine L5 rfl ?_;refine t9 (ds1:=[sd (M6 d),sd (qd z),sd (qd v),sd (qd a)]) (w5 (pv:=.dat (qd a)) ?_ rfl) ?_;show(((((D5 (M6 d) (.int 4)).bind λx=>U [x.d,qd z]).bind J7).bind λx=>U [x.d,qd v]).bind Q8)=_;rw[i,x5];show((((J7 [qd (val d.kept),qd z]).bind λx=>U [x.d,qd v]).bind Q8))=_;rw[(fL j s),x5];exact r
 . have u:∀b,decide (a<0)=b->∀G,P5 (A8 (q5 iN (f7 (q9 3) (f7 (fC H0) u3)))) G K0 [sd (M6 d),sd (qd z),sd (qd v),sd (qd a)]=if b=Uf then G [sd (M6 d),sd (qd z),sd (qd v),sd (qd a)]else U (.next [sd (M6 d),sd (qd z),sd (qd v),sd (qd a)]):=λb o G=>by have e:=A4 (Fa:=q9 3) (Fb:=fC H0) (ds:=[sd (M6 d),sd (qd z),sd (qd v),sd (qd a)]) rfl rfl n;rw[o]at e;delta P5 A8;rw[e];rfl
   by_cases c:a<0;rw[f9 c,f9 c,A5,u Uf (fW c),f9 rfl];rw[aQ (by delta x9 y4;rw[yx rfl (A4 (Fa:=fC H0) (Fb:=q9 3) (ds:=[sd (M6 d),sd (qd z),sd (qd v),sd (qd a)]) rfl rfl (fM vh g))];rfl)];rfl;rw[f6 c,f6 c,A5,u U' (aM c),f6 cY];exact aQ (by delta x9 y4;rw[yx (A4 (Fa:=q9 3) (Fb:=t6 D5 (q9 0) (fC (.int 4))) (ds:=[sd (M6 d),sd (qd z),sd (qd v),sd (qd a)]) rfl i (ZT g j p)) rfl];rfl)
structure Am(h:y7)(d:p9)(Y:List Key->Rat):Prop where
 v:∀k,k∈bz h->mj d k=U (U (qd (Y k)))
 n:∀k,k∉bz h->mj d k=U J
 o:∀k,k∉bz h->Y k=0
structure Dy where
 b:Rat
 g:Rat
 fi:Rat
 ta:Rat
 la:Rat
 wk:Nat->Rat
variable{b7:Nat->Dy}
noncomputable def P8(w:Nat)(x:Dy):p9:=.tuple [qd x.b,qd x.g,qd x.fi,qd x.ta,qd x.la,.tuple (rl w λj=>qd (x.wk j))]
def ae(h:y7)(Y:List Key->Rat)(t:Nat):Dy:=⟨Y (k2 "bought" t),Y (k2 "given" t),xA (val h.kept) (Y (k2 "filled" t)) (Y (k2 "taken" t)),Cm (val h.kept) (Y (k2 "filled" t)) (Y (k2 "taken" t)),Y (k2 "lacked" t),λj=>Y (oV t j)⟩
section
variable{h:y7}{Y:List Key->Rat}
theorem Ad(A:Am h S Y)(f:G r=sd S)(e:u r=sd (L7 a6)):iI G u (fC H0) r=sd (qd (Y a6)):=by
 delta iI;rw[f,e];show((kI (a6.map bN)).bind λa6=>(mj S a6).bind λd=>U (PV.dat (d.getD H0)))=_;rw[oa,x5];by_cases c:a6∈bz h;rw[A.v a6 c];rfl;rw[A.n a6 c,A.o a6 c];rfl
theorem Di(A:Am h S Y)(e:a6∈bz h)(f:G r=sd S)(c:u r=sd (L7 a6)):jk G u r=sd (qd (Y a6)):=by
 delta jk;rw[f,c];show((kI (a6.map bN)).bind λa6=>(mj S a6).bind λd=>d.bind λS=>U (PV.dat S))=_;rw[oa,x5,A.v a6 e];rfl
theorem JG(a:m<h.n)(hs:B∈(["lacked","spilt","filled","taken","level"]:List Str)):k2 B m∈bz h:=by
 have:∃x∈Z9 h m,x.k=k2 B m:=by
  simp only[T8,cA,az]at hs;rcases hs with rfl|rfl|rfl|rfl|rfl
  exact⟨_,T9 _ (T9 _ D1),rfl⟩;exact⟨_,T9 _ (T9 _ (C6 _ D1)),rfl⟩;exact⟨_,K6 _ D1,rfl⟩;exact⟨_,K6 _ (C6 _ D1),rfl⟩;exact⟨_,K6 _ (C6 _ (C6 _ D1)),rfl⟩
 obtain⟨x,b,e⟩:=this;exact mem_map.mpr ⟨x,T9 _ (mem_flatMap.mpr ⟨m,mem_range.mpr a,b⟩),e⟩
theorem ia{g:FV}{Fc:DV}{x y z:PV}(c:G r=U x)(b:u r=U y)(a:Fc r=U z)(e:g [x.d,y.d,z.d]=b8):q5 g (f7 G (f7 u (f7 Fc u3))) r=b8:=by delta q5 f7;rw[c,x5,b,x5,a,x5];exact e
theorem qu{x y:PV}(b:G r=U x)(a:u r=U y):x9 (f7 G (f7 u u3)) r=sd (.tuple [x.d,y.d]):=by delta x9;rw[yx b a];rfl
structure Kh(h:y7)(Y:List Key->Rat)(t:Nat):Prop where
 f:RO (Y (k2 "filled" t))
 tk:RO (Y (k2 "taken" t))
 kf:RO (val h.kept*Y (k2 "filled" t))
 m:RO (val h.kept*Y (k2 "filled" t)-Y (k2 "taken" t))
theorem LH(A:Am h S Y)(H:G5 h)(b:0<val h.kept)(ok:RO (val h.kept))(a:m<h.n)(O:Kh h Y m){l:List p9}(r:l.length<1000)(o i c:Option PV):
  ∃p q g,lh [sd (u5 h),sd S,U (.own l),sd (.int (m:Int)),o,i,c]=U (.next [sd (u5 h),sd S,U (.own (l++[P8 h.w (ae h Y m)])),sd (.int (m:Int)),p,q,g]):=by
 have:=H.w2;refine⟨sd (.tuple [qd (Y (k2 "bought" m)),qd (Y (k2 "given" m))]),sd (.tuple [qd (ae h Y m).fi,qd (ae h Y m).ta]),sd (.list (rl h.w λj=>qd (Y (oV m j)))),?_⟩;refine t9 (w5 (qu (Ad A rfl (cS rfl)) (Ad A rfl (cS rfl))) rfl) ?_;refine t9 (w5 (ia rfl (Di A (JG a A3) rfl (cS rfl)) (Di A (JG a A3) rfl (cS rfl)) (LP H.k b O.f O.tk ok O.kf O.m)) rfl) ?_;refine t9 (ds1:=[sd (u5 h),sd S,U (.own l),sd (.int m),sd (.tuple [qd (Y (k2 "bought" m)),qd (Y (k2 "given" m))]),sd (.tuple [qd (ae h Y m).fi,qd (ae h Y m).ta]),sd (.list (rl h.w λj=>qd (Y (oV m j))))]) (w5 (X7 (items:=ax 0 h.w) ?_ (by rw[pX];exact pd) (rV λj _=>⟨_,Ad A rfl ?_,rfl⟩)) rfl) ?_;show O4 [.int ((h.ws.map O2).length)]=_;rw[C5,bI r9,fY];show((kI [.str "worked",.int m,.int (0+j)]).bind λk=>U (PV.dat (L7 k)))=_;rw[Y1];rfl
 . rw[fP];have e:t6 A9 (t6 A9 (q9 4) (q9 5)) (x9 (f7 (jk (q9 1) (W4 (f7 (fC (.str "lacked")) (f7 (q9 3) u3)))) (f7 (q5 aV (f7 (q9 6) u3)) u3))) [sd (u5 h),sd S,U (.own l),sd (.int m),sd (.tuple [qd (Y (k2 "bought" m)),qd (Y (k2 "given" m))]),sd (.tuple [qd (ae h Y m).fi,qd (ae h Y m).ta]),sd (.list (rl h.w λj=>qd (Y (oV m j))))]=sd (P8 h.w (ae h Y m)):=
    (F0 rfl (qu (Di A (JG a A3) rfl (cS rfl)) rfl)).trans rfl
   rw[e,fo _ rfl (B6 s9 f5)];rfl
theorem Wy(A:Am h S Y)(H:G5 h)(k:0<val h.kept)(ok:RO (val h.kept))(O:∀t,t<h.n->Kh h Y t):pI [u5 h,S]=sd (.tuple (rl h.n λt=>P8 h.w (ae h Y t))):=by
 have:=H.n4;refine L5 rfl ?_;refine t9 rfl ?_;have u:∃f b c a,G7 (F3 O4 (f7 (q5 E2 (f7 (t6 D5 (q9 0) (fC (.int 0))) u3)) u3)) (K5 3) lh [sd (u5 h),sd S,U (.own []),J,J,J,J]=U (.next [sd (u5 h),sd S,U (.own (rl h.n λt=>P8 h.w (ae h Y t))),f,b,c,a]):=by
  have o:F3 O4 (f7 (q5 E2 (f7 (t6 D5 (q9 0) (fC (.int 0))) u3)) u3) [sd (u5 h),sd S,U (.own []),J,J,J,J]=U (ax 0 h.n):=by
   show O4 [.int ((h.hs.map y6).length)]=_;rw[C5,bI r9,fY]
  delta G7;rw[o,x5];obtain⟨s,r,f,b,c,a,m⟩:=nR (gt:=K5 3) (ds:=[sd (u5 h),sd S,U (.own []),J,J,J,J])
   (λi g=>∃f b c a,g=[sd (u5 h),sd S,U (.own (rl i λt=>P8 h.w (ae h Y t))),f,b,c,a]) ⟨J,J,J,J,rfl⟩ (by
    rintro i g j ⟨f,b,c,a,rfl⟩;obtain⟨q,p,v,e⟩:=LH A H k ok j (O i j) (l:=rl i λt=>P8 h.w (ae h Y t)) (by rw[G8];lia) b c a;rw[show(i:Int)=0+i from(Y1 _).symm]at e
    refine⟨_,_,rfl,.inl e,sd (.int (0+i)),q,p,v,?_⟩;delta rl;rw[hF,Z2];rfl)
  exact⟨f,b,c,a,by rw[r,m]⟩
 obtain⟨f,b,c,a,e⟩:=u;exact t9 e rfl
end
theorem UH(d:ic m b6)(hq:B4 l o)(h:m+l<=7998):dB [K7 b6,fr o]=sd (K7 (zO b6 o)):=by delta dB;walk_at "r";rw[CY,CW,CV];walk_at "r";rw[nu d.a hq h,nu d.b hq h,nu d.c hq h];rfl
theorem a3G{y:Tr}(d:ic m b6)(e:ic l y)(h:m+l<=7998):kM [K7 b6,K7 y]=sd (K7 (DX b6 y)):=by delta kM;walk_at "r";rw[CY,CW,CV,CY,CW,CV];walk_at "r";rw[xC d.a e.a h,xC d.b e.b h,xC d.c e.c h];rfl
theorem XG{gt:p9->Option (List p9)}{Fe:DV}{items:List p9}(h:∀x∈items,∃bs pv,gt x=U bs/\Fe (S8 bs++r)=U pv):∃l,P4 gt z0 Fe r items=U l:=by
 classical
 exact⟨_,DJ (f:=λx=>if a:x∈items then(h x a).choose_spec.choose.d else .none) λx a=>⟨_,_,(h x a).choose_spec.choose_spec.1,(h x a).choose_spec.choose_spec.2,by rw[dif_pos a]⟩⟩
theorem gI{Fa Fb:DV}{ds:Ds}{x y z:PV}(b:Fa ds=U x)(a:Fb ds=U y)(c:G ds=U z):f7 Fa (f7 Fb (f7 G u3)) ds=U [x.d,y.d,z.d]:=by delta f7;rw[b,x5,a,x5,c,x5];rfl
theorem XW{β γ:Type}{f:a2->β->γ}{z:γ}{l:List a2}{m:List β}(h:z∈gQ f l m):∃a∈l,∃b∈m,z=f a b:=by
 induction l generalizing m with
 |nil=>cases h
 |cons a l j=>cases m with
  |nil=>cases h
  |cons b m =>
   rcases List.mem_cons.mp h with rfl|h
   exact⟨a,D1,b,D1,rfl⟩;obtain⟨i,d,c,g,e⟩:=j h;exact⟨i,C6 _ d,c,C6 _ g,e⟩
theorem LD(H:G5 d){X:List Tr}(W:X.length<=10)(ok:∀x∈X,ic 300 x):∃h,kX [u5 d,.list (X.map K7)]=sd h:=by
 have:=H.n4;have w:Bt 60000 1000:=⟨by lia⟩
 have B:N4 (.int 2) (.int d.n)=sd (.int (2*d.n)):=C4 (w.of_le f5) (w.of_le pd);have I:∀x:Hr,B4 1 (Q0 x):=λx=>by delta Q0;split<;>exact⟨by decide,by decide,⟨by decide⟩,⟨by decide⟩⟩
 have v:B4 1 ((-1,1)):=⟨by decide,by decide,⟨by decide⟩,⟨by decide⟩⟩
 have t:∀{j p:Option Int} {h},h∈cutD (X.map K7) j p->∃x∈X,h=K7 x:=λ{j p h} r=>by obtain⟨x,m,e⟩:=mem_map.mp (List.mem_of_mem_drop (OA r));exact⟨x,m,e.symm⟩
 have P:∀j p:Option Int,(cutD (X.map K7) j p).length<=10:=λj p=>by delta cutD;rw[jH,uB,C5];exact B6 (ES _ _) (B6 (yC _ _) s9)
 obtain⟨f,Q⟩:=XG (gt:=O6 2) (Fe:=hI) (items:=gQ (λx y=>.tuple [x,y]) (d.hs.map y6) (X.map K7)) λz N=>by obtain⟨a,R,b,q,rfl⟩:=XW N;obtain⟨x,m,rfl⟩:=mem_map.mp q;obtain⟨y,V,rfl⟩:=mem_map.mp R;refine⟨_,.dat (K7 (zO x (Q0 y))),rfl,?_⟩;exact A4 rfl (ql y) (UH (ok x m) (I y) f5)
 have C:(gQ (λx y=>eG [x,y]) (d.hs.map y6) (X.map K7)).length<=1000000:=by
  rw[Ov,C5];lia
 have T:∃h,(t7 (u6 2 (q5 E2 (f7 (t6 D5 (q9 0) (fC (.int 0))) u3))) (t7 (u6 3 (y9 (F3 av (f7 (t6 D5 (q9 0) (fC (.int 0))) (f7 (q9 1) u3))) (O6 2) z0 hI)) (t7 (S6 4 (N9 u3)) (t7 (u6 5 (fC nZ)) (t7 (G7 (F3 tq (f7 (eD gC (q9 1) (P9 (q9 2)) (P9 (t6 N4 (fC (.int 2)) (q9 2)))) u3)) (K5 6) eM) (t7 (rG 4 En) (D4 (nV (x9 (f7 (q5 aV (f7 (q9 3) u3)) (f7 (q5 aV (f7 (q9 4) u3)) (f7 (q5 aV (f7 (eD gC (q9 1) (P9 (t6 N4 (fC (.int 2)) (q9 2))) dS) u3)) u3)))))))))))) [sd (u5 d),sd (.list (X.map K7)),J,J,J,J,J]=U (.ret (.dat h)):=by
  rw[t9 (ds1:=[sd (u5 d),sd (.list (X.map K7)),sd (.int d.n),J,J,J,J]) (w5 (pv:=.dat (.int d.n)) (by
   show E2 [.tuple (d.hs.map y6)]=_
   delta E2 d1;simp) rfl) rfl]
  rw[t9 (w5 (by
   delta y9;rw[show F3 av (f7 (t6 D5 (q9 0) (fC (.int 0))) (f7 (q9 1) u3)) [sd (u5 d),sd (.list (X.map K7)),sd (.int d.n),J,J,J,J]=U (gQ (λx y=>.tuple [x,y]) (d.hs.map y6) (X.map K7))from rfl,x5,f9 C,Q]
   rfl) rfl) rfl]
  rw[t9 rfl rfl];rw[t9 (ds1:=[sd (u5 d),sd (.list (X.map K7)),sd (.int d.n),sd (.list f),U (.own []),sd (K7 jZ),J]) rfl rfl];have j:∃l k g,G7 (F3 tq (f7 (eD gC (q9 1) (P9 (q9 2)) (P9 (t6 N4 (fC (.int 2)) (q9 2)))) u3)) (K5 6) eM [sd (u5 d),sd (.list (X.map K7)),sd (.int d.n),sd (.list f),U (.own []),sd (K7 jZ),J]=U (.next [sd (u5 d),sd (.list (X.map K7)),sd (.int d.n),sd (.list f),U (.own l),k,g]):=by
   have D:F3 tq (f7 (eD gC (q9 1) (P9 (q9 2)) (P9 (t6 N4 (fC (.int 2)) (q9 2)))) u3) [sd (u5 d),sd (.list (X.map K7)),sd (.int d.n),sd (.list f),U (.own []),sd (K7 jZ),J]=U (cutD (X.map K7) (U d.n) (U (2*d.n))).reverse:=by
    have e:eD gC (q9 1) (P9 (q9 2)) (P9 (t6 N4 (fC (.int 2)) (q9 2))) [sd (u5 d),sd (.list (X.map K7)),sd (.int d.n),sd (.list f),U (.own []),sd (K7 jZ),J]=U (.own (cutD (X.map K7) (U d.n) (U (2*d.n)))):=by
     have o:P9 (t6 N4 (fC (.int 2)) (q9 2)) [sd (u5 d),sd (.list (X.map K7)),sd (.int d.n),sd (.list f),U (.own []),sd (K7 jZ),J]=U (U (2*(d.n:Int))):=by
      delta P9;rw[F0 rfl rfl];show((N4 (.int 2) (.int d.n)).bind _)=_;rw[B];rfl
     delta eD;rw[o];rfl
    delta F3 f7;rw[e];rfl
   delta G7;rw[D,x5];obtain⟨M,O,l,g,b,E,_⟩:=cM (gt:=K5 6) (G:=eM) (items:=(cutD (X.map K7) (U d.n) (U (2*d.n))).reverse)
    (λi A=>∃l g b,A=[sd (u5 d),sd (.list (X.map K7)),sd (.int d.n),sd (.list f),U (.own l),sd (K7 b),g]/\l.length=i/\ic (1+302*i) b) ⟨[],J,jZ,rfl,rfl,Yv f5⟩ (by
     rintro i h A r ⟨l,g,b,rfl,L,q⟩;have:i<10:=by
      have S:=(List.getElem?_eq_some_iff.mp r).1;rw[Fp]at S;have:=P (U d.n) (U (2*d.n));lia
     obtain⟨x,m,rfl⟩:=t (List.mem_reverse.mp (oJ r));have u:=Xe (ok x m) v;have s:=XU q u;refine⟨_,[sd (u5 d),sd (.list (X.map K7)),sd (.int d.n),sd (.list f),U (.own (l++[K7 (DX b (zO x (-1,1)))])),sd (K7 (DX b (zO x (-1,1)))),sd (K7 x)],rfl,.inl ?_,_,_,_,rfl,by simp[L],⟨s.a.mono r9,s.b.mono r9,s.c.mono r9⟩⟩
     refine t9 (w5 (A4 rfl (A4 (y:=.dat (fr (-1,1))) rfl rfl (UH (ok x m) v f5)) (a3G q u r9)) rfl) ?_;rw[fP];exact fo (.dat (K7 (DX b (zO x (-1,1))))) rfl r9)
   exact⟨l,sd (K7 b),g,by rw[O,E]⟩
  obtain⟨l,k,g,e⟩:=j;rw[t9 e rfl];rw[t9 (ds1:=[sd (u5 d),sd (.list (X.map K7)),sd (.int d.n),sd (.list f),U (.own l.reverse),k,g]) rfl rfl];have o:P9 (t6 N4 (fC (.int 2)) (q9 2)) (eB [sd (u5 d),sd (.list (X.map K7)),sd (.int d.n),sd (.list f),U (.own l.reverse),k,g])=U (U (2*(d.n:Int))):=by
   delta P9;rw[F0 rfl rfl];show((N4 (.int 2) (.int d.n)).bind _)=_;rw[B];rfl
  have F:eD gC (q9 1) (P9 (t6 N4 (fC (.int 2)) (q9 2))) dS (eB [sd (u5 d),sd (.list (X.map K7)),sd (.int d.n),sd (.list f),U (.own l.reverse),k,g])=U (.own (cutD (X.map K7) (U (2*d.n)) J)):=by delta eD;rw[o];rfl
  refine⟨_,aQ (pv:=.dat (.tuple [.tuple f,.tuple l.reverse,.tuple (cutD (X.map K7) (U (2*d.n)) J)])) ?_⟩;have K:q5 aV (f7 (eD gC (q9 1) (P9 (t6 N4 (fC (.int 2)) (q9 2))) dS) u3) (eB [sd (u5 d),sd (.list (X.map K7)),sd (.int d.n),sd (.list f),U (.own l.reverse),k,g])=sd (.tuple (cutD (X.map K7) (U (2*d.n)) J)):=by delta q5 f7;rw[F];rfl
  delta nV x9;rw[gI rfl rfl K];rfl
 obtain⟨h,e⟩:=T;exact⟨h,L5 rfl e⟩
section
variable{T:Sx.Tb}
theorem a0m(H:E8 e D E M)(G:jL e m)(K:Sx.Ok e.pb T)(a:l<e.n):0<=val (X3 e T l):=by
 rcases rD K a with ⟨k,d,rfl,b,I⟩|⟨f,⟨b,q,hq,I⟩|⟨b,I⟩⟩
 have p:=K9 K.G6.pos H.un.1;rw[I,fI p,Ee];exact qO (by exact_mod_cast fz (K.lo k d) (T7 (H.sc a).1)) (jB (Rat.inv_pos.mpr (R7 p)));rw[I];exact(CH (H.tp l q a hq).1.pos).mp (G.t0 l q a hq);rw[I,bF];rfl
theorem Xf(H:E8 e D E M)(G:jL e m)(K:Sx.Ok e.pb T)(a:l<e.n)(hq:e.tp l=U o):val (X3 e T l)<=val o:=by
 have:=zR H K a;have:=(uY H a hq).1;have:=(CH (H.tp l o a hq).1.pos).mp (G.t0 l o a hq);obtain⟨v,j,i⟩:=(uY H a hq).2;refine Rat.not_lt.mp λlt=>?_
 rcases rD K a with ⟨k,h,g,f,I⟩|⟨F,⟨f,c,b,I⟩|⟨f,I⟩⟩
 . have:yv e.pb T l=T.am e.pb k:=by delta yv;rw[f6 (by rw[f];decide),<-g,zJ K.G6 _ h,Y1]
   have d:((T.am e.pb k):Rat)<=v*T.size:=by exact_mod_cast (K.hi k v h (by rw[g];exact j))
   have:=Pj lt (dW (R7 K.G6.pos) (R7 H.un.1));have:=Pn d (jB (R7 (H.sc a).1));have:(e.sc l)*(v*T.size)=val o*(T.size*e.un):=by grind
   grind
 . simp_all
 rw[I,bF]at lt;grind
end
open Classical in
def yK(h:y7)(T:Sx.Tb)(k:List Key):Rat:=if k∈bz h then val (X3 (x6 h) T (kj h k))else 0
section
variable{T:Sx.Tb}
theorem Mt(H:G5 d)(K:Sx.Ok (x6 d).pb T)(f:m<(w4 d).length):B4 310 (X3 (x6 d) T m)/\(X3 (x6 d) T m).2∣T.size*(x6 d).un:=by
 have O:=jf H;obtain⟨l,s⟩:=tR H;obtain⟨r,p,_⟩:=Ab H K;have:=fV l O.un.2.1;have j:=O.sc f;have:=fV l j.2.1;have g:=K9 K.G6.pos O.un.1;rcases rD K f with ⟨k,o,rfl,i,e⟩|⟨t,⟨i,q,hq,e⟩|⟨i,e⟩⟩
 rw[e];refine⟨fh g (((p k o).mul (n:=8) (vz (b:=225) ⟨by decide⟩ r9 (aK s9 s9))).mono f5) ((r.mul (n:=8) (vz (b:=225) ⟨by decide⟩ (by have:=O.un.1;lia) (aK s9 s9))).mono f5),(Z8 g).2.2.2⟩;obtain⟨a,b,c,h⟩:=xk H f hq;rw[e,a];exact⟨h.mono f5,⟨_,(cU _).symm⟩⟩;rw[e];exact⟨qs f5,⟨_,(cU _).symm⟩⟩
theorem Iq(a:b9∈w4 d):yK d T b9.k=val (X3 (x6 d) T (kj d b9.k)):=by delta yK;rw[f9 (mem_map.mpr ⟨b9,a,rfl⟩)]
theorem Ud(a:m<(w4 d).length):yK d T (cx d m).k=val (X3 (x6 d) T m):=by rw[Iq (fQ a),MG a]
theorem xf(a:a6∉bz d):yK d T a6=0:=by delta yK;rw[f6 a]
theorem Ya(H:G5 d)(K:Sx.Ok (x6 d).pb T)(c:b9∈w4 d):0<=yK d T b9.k/\∀q,b9.t=U q->yK d T b9.k<=val q:=by obtain⟨a,b⟩:=yr c;rw[Iq c];exact⟨a0m (jf H) (xT H) K a,λq hq=>Xf (jf H) (xT H) K a (by show(cx d _).t=_;rw[b];exact hq)⟩
open Classical in
theorem Dw(f:Nat->p9)(k:List Key):∀(ks:List (List Key)) (b:Nat),ks.Nodup->((ks.zip ((List.range' b ks.length).map f)).find? λp=>decide (p.1=k)).map (·.2)=if k∈ks then U (f (b+ks.findIdx λa=>decide (a=k)))else J
 | [],_,_=>(f6 B3).symm
 |a::ks,b,hn=>by
  rw[Y2,NW,C7,kU,NL,List.findIdx_cons];by_cases e:a=k;subst e;simp
  . simp only[aM e,T8];rw[(Dw f k ks (b+1) (List.nodup_cons.mp hn).2)];by_cases c:k∈ks
    . rw[f9 c,f9 (.inr c)];congr 2;exact zi _ _ _
    rw[f6 c,f6 (λz=>z.elim (λz=>e z.symm) c)]
open Classical in
theorem XR(H:G5 d)(K:Sx.Ok (x6 d).pb T):Am d (wQ (bz d) (rl (w4 d).length λj=>fr (X3 (x6 d) T j))) (yK d T):=by
 have c:(bz d).length=(w4 d).length:=(C5 ..);have b:∀k,mj (wQ (bz d) (rl (w4 d).length λj=>fr (X3 (x6 d) T j))) k=U (if k∈bz d then U (fr (X3 (x6 d) T (kj d k)))else J):=λk=>by
  show((tZ ((bz d).map λk=>.tuple (k.map bN))).bind λh=>U (((h.zip (rl (w4 d).length λj=>fr (X3 (x6 d) T j))).find? λp=>decide (p.1=k)).map (·.2)))=_;rw[yt,x5];have:=Dw (λj=>fr (X3 (x6 d) T j)) k (bz d) 0 (ph d);rw[qG,<-OC,c]at this;exact B9 U this
 refine⟨λk a=>?_,λk a=>?_,λk a=>xf a⟩;rw[b,f9 a];delta yK;rw[f9 a,vt (Mt H K (CU a).1).1];rw[b,f6 a]
end
theorem Io{b:Type}{g:b->p9}(a:∀x,LF (g x)=Uf):∀l:List b,lH (l.map g)=Uf
 | []=>by simp[lH]
 |x::l=>by simp[lH,a x,Io a l]
theorem yu:∀ks:List (List Key),lF (ks.map L7)=U ks
 | []=>rfl
 |k::ks=>by
  show((kI (k.map bN)).bind λk=>(lF (ks.map L7)).bind λks=>U (k::ks))=_;rw[oa,yu ks];rfl
theorem JP(H:G5 d):∀k∈V9 d,k∈bz d:=λk c=>by
 obtain⟨i,a,rfl⟩:=List.mem_iff_getElem.mp c;have:(V9 d).length=hM d:=by delta V9 hM;simp;lia
 obtain⟨x,b,e,_⟩:=wL H (k:=i) (Oq s9 s9);rw[aN,L3 a]at e;exact mem_map.mpr ⟨x,b,e⟩
theorem TB{Fa f Fe:DV}{b c d e:PV}(l:Fa r=U R)(i:G r=U b)(k:u r=U c)(hd:f r=U d)(h:Fe r=U e)(j:b5 [R.d,b.d,c.d,d.d,e.d]=b8):q5 b5 (f7 Fa (f7 G (f7 u (f7 f (f7 Fe u3))))) r=b8:=by delta q5 f7;rw[l,x5,i,x5,k,x5,hd,x5,h,x5];exact j
theorem a1Z(m n:Nat)(M:Nat->Nat->p9):(eO m n M).d=.list (rl m λp=>.list (rl n (M p))):=by
 show oo ((kh ((D0 m).map λp=>PF.own (rl n (M p)))).map λf=>f.2.d)=_;delta kh rl;rw[cW,cW];rfl
theorem XM(H:G5 d):∃T h,Sx.Ok (x6 d).pb T/\(∀j,j<(x6 d).n->¬Sx.Q5 (x6 d).pb T j) /\
  ((∀t,t<d.n->Kh d (yK d T) t)->RO (val d.kept)->0<val d.kept->kY [u5 d]=sd (.tuple [.tuple (rl d.n λt=>P8 d.w (ae d (yK d T) t)),h])):=by
 have O:=jf H;have:=H.n4;have:=H.w2;have:(w4 d).length<=1000:=O.n1;have hl:(bz d).length=(w4 d).length:=(C5 ..);have r:(L4 d).length=hM d:=by delta L4 hM;simp;lia
 have l:(V9 d).length=hM d:=by delta V9 hM;simp;lia
 obtain⟨sd,es,R⟩:=KS O (xT H);have best:∃T,Sx.Ok (x6 d).pb T/\(∀j,j<(x6 d).n->¬Sx.Q5 (x6 d).pb T j)/\sd=.tuple [.str "best",.list (rl (w4 d).length λj=>fr (X3 (x6 d) T j)),.list (rl (hM d) λp=>K7 (aR (x6 d).J8 T p))]:=by
  cases R with
  |best K ne=>exact⟨_,K,ne,rfl⟩
  |endless K Y e=>exact(Gu O K Y e λj A Z=>((rW H _ (fQ A)).fr Z).1).elim
 obtain⟨T,K,ne,rfl⟩:=best;obtain⟨M,N⟩:=LD H (X:=(D0 (hM d)).map λp=>aR (x6 d).J8 T p) (by simp;show 2*d.n+d.w<=10;lia) λx L=>by
  obtain⟨p,P,rfl⟩:=mem_map.mp L;obtain⟨W,_,z4⟩:=Ab H K;have mu:∀t,t<3->Bt 1 ((x6 d).mu t)/\0<(x6 d).mu t:=λt q=>by have:=fV f5 (O.mu q).2.1;have:=(O.mu q).1;exact⟨vz (b:=1) ⟨by decide⟩ r9 r9,this⟩
  have one:∀t,t<3->B4 300 (D8 (T.pr t p) (T.size*(x6 d).mu t)):=λt q=>fh (K9 K.G6.pos (mu t q).2) ((z4 t p q (mem_range.mp P)).mono f5) ((W.mul (mu t q).1).mono f5);exact⟨one 0 f5,one 1 f5,one 2 f5⟩
 rw[cW]at N;refine⟨T,M,K,ne,λpk ok k0=>?_⟩;have ap:=Wy (XR H K) H k0 ok pk;have v:=JW d H.s;have E:=Lh d H.s;have C:=Sf d H.s;have G:((w4 d).map λx=>K7 x.c)=rl (w4 d).length λj=>K7 ((x6 d).cost j):=tI (λx=>K7 x.c) vT _;have z:((w4 d).map λx=>X1 x.t)=rl (w4 d).length λj=>X1 ((x6 d).tp j):=tI (λx=>X1 x.t) vT _
 have D:((L4 d).map fr)=rl (hM d) λp=>fr ((x6 d).rg p):=by rw[<-r];exact tI fr q0 _
 have I:((V9 d).map λk=>Z0 (kj d k))=rl (hM d) λk=>.int ((x6 d).fs k):=by rw[<-l];exact tI (λk=>Z0 (kj d k)) [] _
 have u:(eO (hM d) (w4 d).length (allM (w4 d) (w4 d).length)).d=(x6 d).ah:=by
  rw[a1Z];refine B9 oo (zk λp _=>B9 oo (zk λj A=>?_));rw[XT,f9 (mem_range.mp A)];exact WZ p _ q0
 generalize u5 d=m at *;refine L5 rfl ?_;have o:∀g:Ch->p9,∀F:DV,(∀x i,F (sd (P6 x)::i)=sd (g x))->∀i:Ds,i[1]? = U (sd (.list ((w4 d).map P6)))->y9 (J9 (q9 1)) A1 z0 F i=U (.own ((w4 d).map g)):=λg F V i h1=>by
  refine X7 ?_ (by rw[C5];lia) (comp_map λx _=>⟨_,V x _,rfl⟩);delta J9 q9;rw[h1];rfl
 refine t9 (w5 v rfl) ?_;refine t9 (ds1:=[sd m,sd (.list ((w4 d).map P6)),sd (.list ((bz d).map L7)),J,J,J,J,J]) (w5 (o (λx=>L7 x.k) _ (λx i=>rfl) _ rfl) (by rw[cW];rfl)) ?_;refine t9 (ds1:=[sd m,sd (.list ((w4 d).map P6)),sd (.list ((bz d).map L7)),U (.dat (x6 d).G3),J,J,J,J]) (w5 (o (λx=>K7 x.c) _ (λx i=>rfl) _ rfl) (by rw[G];rfl)) ?_;refine t9 (ds1:=[sd m,sd (.list ((w4 d).map P6)),sd (.list ((bz d).map L7)),U (.dat (x6 d).G3),U (.dat (x6 d).L6),J,J,J]) (w5 (o (λx=>X1 x.t) _ (λx i=>rfl) _ rfl) (by rw[z];rfl)) ?_;refine t9 (ds1:=[sd m,sd (.list ((w4 d).map P6)),sd (.list ((bz d).map L7)),U (.dat (x6 d).G3),U (.dat (x6 d).L6),U (.dat (x6 d).F2),J,J]) (w5 E (by rw[D];rfl)) ?_;refine t9 (ds1:=[sd m,sd (.list ((w4 d).map P6)),sd (.list ((bz d).map L7)),U (.dat (x6 d).G3),U (.dat (x6 d).L6),U (.dat (x6 d).F2),U (.dat (x6 d).U3),J]) (w5 (pv:=.own ((V9 d).map λk=>.int (kj d k))) (X7 (items:=(V9 d).map L7) ?_ (by rw[C5,l];show 2*d.n+d.w<=_;lia) (comp_map λk hk=>⟨.dat (.int (kj d k)),?_,rfl⟩)) (by rw[I];rfl)) ?_;show((eL [m]).bind λx=>kO x.d)=_;rw[C];rfl;show kz (.list ((bz d).map L7)) [L7 k]=sd (.int (kj d k));obtain⟨a,b⟩:=CU (JP H k hk);refine MO (Xo d) r9 ?_ (ph d);rw[L1,L3 a,<-tX a];exact B9 U b
 . have S:q5 E2 (f7 (q9 5) u3) [sd m,sd (.list ((w4 d).map P6)),sd (.list ((bz d).map L7)),U (.dat (x6 d).G3),U (.dat (x6 d).L6),U (.dat (x6 d).F2),U (.dat (x6 d).U3),J]=sd (.int ((hM d))):=by
     show E2 [(x6 d).F2]=_;delta E2 d1;simp only[G8];rfl
   refine t9 (w5 (pv:=.dat (.tuple [.str "best",.list (rl (w4 d).length λj=>fr (X3 (x6 d) T j)),.list (rl (hM d) λp=>K7 (aR (x6 d).J8 T p))])) ?_ rfl) ?_;refine TB rfl (A4 (Fa:=q9 1) (x:=.dat (.list ((w4 d).map P6))) rfl S (VS (by show 2*d.n+d.w<=_;lia) r9 λx L e Q=>((rW H x L).ns e Q).1)) rfl rfl rfl ?_;rw[u];exact es;refine aQ (qu (x:=.dat _) (y:=.dat M) (A4 (y:=.dat (wQ (bz d) (rl (w4 d).length λj=>fr (X3 (x6 d) T j)))) rfl ?_ ap) (A4 rfl rfl N));show((lF ((bz d).map L7)).bind λB=>if B.Nodup/\(rl (w4 d).length λj=>fr (X3 (x6 d) T j)).length=B.length/\lH (rl (w4 d).length λj=>fr (X3 (x6 d) T j))=Uf then U (PV.dat (wQ B (rl (w4 d).length λj=>fr (X3 (x6 d) T j))))else J)=_;rw[yu,x5,f9 ⟨ph d,by rw[G8,hl],Io (λ_=>rfl) _⟩]
theorem nK{y:Rat}(a:RO z)(b:RO y):cC [qd z,qd y]=sd (qd (z+y)):=by
 show cC [fr (q2 z),fr (q2 y)]=_;rw[xC a.f b.f f5,Hd];rfl
abbrev cB:Int:=2 ^ 60
theorem sX{D:Int}{f:Nat->Rat}:∀n,(∀i,i<n->Sz D cB (f i))->Sz D (cB*n) (t8 f n)
 | 0,_=>Sz.zero f5
 |n+1,hf=>by
  have:=Sz.add (sX n λi a=>hf i (qY s9)) (hf n z9);exact this
structure FU(h:y7)(D:Int)(x:Dy):Prop where
 b:Sz D (2 ^ 39) x.b
 g:Sz D (2 ^ 39) x.g
 fi:Sz D (2 ^ 39) x.fi
 ta:Sz D (2 ^ 39) x.ta
 la:Sz D (2 ^ 39) x.la
 wk:∀j,j<h.ws.length->Sz D (2 ^ 39) (x.wk j)
 kf:Sz D (2 ^ 39) (val h.kept*x.fi)
 lt:Sz D (2 ^ 39) (val h.left*x.ta)
theorem mC(hD:zB D)(h:Sz D (cB*m) z)(a:m<=1000):RO z:=h.ok hD (aK (jt (show(m:Int)<=1000 by lia) f5) f5)
theorem nB(h:Sz D cB z):Sz D (cB*(1:Nat)) z:=by assumption
theorem lz{n:Int}(a : -1000000<=n)(b:n<=1000000):Sz D (2 ^ 20) (n:Rat):=Sz.int r9
theorem fJ(h:Sz D M z)(hM:M<=cB):Sz D cB z:=h.mono (eH _) hM
theorem GL(h:Sz D (cB*m) z)(a:Sz D cB v):Sz D (cB*(m+1:Nat)) (z+v)/\Sz D (cB*(m+1:Nat)) (z-v):=by exact⟨h.add a,h.sub a⟩
theorem rY{D:Int}(hD:zB D){gt:p9->Ds->Option Ds}{G:Ds->Option Out}{S:Rat->Option PV->Ds}{op:Rat->Rat->Rat}(a:∀{k:Nat} {r x:Rat},Sz D (cB*k) r->Sz D cB x->Sz D (cB*(k+1:Nat)) (op r x))(c:∀{r x:Rat} (y:Option PV),RO r->RO x->∃ds1 z,gt (qd x) (S r y)=U ds1/\G ds1=U (.next (S (op r x) z))):
  ∀(l:List Rat) (k:Nat) (r:Rat) (y:Option PV),(∀x∈l,Sz D cB x)->Sz D (cB*k) r->k+l.length<=900->∃z,W7 gt G (l.map qd) (S r y)=U (.next (S (l.foldl op r) z))/\Sz D (cB*(k+l.length:Nat)) (l.foldl op r)
 | [],k,r,y,_,hr,_=>⟨y,rfl,hr⟩
 |x::l,k,r,y,hx,hr,hk=>by
  have b:=hx x D1;rw[Y2]at hk;obtain⟨ds1,z,h,f⟩:=c y (mC hD hr (B6 (B6 (jI _ _) s9) f5)) (mC hD (nB b) f5);obtain⟨g,d,i⟩:=rY hD a c l (k+1) (op r x) z (λy e=>hx y (C6 _ e)) (a hr b) r9;refine⟨g,?_,?_⟩;rw[C7,Q9 h f];exact d;rw[Y2,show k+(l.length+1)=k+1+l.length by lia];exact i
theorem Lf(w:Nat)(f:Nat->Rat):(rl w λj=>qd (f j))=((D0 w).map f).map qd:=by rw[cW];rfl
theorem Qn(hD:zB D)(H:G5 d){x:Dy}(Q:FU d D x)(v:m<d.n)(ok:RO (val d.left)):∃r,mR [y6 (d.hr m),P8 d.w x,fr d.left]=sd (qd r):=by
 have:=H.w2;have hr:=H.hr m v;have f:∀{y:Rat},Sz D (2 ^ 39) y->Sz D cB y:=λc=>fJ c f5;have E:∀{y:Rat},Sz D (2 ^ 39) y->RO y:=λc=>mC hD (nB (f c)) f5
 generalize s:(d.hr m).ck-(d.hr m).need=r0;have u:Sz D (cB*1) r0:=nB (fJ (lz r9 r9) f5);obtain⟨z,o,p⟩:=rY (gt:=K5 4) (G:=oT) (S:=λr y=>[sd (y6 (d.hr m)),sd (P8 d.w x),sd (fr d.left),sd (qd r),y]) hD (λa b=>(GL a b).1) (λ{r y} _ hr c=>⟨_,sd (qd y),rfl,w5 (A4 rfl rfl (nK hr c)) rfl⟩)
  [x.b,x.la,val d.left*x.ta] 1 r0 J (λy c=>by
   simp only[T8,cA,az]at c;rcases c with rfl|rfl|rfl
   exact f Q.b;exact f Q.la
   . exact f Q.lt) u (by show 1+3<=900;decide)
 generalize [x.b,x.la,val d.left*x.ta].foldl (· + ·) (r0:Rat)=i at o p;obtain⟨B,h,q⟩:=rY (gt:=K5 4) (G:=oS) (S:=λr y=>[sd (y6 (d.hr m)),sd (P8 d.w x),sd (fr d.left),sd (qd r),y]) hD (λa b=>(GL a b).2) (λ{r y} _ hr c=>⟨_,sd (qd y),rfl,w5 (A4 rfl rfl (fM hr c)) rfl⟩)
  (x.g::x.fi::(D0 d.w).map x.wk) 4 i z (λy c=>by
   rcases List.mem_cons.mp c with rfl|c
   exact f Q.g
   . rcases List.mem_cons.mp c with rfl|c
     exact f Q.fi
     . obtain⟨j,A,rfl⟩:=mem_map.mp c;exact f (Q.wk j (mem_range.mp A))) p (by simp;lia)
 generalize (x.g::x.fi::(D0 d.w).map x.wk).foldl (· - ·) i=k at h q;refine⟨k,?_⟩;have C:J7 [fr d.left,qd x.ta]=sd (qd (val d.left*x.ta)):=by rw[vt H.l];exact fL ok (E Q.ta)
 refine L5 rfl ?_;refine t9 (ds1:=[sd (y6 (d.hr m)),sd (P8 d.w x),sd (fr d.left),sd (qd r0),J]) (w5 (pv:=.dat (qd r0)) (by rw[<-s];rfl) rfl) ?_;refine t9 (ds1:=[sd (y6 (d.hr m)),sd (P8 d.w x),sd (fr d.left),sd (qd i),z]) ?_ ?_;unfold G7;rw[show J9 (x9 (f7 (t6 D5 (q9 1) (fC (.int 0))) (f7 (t6 D5 (q9 1) (fC (.int 4))) (f7 (q5 J7 (f7 (q9 2) (f7 (t6 D5 (q9 1) (fC (.int 3))) u3))) u3)))) [sd (y6 (d.hr m)),sd (P8 d.w x),sd (fr d.left),sd (qd r0),J]=U ([x.b,x.la,val d.left*x.ta].map qd)from by have:=gI (Fa:=t6 D5 (q9 1) (fC (.int 0))) (Fb:=t6 D5 (q9 1) (fC (.int 4))) (ds:=[sd (y6 (d.hr m)),sd (P8 d.w x),sd (fr d.left),sd (qd r0),J]) rfl rfl (A4 (Fa:=q9 2) (Fb:=t6 D5 (q9 1) (fC (.int 3))) rfl rfl C);unfold J9 x9;rw[this];rfl,x5];exact o
 refine t9 (ds1:=[sd (y6 (d.hr m)),sd (P8 d.w x),sd (fr d.left),sd (qd k),B]) ?_ rfl;unfold G7;rw[show J9 (t6 A9 (x9 (f7 (t6 D5 (q9 1) (fC (.int 1))) (f7 (t6 D5 (q9 1) (fC (.int 2))) u3))) (t6 D5 (q9 1) (fC (.int 5)))) [sd (y6 (d.hr m)),sd (P8 d.w x),sd (fr d.left),sd (qd i),z]=U ((x.g::x.fi::(D0 d.w).map x.wk).map qd)from by
  show((if _ then U (PV.dat (.tuple ([qd x.g,qd x.fi]++rl d.w λj=>qd (x.wk j))))else J).bind λx=>kO x.d)=_;rw[f9 (by rw[G8];simp;lia),Lf]
  rfl,x5]
 exact h
theorem Xk(hD:zB D)(H:G5 d){x:Dy}(Q:FU d D x)(ok:RO (val d.left))(c:RO (val d.kept)):∃r,pJ [P8 d.w x,fr d.kept,fr d.left]=sd (qd r):=by
 have b:∀{y:Rat},Sz D (2 ^ 39) y->Sz D cB y:=λh=>fJ h f5;have a:∀{y:Rat},Sz D (2 ^ 39) y->RO y:=λh=>mC hD (nB (b h)) f5
 have f:J7 [fr d.left,qd x.ta]=sd (qd (val d.left*x.ta)):=by rw[vt H.l];exact fL ok (a Q.ta)
 have e:J7 [fr d.kept,qd x.fi]=sd (qd (val d.kept*x.fi)):=by rw[vt H.k];exact fL c (a Q.fi)
 refine⟨x.fi-val d.kept*x.fi+(x.ta-val d.left*x.ta),?_⟩;refine L5 rfl ?_;refine t9 (w5 (A4 rfl (A4 rfl rfl e) (fM (a Q.fi) (a Q.kf))) rfl) ?_;refine t9 (w5 (A4 rfl (A4 rfl rfl f) (fM (a Q.ta) (a Q.lt))) rfl) ?_;exact aQ (A4 rfl rfl (nK (mC hD (GL (nB (b Q.fi)) (b Q.kf)).2 f5) (mC hD (GL (nB (b Q.ta)) (b Q.lt)).2 f5)))
def fg(h:y7)(X:Nat->Dy)(t:Nat):Rat:=(h.start:Rat)+t8 (λi=>val h.kept*(X i).fi-(X i).ta) t
theorem TU(t:Nat)(a:t<d.n):(gQ (λx y=>eG [x,y]) (d.hs.map y6) (rl d.n λt=>P8 m (b7 t)))[t]? = U (.tuple [y6 (d.hr t),P8 m (b7 t)]):=by rw[OL,L1,UN a];rw[L1,oH a];rfl
theorem xc:(gQ (λx y=>eG [x,y]) (d.hs.map y6) (rl d.n λt=>P8 m (b7 t))).length=d.n:=by simp
theorem UI(H:G5 d)(P:∀m,m<d.n->FU d D (b7 m))(a:m<=d.n):Sz D (cB*(1+m:Nat)) (fg d b7 m):=by
 have:=(nB (fJ (lz (n:=d.start) (by have:=H.st;lia) (by have:=H.st;lia)) f5)).add (sX m λi b=>fJ ((P i (B6 s9 s9)).kf.sub (P i (B6 s9 s9)).ta) f5);rw[<-jz]at this;exact this
theorem MD(hD:zB D)(H:G5 d)(a:RO (val d.kept))(ok:RO (val d.left))(P:∀t,t<d.n->FU d D (b7 t)):
  ∃es:List p9,oO [u5 d,.tuple (rl d.n λt=>P8 d.w (b7 t))]=U (.own es)/\es.length=d.n/\∀t e,es[t]? = U e->D5 e (.int 2)=sd (qd (fg d b7 (t+1))):=by
 have:=H.n4;have g:∀{y:Rat},Sz D (2 ^ 39) y->RO y:=λB=>mC hD (nB (fJ B f5)) f5;generalize I:eG (rl d.n λt=>P8 d.w (b7 t))=p
 obtain⟨L,u,es,f,b,v,o,N⟩:=cM (gt:=Y8 2 (C2 7 (C2 8 Y9))) (G:=mX) (items:=gQ (λx y=>eG [x,y]) (d.hs.map y6) (rl d.n λt=>P8 d.w (b7 t)))
  (λi s=>∃es f b,s=[sd (u5 d),sd p,sd (M6 d),sd (fr d.kept),sd (fr d.left),sd (qd (fg d b7 i)),U (.own es),f,b]/\es.length=i/\∀t e,es[t]? = U e->D5 e (.int 2)=sd (qd (fg d b7 (t+1)))) ⟨[],J,J,rfl,rfl,λt e z=>by exact nE z⟩ (by
   rintro i h s l ⟨es,f,b,rfl,M,K⟩;have j:i<d.n:=by
    have:=(List.getElem?_eq_some_iff.mp l).1
    rwa [xc]at this
   rw[TU i j]at l;cases l;have Q:=P i j;obtain⟨r,F⟩:=Qn hD H Q j ok;obtain⟨A,R⟩:=Xk hD H Q ok a;have m:=UI H P (show i<=d.n by exact Q3 s9)
   have O:J7 [fr d.kept,qd (b7 i).fi]=sd (qd (val d.kept*(b7 i).fi)):=by rw[vt H.k];exact fL a (g Q.fi)
   have E:fg d b7 (i+1)=fg d b7 i+val d.kept*(b7 i).fi-(b7 i).ta:=by
    show d.start+(t8 (λi=>val d.kept*(b7 i).fi-(b7 i).ta) i+(val d.kept*(b7 i).fi-(b7 i).ta))=_;unfold fg;grind
   refine⟨_,[sd (u5 d),sd p,sd (M6 d),sd (fr d.kept),sd (fr d.left),sd (qd (fg d b7 (i+1))),U (.own (es++[.tuple [qd r,qd A,qd (fg d b7 (i+1))]])),sd (y6 (d.hr i)),sd (P8 d.w (b7 i))],rfl,.inl ?_,_,_,_,rfl,by simp[M],λt e z=>?_⟩;unfold mX;refine t9 (w5 (pv:=.dat (qd (fg d b7 (i+1)))) ?_ rfl) ?_;rw[E];exact A4 (A4 rfl (A4 rfl rfl O) (nK (mC hD m r9) (g Q.kf))) rfl (fM (mC hD ((GL m (fJ Q.kf f5)).1) r9) (g Q.ta));rw[fP];delta x9 M7;rw[gI (ia (y:=.dat (P8 d.w (b7 i))) (z:=.dat (fr d.left)) rfl rfl rfl F) (ia (y:=.dat (fr d.kept)) (z:=.dat (fr d.left)) rfl rfl rfl R) rfl];exact fo (.dat (.tuple [qd r,qd A,qd (fg d b7 (i+1))])) rfl r9
   . by_cases c:t<es.length;rw[fZ c]at z;exact K t e z
     . rw[js (jF s9)]at z;have:t-es.length=0:=by
        rcases Nat.eq_zero_or_pos (t-es.length)with q|q
        exact q;rw[uH (by simp;exact s9)]at z;exact nE z
       rw[this]at z;cases z;rw[show t=i by lia]
       rfl)
 rw[xc]at v o;refine⟨es,?_,o,N⟩;have C:fg d b7 0=d.start:=by show(d.start:Rat)+0=_;grind
 rw[C]at u;refine L5 rfl ?_;refine t9 rfl ?_;refine t9 rfl ?_;refine t9 rfl ?_;refine t9 rfl ?_;refine t9 rfl ?_;refine t9 (ds1:=[sd (u5 d),sd p,sd (M6 d),sd (fr d.kept),sd (fr d.left),sd (qd (fg d b7 d.n)),U (.own es),f,b]) (by rw[<-v,<-u,<-I];rfl) rfl
theorem Dq(f:Nat->Rat):∀(w:Nat) (r:Rat),((D0 w).map f).foldl (· + ·) r=r+t8 f w
 | 0,r=>by show r=r+0;grind
 |w+1,r=>by
  rw[hF,Z2,Ob,Dq f w r];show r+t8 f w+f w=r+(t8 f w+f w);grind
def sF(h:y7)(X:Nat->Dy)(i:Nat):Rat:=(dO (h.hs.getD i G9):Rat)*(X i).b-(dN (h.hs.getD i G9):Rat)*(X i).g
def su(h:y7)(X:Nat->Dy)(i:Nat):Rat:=0-t8 (X i).wk h.ws.length
theorem a3y(H:G5 d)(f:m<d.n):(-1000<=dO (d.hr m)/\dO (d.hr m)<=1000)/\-1000<=dN (d.hr m)/\dN (d.hr m)<=1000:=by
 unfold dO dN;cases e:(d.hr m).line with
 |none=>decide
 |some l =>
  obtain⟨a,b,c,h⟩:=l;have:=H.ln m a b c h f e;exact⟨this.1,this.2.2.1⟩
theorem UJ{n:Int}(c : -1000<=n)(b:n<=1000)(a:Sz D (2 ^ 39) z):Sz D (2 ^ 59) ((n:Rat)*z):=by
 have:=(lz (D:=1) (n:=n) r9 (aK s9 f5)).mul a
 simp_all
theorem mn(hD:zB D)(H:G5 d)(A:m<d.n)(Q:FU d D (b7 m)):jS [y6 (d.hr m),P8 d.w (b7 m)]=sd (.tuple [qd (b7 m).la,qd (su d b7 m),qd (sF d b7 m)])/\Sz D (cB*(2:Nat)) (su d b7 m)/\Sz D cB (sF d b7 m):=by
 have:=H.w2;obtain⟨⟨B,K⟩,E,C⟩:=a3y H A;have F:∀{y:Rat},Sz D cB y->RO y:=λe=>mC hD (nB e) f5;have f:∀{y:Rat} {M:Int},Sz D M y->M<=cB->RO y:=λe hM=>F (fJ e hM);have s:=UJ B K Q.b;have q:=UJ E C Q.g;have v:=sX _ λj p=>fJ (Q.wk j p) f5
 have i:Sz D (cB*2) (su d b7 m):=by
  have:=(Sz.zero (oq _)).sub (v.mono (eH _) (jt (show(d.w:Int)<=2 by lia) f5));exact this
 have I:mT [xQ (d.hr m).line,P8 d.w (b7 m)]=sd (qd (sF d b7 m)):=by
  have k:=fL (x:=(dO (d.hr m))) (f (lz r9 r9) f5) (f Q.b f5);have o:=fL (x:=(dN (d.hr m))) (f (lz r9 r9) f5) (f Q.g f5);have X:=fM (f s f5) (f q f5);unfold sF dO dN;unfold dO at k;unfold dN at o;unfold dO dN at X;cases hl:(d.hr m).line with
  |none =>
   have z:(((0:Int))*(b7 m).b-((0:Int))*(b7 m).g)=0:=by show 0*_-0*_=0;grind
   rw[z];rfl
  |some l =>
   obtain⟨a,b,c,h⟩:=l;rw[hl]at k o X;refine L5 rfl ?_;refine t9 rfl ?_;exact aQ (A4 (A4 rfl rfl k) (A4 rfl rfl o) X)
 refine⟨?_,i,(fJ (s.sub q) f5)⟩;obtain⟨z,u,_⟩:=rY (gt:=K5 3) (G:=kN) (S:=λr y=>[sd (y6 (d.hr m)),sd (P8 d.w (b7 m)),sd (qd r),y]) hD (λa b=>(GL a b).1) (λ{r y} _ hr e=>⟨_,sd (qd y),rfl,w5 (A4 rfl rfl (nK hr e)) rfl⟩)
  ((D0 d.w).map (b7 m).wk) 0 0 J (λy e=>by obtain⟨j,p,rfl⟩:=mem_map.mp e;exact fJ (Q.wk j (mem_range.mp p)) f5) (Sz.zero f5) (by simp;lia)
 rw[Dq,Rat.zero_add]at u;refine L5 rfl ?_;refine t9 (ds1:=[sd (y6 (d.hr m)),sd (P8 d.w (b7 m)),sd (qd 0),J]) rfl ?_;refine t9 (ds1:=[sd (y6 (d.hr m)),sd (P8 d.w (b7 m)),sd (qd (t8 (b7 m).wk d.w)),z]) ?_ ?_
 . unfold G7;rw[show J9 (t6 D5 (q9 1) (fC (.int 5))) [sd (y6 (d.hr m)),sd (P8 d.w (b7 m)),sd (qd 0),J]=U (((D0 d.w).map (b7 m).wk).map qd)from by
    show U (rl d.w λj=>qd ((b7 m).wk j))=_
    rw[Lf],x5]
   exact u
 refine aQ ?_;delta x9 M7;rw[gI rfl (A4 rfl rfl (fM vh (mC hD v r9))) (A4 (y:=.dat (P8 d.w (b7 m))) rfl rfl I)];rfl
theorem a1e{b c x y:Rat}(f:RO v)(g:RO b)(h:RO c)(e:RO x)(d:RO y)(hz:RO z):kM [.tuple [qd v,qd b,qd c],.tuple [qd x,qd y,qd z]]=sd (.tuple [qd (v+x),qd (b+y),qd (c+z)]):=by refine L5 rfl (aQ ?_);delta x9 M7;rw[gI (A4 (y:=.dat (qd x)) rfl rfl (nK f e)) (A4 (y:=.dat (qd y)) rfl rfl (nK g d)) (A4 (y:=.dat (qd z)) rfl rfl (nK h hz))];rfl
def iL(h:y7):Int:=(h.ws.map (·.K4)).sum
theorem ints_map{a:Type}(f:a->Int):∀l:List a,intsOf (l.map λx=>.int (f x))=U (l.map f)
 | []=>rfl
 |x::l=>by
  show(intsOf (l.map λx=>.int (f x))).bind _=_;rw[ints_map f l];rfl
theorem KL(h:y7):∀n,n<=h.w->((((h.ws.take n).map (·.K4)).sum:Int):Rat)=t8 (λj=>((h.wk j).K4:Rat)) n
 | 0,_=>rfl
 |n+1,hn=>by
  rw[Od,L3 (by exact s9),Z2,NK];show(((((h.ws.take n).map (·.K4)).sum+(h.ws[n].K4+0):Int)))=t8 (λj=>((h.wk j).K4)) n+((h.ws.getD n U1).K4);rw[<-KL h n (by exact Q3 s9),qF,EC,aN,L3 (by exact s9)];rfl
theorem a3F(H:G5 d):0<=iL d/\iL d<=2000000:=by
 have f:=H.w2;have:=H.wk;obtain⟨g,a,b,c,h,k,l,r,e⟩:=d;unfold iL
 match e with
 | []=>simp
 | [x] =>
  simp at this ⊢;lia
 | [x,y] =>
  have q:=this 0 E5;have:=this 1 s9;simp at this q ⊢;omega
 |_::_::_::_=>simp at f
def kF(h:y7)(X:Nat->Dy):Rat:=0-(h.rest:Rat)*fg h X h.hs.length
theorem LO(hD:zB D)(H:G5 d)(r:RO (val d.kept))(ok:RO (val d.left))(P:∀t,t<d.n->FU d D (b7 t)):
  vC [u5 d,.tuple (rl d.n λt=>P8 d.w (b7 t))]=sd (.tuple [qd (t8 (λi=>(b7 i).la) d.n),qd ((iL d:Rat)+t8 (su d b7) d.n),qd (kF d b7+t8 (sF d b7) d.n)]) /\
   RO (t8 (λi=>(b7 i).la) d.n)/\RO ((iL d:Rat)+t8 (su d b7) d.n)/\RO (kF d b7+t8 (sF d b7) d.n):=by
 have:=H.n4;have:=H.w2;have:=H.re;obtain⟨Z,R⟩:=a3F H;obtain⟨W,S,len,q⟩:=MD hD H r ok P;have z:=UI H P (T6 d.n);have C:Sz D (2 ^ 85) (d.rest*fg d b7 d.n):=by have:=(lz (D:=1) (n:=d.rest) r9 r9).mul z;rw[cU]at this;exact this.mono (eH _) (aK (jt (jt (show((1+d.n):Int)<=5 by lia) f5) f5) f5)
 have O:Sz D (2 ^ 86) (kF d b7):=((Sz.zero (oq _)).sub C).mono (eH _) f5;have A:∀t,t<=d.n->RO (t8 (λi=>(b7 i).la) t):=λt k=>mC hD (sX t λi f=>fJ (P i (B6 s9 s9)).la f5) r9
 have T:Sz D (2 ^ 30) (iL d):=Sz.int r9;have V:∀t,t<=d.n->Sz D (cB*(2*t)) (t8 (su d b7) t):=λt=>by
  induction t with
  |zero=>intro _;exact Sz.zero f5
  |succ t F =>
   intro k;have:=(F (Q3 s9)).add (mn hD H (show t<d.n by exact s9) (P t s9)).2.1;rw[<-jz]at this;exact this.mono (eH _) (jt r9 f5)
 have j:∀{n:Nat},n<=8->(cB*n)<=2 ^ 70:=λY=>aK (jt (Int.ofNat_le.mpr Y) f5) f5;have Uff:=λt k=>(T.add ((V t k).mono (eH _) (j r9))).ok hD f5;have K:∀t,t<=d.n->RO (kF d b7+t8 (sF d b7) t):=λt k=>(O.add ((sX t λi f=>(mn hD H (show i<d.n by exact B6 s9 s9) (P i (B6 s9 s9))).2.2).mono (eH _) (j r9))).ok hD f5
 refine⟨?_,A _ (T6 _),Uff _ (T6 _),K _ (T6 _)⟩;generalize N:eG (rl d.n λt=>P8 d.w (b7 t))=p at *
 have m0:fg d b7 0=d.start:=by show(d.start:Rat)+0=_;grind
 obtain⟨b,u,a,v⟩:=cM (gt:=K5 4) (G:=uU)
  (λi c=>∃a,c=[sd (u5 d),sd p,sd (M6 d),sd (qd (fg d b7 i)),a,J,J,J,J]) ⟨J,rfl⟩ (by rintro i h c g ⟨a,rfl⟩;exact⟨_,_,rfl,.inl (w5 ((F0 (x:=.dat h) (y:=.dat (.int 2)) rfl rfl).trans (q i h g)) rfl),sd h,rfl⟩)
 rw[len]at v;obtain⟨M,I,m,l,B⟩:=cM (gt:=Y8 2 (C2 7 (C2 8 Y9))) (G:=uT) (items:=gQ (λx y=>eG [x,y]) (d.hs.map y6) (rl d.n λt=>P8 d.w (b7 t)))
  (ds:=[sd (u5 d),sd p,sd (M6 d),sd (qd (fg d b7 d.n)),a,sd (.int (iL d)),sd (.tuple [qd 0,qd (iL d),qd (kF d b7)]),J,J])
  (λi c=>∃m l,c=[sd (u5 d),sd p,sd (M6 d),sd (qd (fg d b7 d.n)),a,sd (.int (iL d)),sd (.tuple [qd (t8 (λi=>(b7 i).la) i),qd ((iL d)+t8 (su d b7) i),qd (kF d b7+t8 (sF d b7) i)]),m,l]) ⟨J,J,by
   rw[show(iL d)+t8 (su d b7) 0=(iL d)from um _,show kF d b7+t8 (sF d b7) 0=kF d b7 from um _]
   rfl⟩ (by
   rintro i h c g ⟨m,l,rfl⟩;have f:i<d.n:=by
    have:=(List.getElem?_eq_some_iff.mp g).1
    rwa [xc]at this
   rw[TU i f]at g;cases g;have Q:=P i f;obtain⟨e,L,E⟩:=mn hD H f Q;refine⟨_,_,rfl,.inl (w5 (A4 rfl (A4 rfl rfl e) (a1e (A i (Q3 s9)) (Uff i (Q3 s9)) (K i (Q3 s9)) (mC hD (nB (fJ Q.la f5)) f5) (mC hD L f5) (mC hD (nB E) f5))) rfl),sd (y6 (d.hr i)),sd (P8 d.w (b7 i)),?_⟩;rw[Rat.add_assoc,Rat.add_assoc];rfl)
 rw[xc]at B;have o:sY [.list (d.ws.map λw=>.int w.K4)]=sd (.int (iL d)):=by
  show((intsOf (d.ws.map λw=>.int w.K4)).bind λis=>U (PV.dat (.int is.sum)))=_;rw[ints_map];rfl
 have s:RO d.rest:=(lz r9 r9).ok hD f5;refine L5 rfl ?_;refine t9 rfl ?_;refine t9 (ds1:=[sd (u5 d),sd p,sd (M6 d),sd (qd d.start),J,J,J,J,J]) rfl ?_;refine t9 (ds1:=[sd (u5 d),sd p,sd (M6 d),sd (qd (fg d b7 d.n)),a,J,J,J,J]) ?_ ?_;rw[m0]at u;unfold G7;rw[show J9 (q5 oO (f7 (q9 0) (f7 (q9 1) u3))) [sd (u5 d),sd p,sd (M6 d),sd (qd d.start),J,J,J,J,J]=U W from by unfold J9;rw[A4 (y:=.dat p) rfl rfl S];rfl,x5,u,v];refine t9 (w5 (pv:=.dat (.int (iL d))) ?_ rfl) ?_
 . have e:y9 (J9 (t6 D5 (q9 0) (fC (.int 2)))) A1 z0 uR [sd (u5 d),sd p,sd (M6 d),sd (qd (fg d b7 d.n)),a,J,J,J,J]=U (.own (d.ws.map λw=>.int w.K4)):=
     X7 rfl (by rw[C5];exact FC s9) (comp_map λw _=>⟨.dat (.int w.K4),rfl,rfl⟩)
   delta q5 C3 f7;rw[e];exact o
 refine t9 (w5 (pv:=.dat (.tuple [qd 0,qd (iL d),qd (kF d b7)])) ?_ rfl) ?_;delta x9 M7;rw[gI rfl rfl (A4 rfl (A4 rfl rfl (fL s (mC hD z r9))) (fM vh (C.ok hD f5)))];rfl;refine t9 (ds1:=[sd (u5 d),sd p,sd (M6 d),sd (qd (fg d b7 d.n)),a,sd (.int (iL d)),sd (.tuple [qd (t8 (λi=>(b7 i).la) d.n),qd ((iL d)+t8 (su d b7) d.n),qd (kF d b7+t8 (sF d b7) d.n)]),m,l]) (by rw[<-B,<-I,<-N];rfl) rfl
structure kl(h:y7)(P:Pl):Prop where
 lk:∀t,t<h.hs.length->0<=P.lk t/\P.lk t<=((h.hs.getD t G9).need:Rat)
 sp:∀t,t<h.hs.length->0<=P.sp t
 bo:∀t a b c d,t<h.hs.length->(h.hs.getD t G9).line=U (a,b,c,d)->(0<=P.bo t/\P.bo t<=(b:Rat))/\0<=P.gv t/\P.gv t<=(d:Rat)
 nl:∀t,(h.hs.getD t G9).line=J->P.bo t=0/\P.gv t=0
 fl:∀t,t<h.hs.length->0<=P.fl t/\P.fl t<=(h.fill:Rat)
 tk:∀t,t<h.hs.length->0<=P.tk t/\P.tk t<=(h.take:Rat)
 lv:∀t,t<h.hs.length->0<=P.lv t/\P.lv t<=(h.size:Rat)
 un:∀j,j<h.ws.length->0<=P.un j/\P.un j<=((h.ws.getD j U1).K4:Rat)
 wk:∀j i,j<h.ws.length->i<dM h j->0<=P.wk (L0 h j+i) j/\P.wk (L0 h j+i) j<=((h.ws.getD j U1).most:Rat)
 r1:∀s,s<h.hs.length->P.lk s+P.bo s+val h.left*P.tk s-P.sp s-P.gv s-P.fl s-nk h P s=((h.hs.getD s G9).need:Rat)-((h.hs.getD s G9).ck:Rat)
 r2:∀s,s<h.hs.length->P.lv s=(h.start:Rat)+t8 (λt=>val h.kept*P.fl t-P.tk t) (s+1)
 r3:∀j,j<h.ws.length->P.un j+t8 (λi=>P.wk (L0 h j+i) j) (dM h j)=((h.ws.getD j U1).K4:Rat)
def YB(Y:List Key->Rat)(x:Ch):Prop:=0<=Y x.k/\∀q,x.t=U q->Y x.k<=val q
theorem gq{ns:List (Nat×Q2)}(e:L a6=z):YB L ⟨a6,b6,U (D,1),ns⟩↔0<=z/\z<=(D:Rat):=by rw[<-e,<-cR D];exact⟨λa=>⟨a.1,a.2 _ rfl⟩,λa=>⟨a.1,λq Y=>by cases Y;exact a.2⟩⟩
theorem a2h(A:Ag d L P)(F:kl d P):∀x∈w4 d,YB L x:=by
 intro x e;rcases List.mem_append.mp e with e|e
 . obtain⟨t,g,e⟩:=mem_flatMap.mp e;have g:=mem_range.mp g;rcases List.mem_append.mp e with e|e
   . rcases List.mem_append.mp e with e|e
     . simp only[T8,cA,az]at e;rcases e with rfl|rfl
       exact(gq (A.lk t)).mpr (F.lk t g);exact⟨by show 0<=L (k2 "spilt" t);rw[A.sp];exact F.sp t g,λq z=>by exact nE z⟩
     . unfold da at e;cases hl:(d.hr t).line with
       |none=>rw[hl]at e;cases e
       |some l =>
        obtain⟨a,b,c,h⟩:=l;rw[hl]at e;obtain⟨n,o⟩:=A.bo t (by rw[hl];simp)
        have f:=F.bo t a b c h g hl;simp only[T8,cA,az]at e;rcases e with rfl|rfl
        exact(gq n).mpr f.1;exact(gq o).mpr f.2
   . unfold bZ at e;simp only[T8,cA,az]at e;rcases e with rfl|rfl|rfl
     exact(gq (A.fl t)).mpr (F.fl t g);exact(gq (A.tk t)).mpr (F.tk t g);exact(gq (A.lv t)).mpr (F.lv t g)
 . obtain⟨j,k,e⟩:=mem_flatMap.mp e;have k:=mem_range.mp k;rcases List.mem_cons.mp e with rfl|e
   exact(gq (A.un j)).mpr (F.un j k);obtain⟨i,m,rfl⟩:=mem_map.mp e;exact(gq (A.wk _ j)).mpr (F.wk j i k (mem_range.mp m))
theorem Hw(x:Hr):val (kP x)=iW x*((x.need:Rat)-(x.ck:Rat)):=by
 delta kP iW;rw[cR];by_cases c:x.ck<=x.need;rw[f6 z9,f9 c,Rat.intCast_sub];grind;rw[f9 r9,f6 c,EB,Rat.intCast_sub];grind
theorem a1C(x:Hr):iW x*iW x=1:=by delta iW;split<;>grind
theorem a2g(A:Ag d L P)(H:G5 d)(F:kl d P)(c:m<hM d):ls (hV L m) (w4 d)=val ((L4 d).getD m q0):=by
 rcases zK c with a|⟨s,a,rfl⟩|⟨j,b,rfl⟩
 rw[YW A H.s a,F.r1 m a,Uy a,Hw];rw[YV A H.s a,F.r2 s a,Ux a,cR];grind;rw[YU A H.s b,F.r3 j b,Uw b,cR]
theorem a0R(A:Ag d L P)(H:G5 d)(B:∀x∈w4 d,YB L x)(R:∀p,p<hM d->ls (hV L p) (w4 d)=val ((L4 d).getD p q0)):kl d P:=by
 have f:∀{t:Nat},t<d.n->∀{x:Ch},x∈Z9 d t->YB L x:=λe x m=>B x (T9 _ (mem_flatMap.mpr ⟨_,mem_range.mpr e,m⟩))
 refine⟨λt e=>(gq (A.lk t)).mp (f e (T9 _ (T9 _ D1))),λt e=>?_,λt a b c h e o=>?_,A.nl,λt e=>(gq (A.fl t)).mp (f e (K6 _ D1)),
  λt e=>(gq (A.tk t)).mp (f e (K6 _ (C6 _ D1))),λt e=>(gq (A.lv t)).mp (f e (K6 _ (C6 _ (C6 _ D1)))),
  λj g=>(gq (A.un j)).mp (B _ (K6 _ (mem_flatMap.mpr ⟨j,mem_range.mpr g,D1⟩))),λj i g q=>(gq (A.wk _ j)).mp (B _ (K6 _ (mem_flatMap.mpr ⟨j,mem_range.mpr g,C6 _ (mem_map.mpr ⟨i,mem_range.mpr q,rfl⟩)⟩))),λs k=>?_,λs k=>?_,λj g=>?_⟩
 rw[<-A.sp];exact(f e (T9 _ (T9 _ (C6 _ D1)))).1;obtain⟨r,u⟩:=A.bo t (by rw[o];simp);have l:∀x∈da t (d.hr t),YB L x:=λx m=>f e (T9 _ (K6 _ m));unfold da at l;rw[o]at l;exact⟨(gq r).mp (l _ D1),(gq u).mp (l _ (C6 _ D1))⟩;have:=R s r9;rw[YW A H.s k,Uy k,Hw]at this;have:=a1C (d.hr s);grind;have:=R (d.n+s) r9;rw[YV A H.s k,Ux k,cR]at this;grind;have:=R (2*d.n+j) z9;rw[YU A H.s g,Uw g,cR]at this;exact this
noncomputable def nJ(Y:List Key->Rat):Pl:=⟨λt=>Y (k2 "lacked" t),λt=>Y (k2 "spilt" t),λt=>Y (k2 "bought" t),λt=>Y (k2 "given" t),λt=>Y (k2 "filled" t),λt=>Y (k2 "taken" t),λt=>Y (k2 "level" t),λj=>Y (k2 "undone" j),λt j=>Y (oV t j)⟩
section
variable{T:Sx.Tb}
theorem Hu(c:(d.hr m).line=J)(hs:B = "bought"\/B = "given"):k2 B m∉bz d:=λf=>by
 obtain⟨x,a,e⟩:=mem_map.mp f;rcases List.mem_append.mp a with a|a
 . obtain⟨h,_,a⟩:=mem_flatMap.mp a;obtain⟨g,_,b⟩:=qp d h a;have:=(ly (e.symm.trans b)).2;subst this;unfold Z9 ez da bZ at a;rw[c]at a;simp only[aZ,bU,T8,cA,az]at a;rcases hs with rfl|rfl<;>rcases a with rfl|rfl|rfl|rfl|rfl<;>exact absurd (ly e).1 A3
 . obtain⟨j,_,a⟩:=mem_flatMap.mp a;rcases sU d j a with b|⟨i,b⟩<;>rw[b]at e
   . rcases hs with rfl|rfl<;>exact absurd (ly e).1 A3
   have:=B9 jA e;simp[k2]at this
theorem Xb(c:¬(L0 d l<=m/\m<L0 d l+dM d l)):oV m l∉bz d:=λj=>by
 obtain⟨x,a,e⟩:=mem_map.mp j;rcases List.mem_append.mp a with a|a
 obtain⟨f,_,a⟩:=mem_flatMap.mp a;obtain⟨t,_,k⟩:=qp d f a;rw[k]at e;have:=B9 jA e;simp[k2,oV]at this
 . obtain⟨b,_,a⟩:=mem_flatMap.mp a;rcases List.mem_cons.mp a with rfl|a
   have:=B9 jA e;simp[bR,k2,oV]at this
   . obtain⟨i,h,rfl⟩:=mem_map.mp a;simp only[sT,oV,NJ]at e;have g:b=l:=by lia
     subst g;exact c ⟨by show L0 d b<=m;have:=e.1;lia,by have:=e.1;have:=(mem_range.mp h);lia⟩
theorem Va:Ag d (yK d T) (nJ (yK d T)):=⟨λ_=>rfl,λ_=>rfl,λ_ _=>⟨rfl,rfl⟩,λt a=>⟨xf (Hu a (.inl rfl)),xf (Hu a (.inr rfl))⟩,λ_=>rfl,λ_=>rfl,λ_=>rfl,λ_=>rfl,λ_ _=>rfl⟩
theorem CK(f:Ch->Rat):t8 (λj=>f (cx d j)) (w4 d).length=ls f (w4 d):=by rw[a0q f _ _ E7,uA]
theorem a0Q(H:G5 d)(K:Sx.Ok (x6 d).pb T):kl d (nJ (yK d T)):=by
 refine a0R Va H (λx a=>Ya H K a) λp b=>?_;have:=Sk (jf H) K b;rw[<-CK];refine(A2 _ λj c=>?_).trans this;show val (eZ (cx d j).ns q0 p)*yK d T (cx d j).k=_;rw[Ud c];rfl
noncomputable def Pl.at(P:Pl):List Key->Rat
 | [.inr s,.inl t]=>if s = "lacked" then P.lk t.toNat else if s = "spilt" then P.sp t.toNat else if s = "bought" then P.bo t.toNat else if s = "given" then P.gv t.toNat else if s = "filled" then P.fl t.toNat else if s = "taken" then P.tk t.toNat else if s = "level" then P.lv t.toNat else P.un t.toNat
 | [.inr _,.inl t,.inl j]=>P.wk t.toNat j.toNat
 |_=>0
theorem Kc(F:kl d P):Ag d P.at P:=by
 have e:∀s t,P.at (k2 s t)=if s = "lacked" then P.lk t else if s = "spilt" then P.sp t else if s = "bought" then P.bo t else if s = "given" then P.gv t else if s = "filled" then P.fl t else if s = "taken" then P.tk t else if s = "level" then P.lv t else P.un t:=λs t=>rfl;have n:∀{a b:Str},decide (a=b)=U'->¬a=b:=λd=>of_decide_eq_false d
 refine⟨λt=>?_,λt=>?_,λt _=>⟨?_,?_⟩,F.nl,λt=>?_,λt=>?_,λt=>?_,λt=>?_,λt j=>rfl⟩<;>rw[e]
 simp;rw[f6 (n A3),f9 rfl];rw[f6 (n A3),f6 (n A3),f9 rfl];rw[f6 (n A3),f6 (n A3),f6 (n A3),f9 rfl];rw[f6 (n A3),f6 (n A3),f6 (n A3),f6 (n A3),f9 rfl];rw[f6 (n A3),f6 (n A3),f6 (n A3),f6 (n A3),f6 (n A3),f9 rfl];rw[f6 (n A3),f6 (n A3),f6 (n A3),f6 (n A3),f6 (n A3),f6 (n A3),f9 rfl];rw[f6 (n A3),f6 (n A3),f6 (n A3),f6 (n A3),f6 (n A3),f6 (n A3),f6 (n A3)]
theorem DI(h:G5 d)(A:Ag d L P)(e:∀j,j<(w4 d).length->H j=L (cx d j).k)(a:m<3):t8 (λj=>val (R4 ((x6 d).cost j) m)*H j) (x6 d).n=cV d P m:=by rw[<-Tn A h.n1 a,<-CK];exact A2 _ λj b=>by rw[e j b];rfl
theorem least(H:G5 d)(K:Sx.Ok (x6 d).pb T)(ne:∀j,j<(x6 d).n->¬Sx.Q5 (x6 d).pb T j)(F:kl d P):
  NN (cV d P 0-cV d (nJ (yK d T)) 0) (cV d P 1-cV d (nJ (yK d T)) 1) (cV d P 2-cV d (nJ (yK d T)) 2):=by
 have B:=a2h (Kc F) F;refine Kb (jf H) K ne (λj a=>(B _ (fQ a)).1) (λj q a hq=>(B _ (fQ a)).2 q hq) (λp c=>?_) (Δ:=λi=>if i<3 then cV d P i-cV d (nJ (yK d T)) i else t8 (λj=>val (R4 ((x6 d).cost j) i)*P.at (cx d j).k) (x6 d).n-t8 (λj=>val (R4 ((x6 d).cost j) i)*val (X3 (x6 d) T j)) (x6 d).n) λi=>?_;have:=a2g (Kc F) H F c;rw[<-CK]at this;exact this;by_cases b:i<3;rw[f9 b,DI H (Kc F) (λ_ _=>rfl) b,DI H Va (λj a=>(Ud a).symm) b];rw[f6 b]
end
section
variable{h:y7}{T:Sx.Tb}
theorem a1B(hq:B4 m o)(hd:o.2∣D)(c:0<=val o)(a:val o<=(M:Rat)):Sz D M (val o):=by
 refine⟨?_⟩;rw[<-iZ hq.pos hq.low];refine⟨hq.pos,hq.low,hd,?_⟩;have:=(CH hq.pos).mpr c;have b:=sW (p:=(M,1)) B3 hq.pos;rw[cR,aM (Rat.not_lt.mpr a)]at b;have:=of_decide_eq_false b;lia
abbrev dY(h:y7)(T:Sx.Tb):Int:=h.left.2*(h.kept.2*(T.size*(x6 h).un)*h.kept.1)
theorem Py(H:G5 h)(K:Sx.Ok (x6 h).pb T)(l:∀t,a6≠k2 "spilt" t):Sz (T.size*(x6 h).un) 1000000 (yK h T a6):=by
 by_cases c:a6∈bz h
 . obtain⟨x,d,rfl⟩:=mem_map.mp c;have C:=rW H x d;obtain⟨a,b⟩:=yr d;have B:=Ya H K d;cases ht:x.t with
   |none=>obtain⟨_,t,e⟩:=C.fr ht;exact absurd e (l t)
   |some q =>
    obtain⟨j,m,g⟩:=C.tp q ht;have f:=B.2 q ht;have i:val q<=1000000:=by obtain⟨u,v⟩:=q;subst j;rw[cR];exact Rat.intCast_le_intCast.mpr g
    rw[Iq d]at B f ⊢;have:=Mt H K a;exact a1B this.1 this.2 B.1 (Rat.le_trans f i)
 rw[xf c];exact Sz.zero f5
theorem UU(H:G5 h)(K:Sx.Ok (x6 h).pb T):zB (dY h T):=by obtain⟨a,d1⟩:=tR H;have O:=jf H;have:=fV a O.un.2.1;refine⟨K9 H.l.pos (K9 (K9 H.k.pos (K9 K.G6.pos O.un.1)) H.k0.1),?_⟩;exact(H.l.bb.mul (((H.k.bb.mul ((Ab H K).1.mul (n:=8) (vz (b:=225) ⟨by decide⟩ (by have:=O.un.1;lia) (aK s9 s9)))).mul H.k.bt))).mono f5
theorem kv(H:G5 h):0<val h.kept/\Sz h.kept.2 1 (val h.kept)/\Sz h.kept.1 15 (val h.kept)⁻¹:=by
 have a:=H.k.pos;have e:val h.kept=h.kept.1/h.kept.2:=rfl;have b:0<val h.kept:=by rw[e,Ee];exact dW (R7 H.k0.1) (Rat.inv_pos.mpr (R7 a))
 have q:=iZ H.k.pos H.k.low;refine⟨b,⟨?_⟩,⟨?_⟩⟩;rw[<-q];exact⟨a,H.k.low,eH _,by have:=H.k0;omega⟩;rw[Dh b,<-q];exact⟨H.k0.1,by show C9 h.kept.2 h.kept.1=1;rw[yI];exact H.k.low,eH _,by show h.kept.2.natAbs<=15*h.kept.1;have:=H.k.bb.lt;have:=H.k0;lia⟩
theorem lv1(H:G5 h):Sz h.left.2 1 (val h.left):=by refine⟨?_⟩;rw[<-iZ H.l.pos H.l.low];exact⟨H.l.pos,H.l.low,eH _,by have:=H.l0;omega⟩
theorem Nn(H:G5 h)(K:Sx.Ok (x6 h).pb T)(t:Nat):Kh h (yK h T) t/\FU h (dY h T) (ae h (yK h T) t):=by
 obtain⟨r,p,f⟩:=kv H;have hD:=UU H K;have ne:∀{s:Str},s ≠ "spilt"->∀t',k2 s t≠k2 "spilt" t':=λq t' e=>q (ly e).1;have d:h.kept.2*(T.size*(x6 h).un)*h.kept.1∣dY h T:=⟨h.left.2,by show h.left.2*_=_;rw[J5]⟩;have b:=gS ⟨h.kept.1,rfl⟩ d;have o:h.left.2*(h.kept.2*(T.size*(x6 h).un))∣dY h T:=⟨h.kept.1,by show h.left.2*_=_;simp only[O8]⟩;have big:∀{k:List Key},(∀t,k≠k2 "spilt" t)->Sz (dY h T) (2 ^ 39) (yK h T k):=λg=>(Py H K g).mono (gS ⟨h.kept.2*h.kept.1,by rw[J5 h.kept.2,O8]⟩ d) f5;have ok:∀{k:List Key},(∀t,k≠k2 "spilt" t)->RO (yK h T k):=λg=>(big g).ok hD f5;have i:∀t',k2 "filled" t≠k2 "spilt" t':=ne (by decide +kernel);have n:∀t',k2 "taken" t≠k2 "spilt" t':=ne (by decide +kernel)
 have m:Sz (h.kept.2*(T.size*(x6 h).un)) 1000000 (val h.kept*yK h T (k2 "filled" t)):=by have:=p.mul (Py H K i);exact this
 have c:=m.sub ((Py H K n).mono ⟨h.kept.2,by rw[J5]⟩ (oq _))
 have l:Sz (h.kept.2*(T.size*(x6 h).un)) 2000000 (Cm (val h.kept) (yK h T (k2 "filled" t)) (yK h T (k2 "taken" t))):=by
  unfold Cm;split;rw[show 0-(val h.kept*yK h T (k2 "filled" t)-yK h T (k2 "taken" t)) = - (val h.kept*yK h T (k2 "filled" t)-yK h T (k2 "taken" t)) by grind];exact c.neg;exact Sz.zero f5
 refine⟨⟨ok i,ok n,(m.mono b (oq _)).ok hD f5,((c.mono b (oq _)).ok hD f5)⟩,big (ne (by decide +kernel)),big (ne (by decide +kernel)),?_,l.mono b f5,big (ne (by decide +kernel)),λj _=>big (λt' e=>by have:=B9 jA e;simp[k2,oV]at this),?_,?_⟩;show Sz _ _ (xA _ _ _);unfold xA;split;exact Sz.zero f5;exact(c.mul f).mono d f5;show Sz _ _ (val h.kept*xA _ _ _);unfold xA;split;rw[Rat.mul_zero];exact Sz.zero f5;rw[show val h.kept*((val h.kept*yK h T (k2 "filled" t)-yK h T (k2 "taken" t))*(val h.kept)⁻¹)=val h.kept*yK h T (k2 "filled" t)-yK h T (k2 "taken" t) by grind];exact c.mono b f5;have:=(lv1 H).mul l;exact this.mono o f5
theorem rp(f:Nat->Rat)(a:Nat):∀m,t8 f (a+m)=t8 f a+t8 (λi=>f (a+i)) m
 | 0=>by show t8 f a=t8 f a+0;grind
 |m+1=>by
  show t8 f (a+m)+f (a+m)=_+(_+f (a+m));rw[rp f a m];grind
theorem Qj{g:Nat->Rat}{n N:Nat}(h:m+n<=N):t8 (λt=>if m<=t/\t<m+n then g t else 0) N=t8 (λi=>g (m+i)) n:=by
 rw[show N=m+(n+(N-m-n)) by omega,rp,rp,V5 λi b=>f6 r9,A2 n λi b=>f9 (show m<=m+i/\m+i<m+n by simp[*]),V5 λi b=>f6 z9];grind
structure vZ(h:y7)(c:Nat->Rat):Prop where
 ex:∃P,kl h P/\∀i,i<3->cV h P i=c i
 le:∀P,kl h P->NN (cV h P 0-c 0) (cV h P 1-c 1) (cV h P 2-c 2)
theorem rT(H:G5 h):∃c:Nat->Rat,cE [u5 h]=sd (.tuple [qd (c 0),qd (c 1),qd (c 2)])/\vZ h c/\∀i,i<3->RO (c i):=by
 obtain⟨T,d,K,ne,e⟩:=XM H;obtain⟨o,r,_⟩:=kv H;have ok:=r.ok ⟨H.k.pos,H.k.bb.mono f5⟩ f5;have F:=a0Q H K;obtain⟨p,A,B,v⟩:=LO (UU H K) H ok ((lv1 H).ok ⟨H.l.pos,H.l.bb.mono f5⟩ f5) λt _=>(Nn H K t).2
 have:=H.n1;have b:∀i,i<3->cV h (nJ (yK h T)) i=(λi=>if i=0 then t8 (λi=>(ae h (yK h T) i).la) h.n else if i=1 then(iL h)+t8 (su h (ae h (yK h T))) h.n else kF h (ae h (yK h T))+t8 (sF h (ae h (yK h T))) h.n) i:=λi q=>by
  rcases(by lia:i=0\/i=1\/i=2)with rfl|rfl|rfl
  rfl
  . show t8 (nJ (yK h T)).un h.w=(iL h)+t8 (su h (ae h (yK h T))) h.n
    have am:=KL h h.w (T6 _);rw[uA]at am;have s:t8 (su h (ae h (yK h T))) h.n=0-t8 (λi=>t8 (ae h (yK h T) i).wk h.w) h.n:=by rw[<-iu h.n,<-hP];rfl
    rw[s,show(iL h:Rat)=_ from am,AB (λi j=>(ae h (yK h T) i).wk j) h.n h.w |>.symm];rw[show ∀x y:Rat,x+(0-y)=x-y from λx y=>by grind,<-hP];refine A2 _ λj m=>?_
    have:=F.r3 j m;have:=H.f j m;have:t8 (λt=>(ae h (yK h T) t).wk j) h.n=t8 (λi=>(nJ (yK h T)).wk (L0 h j+i) j) (dM h j):=by
     have a:=Qj (g:=λt=>yK h T (oV t j)) (n:=dM h j) (N:=h.n) (by
      show(h.wk j).first.toNat+((h.wk j).last+1-(h.wk j).first).toNat<=_
      lia)
     refine yy (A2 _ λt _=>?_) a;show yK h T (oV t j)=_;by_cases c:L0 h j<=t/\t<L0 h j+dM h j;rw[f9 c];rw[f6 c,xf (Xb c)]
    grind
  . show t8 (λt=>(dO (h.hr t))*yK h T (k2 "bought" t)-(dN (h.hr t))*yK h T (k2 "given" t)) h.n-h.rest*(nJ (yK h T)).lv (h.n-1)=kF h (ae h (yK h T))+t8 (sF h (ae h (yK h T))) h.n
    have:fg h (ae h (yK h T)) h.n=(nJ (yK h T)).lv (h.n-1):=by
     rw[F.r2 (h.n-1) r9,show h.n-1+1=h.n by exact Og s9];exact B9 (λz=>(h.start:Rat)+z) (A2 _ λt _=>Wi (yK h T (k2 "filled" t)) (yK h T (k2 "taken" t)) o)
    unfold kF;show _=_+t8 (λt=>(dO (h.hr t))*yK h T (k2 "bought" t)-(dN (h.hr t))*yK h T (k2 "given" t)) h.n;grind
 refine⟨_,?_,⟨⟨_,F,b⟩,λP u=>?_⟩,?_⟩;refine L5 rfl (aQ (A4 rfl (F0 (x:=.dat (.tuple [.tuple (rl h.n λt=>P8 h.w (ae h (yK h T) t)),d])) (y:=.dat (.int 0)) (e (λt _=>(Nn H K t).1) ok o) rfl) p));have:=least H K ne u;rw[b 0 f5,b 1 f5,b 2 f5]at this;exact this
 . intro i q;rcases(by lia:i=0\/i=1\/i=2)with rfl|rfl|rfl<;>assumption
end
theorem NN.a3E{y:Rat}(h:NN v y z)(k:NN (-v) (-y) (-z)):v=0/\y=0/\z=0:=by unfold NN at *;grind
theorem NN.Uz{y:Rat}(a:v=0)(b:y=0)(c:0<=z):NN v y z:=.inr ⟨a,.inr ⟨b,c⟩⟩
theorem vZ.eq{h':y7}{c':Nat->Rat}(p:0<z)(B:vZ d H)(j:vZ h' c')(f:∀P,kl d P->∃h,kl h' h/\NN (cV d P 0*z-cV h' h 0) (cV d P 1*z-cV h' h 1) (cV d P 2*z-cV h' h 2))(g:∀h,kl h' h->∃P,kl d P/\NN (cV h' h 0-cV d P 0*z) (cV h' h 1-cV d P 1*z) (cV h' h 2-cV d P 2*z)):c' 0=H 0*z/\c' 1=H 1*z/\c' 2=H 2*z:=by
 obtain⟨P,F,e⟩:=B.ex;obtain⟨h,o,n⟩:=f P F;obtain⟨q,r,i⟩:=j.ex;obtain⟨R,G,m⟩:=g q r;rw[e 0 f5,e 1 f5,e 2 f5]at n;rw[i 0 f5,i 1 f5,i 2 f5]at m;have a:=n.add (j.le h o);have b:=m.add ((B.le R G).mul (jB p));have l:NN (H 0*z-c' 0) (H 1*z-c' 1) (H 2*z-c' 2):=by
  have s:∀x y c:Rat,(x-y)+(y-c)=x-c:=λx y c=>by grind
  rw[s,s,s]at a;exact a
 have t:NN (-(H 0*z-c' 0)) (-(H 1*z-c' 1)) (-(H 2*z-c' 2)):=by
  have s:∀x y c:Rat,(x-y*z)+(y-c)*z = -(c*z-x):=λx y c=>by grind
  rw[s,s,s]at b;exact b
 obtain⟨x,y,c⟩:=l.a3E t;exact⟨by grind,by grind,by grind⟩
structure sJ(r:Rat)(h h':y7):Prop where
 n:h'.hs.length=h.hs.length
 w:h'.ws.length=h.ws.length
 ck:∀t,((h'.hs.getD t G9).ck:Rat)=((h.hs.getD t G9).ck:Rat)*r
 need:∀t,((h'.hs.getD t G9).need:Rat)=((h.hs.getD t G9).need:Rat)*r
 ln:∀t,((h.hs.getD t G9).line=J/\(h'.hs.getD t G9).line=J)\/∃a b c d b' d',(h.hs.getD t G9).line=U (a,b,c,d)/\(h'.hs.getD t G9).line=U (a,b',c,d')/\(b':Rat)=(b:Rat)*r/\(d':Rat)=(d:Rat)*r
 st:(h'.start:Rat)=(h.start:Rat)*r
 sz:(h'.size:Rat)=(h.size:Rat)*r
 fl:(h'.fill:Rat)=(h.fill:Rat)*r
 tk:(h'.take:Rat)=(h.take:Rat)*r
 k:h'.kept=h.kept
 l:h'.left=h.left
 re:h'.rest=h.rest
 am:∀j,((h'.ws.getD j U1).K4:Rat)=((h.ws.getD j U1).K4:Rat)*r
 mo:∀j,((h'.ws.getD j U1).most:Rat)=((h.ws.getD j U1).most:Rat)*r
 ff:∀j,(h'.ws.getD j U1).first=(h.ws.getD j U1).first/\(h'.ws.getD j U1).last=(h.ws.getD j U1).last
theorem sJ.symm{h':y7}(hr:0<z)(S:sJ z d h'):sJ z⁻¹ h' d:=by
 have i:∀{x y:Rat},x=y*z->y=x*z⁻¹:=λ{x y} e=>by rw[e];grind
 refine⟨S.n.symm,S.w.symm,λt=>i (S.ck t),λt=>i (S.need t),λt=>?_,i S.st,i S.sz,i S.fl,i S.tk,S.k.symm,S.l.symm,S.re.symm,λj=>i (S.am j),λj=>i (S.mo j),λj=>⟨(S.ff j).1.symm,(S.ff j).2.symm⟩⟩
 rcases S.ln t with ⟨a,b⟩|⟨a,b,c,r,p,f,o,m,q,g⟩
 exact .inl ⟨b,a⟩;exact .inr ⟨a,p,c,f,b,r,m,o,i q,i g⟩
noncomputable def Pl.mul(P:Pl)(r:Rat):Pl:=⟨λt=>P.lk t*r,λt=>P.sp t*r,λt=>P.bo t*r,λt=>P.gv t*r,λt=>P.fl t*r,λt=>P.tk t*r,λt=>P.lv t*r,λj=>P.un j*r,λt j=>P.wk t j*r⟩
theorem sJ.GG{h':y7}(S:sJ z d h')(j:Nat):L0 h' j=L0 d j/\dM h' j=dM d j:=by unfold L0 dM Av;rw[(S.ff j).1,(S.ff j).2];exact⟨rfl,rfl⟩
theorem sJ.fea{h':y7}(hr:0<z)(S:sJ z d h')(F:kl d P):kl h' (P.mul z):=by
 have A:∀{x:Rat},0<=x->0<=x*z:=λp=>qO p (jB hr);have le:∀{x y:Rat},0<=x/\x<=y->∀{r:Rat},r=y*z->0<=x*z/\x*z<=r:=λp r e=>⟨A p.1,by rw[e];exact zy p.2 (jB hr)⟩;refine⟨λt g=>le (F.lk t (S.n▸g)) (S.need t),λt g=>A (F.sp t (S.n▸g)),λt a b c h g m=>?_,λt m=>?_,λt g=>le (F.fl t (S.n▸g)) S.fl,λt g=>le (F.tk t (S.n▸g)) S.tk,λt g=>le (F.lv t (S.n▸g)) S.sz,λj o=>le (F.un j (S.w▸o)) (S.am j),λj i o v=>?_,λs q=>?_,λs q=>?_,λj o=>?_⟩
 . rcases S.ln t with ⟨_,r⟩|⟨E,K,I,C,H,G,B,u,L,D⟩
   rw[r]at m;exact nE m;rw[u]at m;cases m;have f:=F.bo t _ _ _ _ (S.n▸g) B;exact⟨le f.1 L,le f.2 D⟩
 . rcases S.ln t with ⟨r,_⟩|⟨E,K,I,C,H,G,B,u,_⟩
   obtain⟨a,b⟩:=F.nl t r;exact⟨by show P.bo t*z=0;rw[a];grind,by show P.gv t*z=0;rw[b];grind⟩;rw[u]at m;exact nS m
 rw[(S.GG j).2]at v;rw[(S.GG j).1];exact le (F.wk j i (S.w▸o) v) (S.mo j)
 . have e:nk h' (P.mul z) s=nk d P s*z:=by
     unfold nk;rw[S.w,V6];refine A2 _ λj _=>?_;rw[(S.GG j).1,(S.GG j).2];show(if _ then P.wk s j*z else 0)=_
     split<;>grind
   rw[e,S.need,S.ck,S.l];have:=F.r1 s (S.n▸q);show P.lk s*z+P.bo s*z+val d.left*(P.tk s*z)-P.sp s*z-P.gv s*z-P.fl s*z-nk d P s*z=_;grind
 show P.lv s*z=_;rw[F.r2 s (S.n▸q),S.st,S.k,Rat.add_mul,V6];exact B9 _ (A2 _ λt _=>by show _=val d.kept*(P.fl t*z)-P.tk t*z;grind);rw[(S.GG j).1,(S.GG j).2,S.am,<-F.r3 j (S.w▸o),Rat.add_mul,V6];rfl
theorem sJ.cost{h':y7}(S:sJ z d h')(P:Pl):cV h' (P.mul z) 0=cV d P 0*z/\cV h' (P.mul z) 1=cV d P 1*z/\cV h' (P.mul z) 2=cV d P 2*z:=by
 refine⟨?_,?_,?_⟩;show t8 (λt=>P.lk t*z) h'.hs.length=t8 P.lk d.n*z;rw[S.n,V6];show t8 (λt=>P.un t*z) h'.ws.length=t8 P.un d.w*z;rw[S.w,V6]
 . show t8 (λt=>(dO (h'.hs.getD t G9))*(P.bo t*z)-(dN (h'.hs.getD t G9))*(P.gv t*z)) h'.hs.length-h'.rest*(P.lv (h'.hs.length-1)*z)=(t8 (λt=>(dO (d.hr t))*P.bo t-(dN (d.hr t))*P.gv t) d.n-d.rest*P.lv (d.n-1))*z
   have:∀t,dO (h'.hs.getD t G9)=dO (d.hr t)/\dN (h'.hs.getD t G9)=dN (d.hr t):=λt=>by
    unfold dO dN;rcases S.ln t with ⟨a,b⟩|⟨a,b,c,r,i,g,f,e,_⟩
    rw[a,b];exact⟨rfl,rfl⟩;rw[f,e];exact⟨rfl,rfl⟩
   rw[S.n,S.re,show ∀x y:Rat,(x-y)*z=x*z-y*z from λx y=>by grind,V6];grind
theorem sJ.best{r:Rat}{h:y7}{h':y7}(hr:0<r)(S:sJ r h h'){c c':Nat->Rat}(B:vZ h c)(g:vZ h' c'):c' 0=c 0*r/\c' 1=c 1*r/\c' 2=c 2*r:=by
 have z:∀x:Rat,x-x=0:=λx=>by grind
 refine vZ.eq hr B g (λP F=>⟨_,S.fea hr F,?_⟩) λf e=>⟨_,(S.symm hr).fea (Rat.inv_pos.mpr hr) e,?_⟩;obtain⟨a,b,d⟩:=S.cost P;rw[a,b,d,z,z,z];exact NN.zero
 . obtain⟨a,b,d⟩:=(S.symm hr).cost f;have q:∀x:Rat,x-x*r⁻¹*r=0:=λx=>by grind
   rw[a,b,d,q,q,q];exact NN.zero
def gap(a:Nat)(f:Nat->Rat)(c:Rat)(t:Nat):Rat:=if t<a then f t else if t=a then c else f (t-1)
def sk(a:Nat)(f:Nat->Rat)(t:Nat):Rat:=f (if t<a then t else t+1)
theorem qr(a:Nat)(f:Nat->Rat)(c:Rat):∀n,t8 (gap a f c) n=if n<=a then t8 f n else t8 f (n-1)+c
 | 0=>by rfl
 |n+1=>by
  show t8 (gap a f c) n+gap a f c n=_
  rw[qr a f c n];unfold gap;rcases jJ n a with h|h|h
  rw[f9 (Q3 s9),f9 h,f9 s9];rfl;subst h;rw[f9 (T6 _),f6 (U9 _),f9 rfl,f6 r9,kT];rw[f6 r9,f6 r9,f6 r9,f6 r9,kT];rw[show t8 f n=t8 f (n-1)+f (n-1) by rw[show n=n-1+1 by lia];rfl];grind
theorem MV(a:Nat)(g:Nat->Rat):gap a (sk a g) (g a)=g:=by
 funext t
 unfold gap sk;rcases jJ t a with h|h|h
 . simp_all
 . simp_all
 rw[f6 (Nat.not_lt.2 (Q3 s9)),f6 (ar s9),f6 O7,show t-1+1=t by lia]
def sy(a:Nat)(w:Wk):Wk:={w with first:=w.first+(if (a:Int)<=w.first then 1 else 0),last:=w.last+(if (a:Int)<=w.last then 1 else 0)}
def D9(a:Nat)(h:y7):y7:={h with hs:=h.hs.take a++G9::h.hs.drop a,ws:=h.ws.map (sy a)}
theorem qo(b:m<=d.n):(D9 m d).hs.length=d.n+1:=by
 show(d.hs.take m++G9::d.hs.drop m).length=_;rw[au,Y2,jH,uB];lia
theorem tP(b:m<=d.n)(t:Nat):(D9 m d).hs.getD t G9=if t<m then d.hs.getD t G9 else if t=m then G9 else d.hs.getD (t-1) G9:=by
 show(d.hs.take m++G9::d.hs.drop m).getD t G9=_
 have lt:(d.hs.take m).length=m:=by rw[jH];simp[*]
 rcases jJ t m with c|c|c
 rw[f9 c,aN,fZ z9,Oj,f9 c,<-aN];subst c;rw[f6 (U9 _),f9 rfl,aN,js (lQ s9),lt,Ek];rfl;rw[f6 (Nat.not_lt.2 (Q3 s9)),f6 (ar s9),aN,js r9,lt,show t-m=(t-1-m)+1 by lia,pF,List.getElem?_drop,show m+(t-1-m)=t-1 by lia,<-aN]
theorem je(b:l<d.w):(D9 m d).ws.getD l U1=sy m (d.wk l):=by
 show(d.ws.map (sy m)).getD l U1=_;rw[aN,L1,Ue b];rfl
def Clear(a:Nat)(h:y7):Prop:=∀j,j<h.ws.length->(h.ws.getD j U1).last<(a:Int)\/(a:Int)<=(h.ws.getD j U1).first
theorem kA(H:G5 d)(C:Clear m d)(b:l<d.w):dM (D9 m d) l=dM d l/\((L0 d l+dM d l<=m/\L0 (D9 m d) l=L0 d l)\/(m<=L0 d l/\L0 (D9 m d) l=L0 d l+1)):=by
 have:=H.f l b;unfold L0 dM Av;rw[je b];unfold sy;rcases C l b with c|c
 rw[f6 r9,f6 (Int.not_le.2 s9)];exact⟨by lia,.inl ⟨by omega,by lia⟩⟩;rw[f9 c,f9 r9];exact⟨by lia,.inr ⟨by lia,by lia⟩⟩
theorem HL(H:G5 d)(C:Clear m d){i:Pl}(e:∀t j,i.wk (if t<m then t else t+1) j=P.wk t j)(t:Nat):nk (D9 m d) i (if t<m then t else t+1)=nk d P t:=by
 unfold nk;rw[show(D9 m d).ws.length=d.w from C5 _];refine A2 _ λj k=>?_;obtain⟨b,w⟩:=kA H C k;rw[b,e];by_cases c:t<m
 . rw[f9 c];rcases w with ⟨g,f⟩|⟨g,f⟩
   rw[f];rw[f,f6 r9,f6 r9]
 . rw[f6 c];rcases w with ⟨g,f⟩|⟨g,f⟩
   rw[f,f6 r9,f6 r9];rw[f];by_cases h:L0 d j<=t/\t<L0 d j+dM d j;rw[f9 h,f9 r9];rw[f6 h,f6 r9]
theorem HM(H:G5 d)(C:Clear m d)(P:Pl):nk (D9 m d) P m=0:=by
 refine V5 λj e=>f6 ?_;obtain⟨b,w⟩:=kA H C (show j<d.w by rw[<-show(D9 m d).ws.length=d.w from C5 _];exact e)
 rcases w with ⟨h,c⟩|⟨h,c⟩<;>rw[c]<;>lia
def Pl.gap(P:Pl)(a:Nat)(c:Rat):Pl:=⟨Law.gap a P.lk 0,Law.gap a P.sp 0,Law.gap a P.bo 0,Law.gap a P.gv 0,Law.gap a P.fl 0,Law.gap a P.tk 0,Law.gap a P.lv c,P.un,λt j=>Law.gap a (λt=>P.wk t j) 0 t⟩
theorem df(a:Nat)(f:Nat->Rat)(c:Rat)(t:Nat):gap a f c (if t<a then t else t+1)=f t:=by
 unfold gap;by_cases z:t<a
 . simp_all
 rw[f6 z,f6 r9,f6 r9,kT]
theorem kQ(a:Nat)(f:Nat->Rat)(c:Rat):gap a f c a=c:=by unfold gap;simp
theorem fk(b:m<=d.n)(h:l<(D9 m d).hs.length):l=m\/∃s,s<d.n/\l=(if s<m then s else s+1)/\(D9 m d).hs.getD l G9=d.hs.getD s G9:=by
 rw[qo b]at h;rw[tP b];rcases jJ l m with c|c|c
 exact .inr ⟨l,by exact B6 s9 s9,by rw[f9 c],by rw[f9 c]⟩;exact .inl c;exact .inr ⟨l-1,by omega,by rw[f6 r9];lia,by rw[f6 (Nat.not_lt.2 (Q3 s9)),f6 (ar s9)]⟩
theorem kB(b:m<=d.n):(D9 m d).hs.getD m G9=G9:=by rw[tP b,f6 (U9 _),f9 rfl]
theorem Xu(H:G5 d)(a:m<=d.n)(C:Clear m d)(F:kl d P):kl (D9 m d) (P.gap m (if m=0 then(d.start:Rat)else P.lv (m-1))):=by
 have G:=H.st;have A:(D9 m d).ws.length=d.w:=C5 _;have z:∀{v:Int},0<=v->(0:Rat)<=0/\(0:Rat)<=v:=λD=>⟨yE,Rat.intCast_nonneg.mpr D⟩
 have E:∀{f:Nat->Rat} {v:Int} {t:Nat},t<(D9 m d).hs.length->0<=v->(∀s,s<d.n->0<=f s/\f s<=v)->0<=gap m f 0 t/\gap m f 0 t<=v:=λ{f v t} g D I=>by
  rcases fk a g with rfl|⟨s,l,rfl,_⟩
  rw[kQ];exact z D;rw[df];exact I s l
 have B:0<=(if m=0 then(d.start:Rat)else P.lv (m-1))/\(if m=0 then(d.start:Rat)else P.lv (m-1))<=d.size:=by
  split;exact⟨Rat.intCast_nonneg.mpr G.1,Rat.intCast_le_intCast.mpr G.2.1⟩;exact F.lv _ r9
 have sm:∀s,t8 (λt=>val d.kept*gap m P.fl 0 t-gap m P.tk 0 t) s=if s<=m then t8 (λt=>val d.kept*P.fl t-P.tk t) s else t8 (λt=>val d.kept*P.fl t-P.tk t) (s-1):=λs=>by
  have e:(λt=>val d.kept*gap m P.fl 0 t-gap m P.tk 0 t)=gap m (λt=>val d.kept*P.fl t-P.tk t) 0:=funext λt=>by
   unfold gap;split;rfl
   . split<;>grind
  rw[e,qr];split;rfl;grind
 refine⟨λt g=>?_,λt g=>?_,λt x y c h g o=>?_,λt o=>?_,λt g=>E g H.fl.1 F.fl,λt g=>E g H.tk.1 F.tk,λt g=>?_,λj k=>?_,λj i k q=>?_,λs l=>?_,λs l=>?_,λj k=>?_⟩
 . rcases fk a g with rfl|⟨s,l,rfl,e⟩
   rw[kB a];show 0<=gap t P.lk 0 t/\gap t P.lk 0 t<=_;rw[kQ];exact z f5;rw[e];show 0<=gap m P.lk 0 _/\gap m P.lk 0 _<=_;rw[df];exact F.lk s l
 . rcases fk a g with rfl|⟨s,l,rfl,e⟩
   show 0<=gap t P.sp 0 t;rw[kQ];rfl;show 0<=gap m P.sp 0 _;rw[df];exact F.sp s l
 . rcases fk a g with rfl|⟨s,l,rfl,e⟩
   rw[kB a]at o;exact nE o;rw[e]at o;show(0<=gap m P.bo 0 _/\gap m P.bo 0 _<=_)/\0<=gap m P.gv 0 _/\gap m P.gv 0 _<=_;rw[df,df];exact F.bo s x y c h l o
 . show gap m P.bo 0 t=0/\gap m P.gv 0 t=0
   rw[tP a]at o;unfold gap;rcases jJ t m with c|c|c
   rw[f9 c]at o;rw[f9 c,f9 c];exact F.nl t o;rw[f6 z9,f9 c,f6 z9,f9 c];exact⟨rfl,rfl⟩;rw[f6 (Nat.not_lt.2 (Q3 s9)),f6 (ar s9)]at o;rw[f6 (Nat.not_lt.2 (Q3 s9)),f6 (ar s9),f6 (Nat.not_lt.2 (Q3 s9)),f6 (ar s9)];exact F.nl _ o
 . show 0<=gap m P.lv _ t/\gap m P.lv _ t<=_
   rcases fk a g with rfl|⟨s,l,rfl,e⟩
   rw[kQ];exact B;rw[df];exact F.lv s l
 rw[A]at k;rw[je k];exact F.un j k
 . rw[A]at k;obtain⟨b,w⟩:=kA H C k;rw[b]at q;rw[je k];have e:gap m (λt=>P.wk t j) 0 (L0 (D9 m d) j+i)=P.wk (L0 d j+i) j:=by
    unfold gap;rcases w with ⟨u,p⟩|⟨u,p⟩
    rw[p,f9 r9];rw[p,f6 r9,f6 r9,show L0 d j+1+i-1=L0 d j+i by simp[*]]
   show 0<=gap m (λt=>P.wk t j) 0 _/\gap m (λt=>P.wk t j) 0 _<=_;rw[e];exact F.wk j i k q
 . show gap m P.lk 0 s+gap m P.bo 0 s+val d.left*gap m P.tk 0 s-gap m P.sp 0 s-gap m P.gv 0 s-gap m P.fl 0 s-nk (D9 m d) (P.gap m _) s=_
   rcases fk a l with rfl|⟨t,g,rfl,e⟩
   rw[kQ,kQ,kQ,kQ,kQ,kQ,HM H C,kB a];show 0+0+val d.left*0-0-0-0-0=0-0;grind;rw[df,df,df,df,df,df,HL H C (λt j=>df m (λt=>P.wk t j) 0 t),e];exact F.r1 t g
 . show gap m P.lv _ s=d.start+t8 (λt=>val d.kept*gap m P.fl 0 t-gap m P.tk 0 t) (s+1)
   rw[sm];rw[qo a]at l;unfold gap;rcases jJ s m with c|c|c
   rw[f9 c,f9 s9];exact F.r2 s (B6 s9 s9);subst c;rw[f6 (U9 _),f9 rfl,f6 (show ¬s+1<=s by exact U9 _),kT];by_cases r:s=0;rw[f9 r,r];show(d.start:Rat)=d.start+0;grind;rw[f6 r,F.r2 (s-1) r9,show s-1+1=s by lia];rw[f6 r9,f6 r9,f6 r9,kT,F.r2 (s-1) r9,show s-1+1=s by lia]
 . rw[A]at k;obtain⟨b,w⟩:=kA H C k;rw[je k,b];refine yy ?_ (F.r3 j k);refine B9 (λx=>P.un j+x) (A2 _ λi q=>?_);show gap m (λt=>P.wk t j) 0 (L0 (D9 m d) j+i)=P.wk (L0 d j+i) j
   unfold gap;rcases w with ⟨u,p⟩|⟨u,p⟩
   rw[p,f9 r9];rw[p,f6 r9,f6 r9,show L0 d j+1+i-1=L0 d j+i by simp[*]]
def mE(κ δ:Rat)(f:Nat->Rat):Nat->Rat
 | 0=>δ
 |n+1=>if mE κ δ f n-κ*f n<0 then 0 else mE κ δ f n-κ*f n
theorem UR{κ:Rat}{f:Nat->Rat}(h:0<=z):∀n,0<=mE κ z f n
 | 0=>h
 |n+1=>by
  unfold mE;split;exact yE;rename_i δ;exact Rat.not_lt.mp δ
theorem XC{κ:Rat}{f:Nat->Rat}(h:0<=z)(a:0<=κ*f m):mE κ z f (m+1)<=mE κ z f m/\mE κ z f m-mE κ z f (m+1)<=κ*f m/\(mE κ z f (m+1)=0\/mE κ z f (m+1)=mE κ z f m-κ*f m):=by
 have e:mE κ z f (m+1)=if mE κ z f m-κ*f m<0 then 0 else mE κ z f m-κ*f m:=rfl;rw[e];by_cases δ:mE κ z f m-κ*f m<0;rw[f9 δ];exact⟨(UR (κ:=κ) (f:=f) h m),by grind,.inl rfl⟩;rw[f6 δ];exact⟨by grind,by grind,.inr rfl⟩
abbrev qv(h:y7)(P:Pl):Nat->Rat:=λt=>val h.kept*P.fl t-P.tk t
theorem SD(H:G5 d)(ha:m<=d.n)(C:Clear m d)(F:kl (D9 m d) P):∃R,kl d R/\NN (cV (D9 m d) P 0-cV d R 0*1) (cV (D9 m d) P 1-cV d R 1*1) (cV (D9 m d) P 2-cV d R 2*1):=by
 have n1:=H.n1;have len:=qo ha;have Z:(D9 m d).ws.length=d.w:=C5 _;have D:∀{t},t<d.n->(if t<m then t else t+1)<(D9 m d).hs.length:=λ{t} A=>by rw[len];split<;>lia
 have G:∀t,(D9 m d).hs.getD (if t<m then t else t+1) G9=d.hr t:=λt=>by
  rw[tP ha];by_cases c:t<m;rw[f9 c,f9 c];rw[f6 c,f6 r9,f6 r9,kT]
 have K:m<(D9 m d).hs.length:=by lia
 obtain⟨k0,_,_⟩:=kv H;have sh:∀{q:Q2},B4 4 q->q.1<=q.2->val q<=1:=λ{q} hq Y=>by
  have b:=sW (p:=(1,1)) (q:=q) f5 hq.pos;rw[show val (1,1)=1 from cR 1]at b;refine Rat.not_lt.mp λz=>?_;rw[fW z]at b;have c:=oE b;have h:1*q.2<q.1*1:=c;lia
 have k1:=sh H.k H.k0.2;have q1:=sh H.l H.l0.2;have b1:=F.nl m (by rw[kB ha];rfl)
 have l1:=F.lk m K;have s1:=F.sp m K;have t1:=(F.tk m K).1;have f1:=(F.fl m K).1;have L:=F.r1 m K;rw[kB ha]at l1 L;have l0:P.lk m=0:=by have:P.lk m<=0:=l1.2;grind
 rw[HM H C,l0,b1.1,b1.2]at L;have e2:P.fl m=val d.left*P.tk m-P.sp m:=by have:(0:Rat)+0+val d.left*P.tk m-P.sp m-0-P.fl m-0=0-0:=L;grind
 have m1:val d.left*P.tk m<=1*P.tk m:=zy q1 t1;have m2:val d.kept*P.fl m<=1*P.fl m:=zy k1 f1;have d0:0<=P.tk m-val d.kept*P.fl m:=by clear L;grind
 generalize eδ:P.tk m-val d.kept*P.fl m=δ at d0;generalize O:mE (val d.kept) δ (λn=>P.fl (m+n+1))=X
 have X0:X 0=δ:=by rw[<-O];rfl
 have Xn:∀n,0<=X n:=λn=>by rw[<-O];exact UR d0 n
 have Xs:∀n,m+n+1<(D9 m d).hs.length->X (n+1)<=X n/\X n-X (n+1)<=val d.kept*P.fl (m+n+1)/\(X (n+1)=0\/X (n+1)=X n-val d.kept*P.fl (m+n+1)):=λn W=>by rw[<-O];exact XC d0 (qO (jB k0) (F.fl _ W).1)
 let o:Nat->Rat:=λt=>if t<m then 0 else X (t-m)-X (t-m+1)
 let ea:Nat->Rat:=λt=>if t<m then 0 else X (t-m+1)
 have dxn:∀t,t<d.n->0<=o t/\o t<=val d.kept*sk m P.fl t:=λt A=>by
  show 0<=(if t<m then 0 else X (t-m)-X (t-m+1))/\(if t<m then 0 else X (t-m)-X (t-m+1))<=_;unfold sk;by_cases c:t<m;rw[f9 c,f9 c];exact⟨yE,qO (jB k0) (F.fl t (qI s9 s9)).1⟩;rw[f6 c,f6 c];have:=Xs (t-m) r9;rw[show m+(t-m)+1=t+1 by lia]at this;exact⟨by grind,this.2.1⟩
 have Q:∀n,t8 o n=if n<=m then 0 else δ-X (n-m):=λn=>by
  induction n with
  |zero=>rfl
  |succ n ih =>
   show t8 o n+(if n<m then 0 else X (n-m)-X (n-m+1))=_
   rw[ih];rcases jJ n m with c|c|c
   rw[f9 (Q3 s9),f9 c,f9 s9];grind;subst c;rw[f9 (T6 _),f6 (U9 _),f6 r9,Ek,X0,show n+1-n=0+1 by lia];grind;rw[f6 r9,f6 r9,f6 r9,show n+1-m=n-m+1 by lia];grind
 have V:∀n,t8 (qv d P) (if n<=m then n else n+1)=t8 (λt=>val d.kept*sk m P.fl t-sk m P.tk t) n+if n<=m then 0 else-δ:=λn=>by
  have e:qv d P=gap m (λt=>val d.kept*sk m P.fl t-sk m P.tk t) (- δ):=by
   rw[<-MV m (qv d P)]
   congr 1
   rw[<-eδ];grind
  rw[e,qr];by_cases c:n<=m;rw[f9 c,f9 c,f9 c];grind;rw[f6 c,f6 r9,f6 c,kT]
 have B:∀n,m+n<(D9 m d).hs.length->P.lv (m+n)+X n<=(d.size:Rat):=λn=>by
  induction n with
  |zero =>
   intro _;have r:=F.r2 m K;have:P.lv m+X 0=(d.start:Rat)+t8 (qv d P) m:=by
    rw[r,X0,<-eδ];show(d.start:Rat)+(t8 _ m+(val d.kept*P.fl m-P.tk m))+_=_;show(d.start:Rat)+(t8 (qv d P) m+(val d.kept*P.fl m-P.tk m))+(P.tk m-val d.kept*P.fl m)=_;generalize t8 (qv d P) m=S;clear L O Xs;grind
   rw[Nat.add_zero,this];by_cases z:m=0;subst z;show(d.start:Rat)+0<=_;have:=Rat.intCast_le_intCast.mpr H.st.2.1;grind;have I:=F.r2 (m-1) (yY s9);rw[show m-1+1=m by lia]at I;have r'':P.lv (m-1)=(d.start:Rat)+t8 (qv d P) m:=I;rw[<-r''];exact(F.lv (m-1) (yY s9)).2
  |succ n ih =>
   intro W;have i:=ih (Q3 s9);have lb:=(F.lv (m+(n+1)) W).2;have r:=F.r2 (m+(n+1)) W;have I:=F.r2 (m+n) (Q3 s9);have st:P.lv (m+(n+1))=P.lv (m+n)+(val d.kept*P.fl (m+n+1)-P.tk (m+n+1)):=by
    rw[r,I];show(d.start:Rat)+(t8 (qv d P) (m+n+1)+(val d.kept*P.fl (m+n+1)-P.tk (m+n+1)))=(d.start:Rat)+t8 (qv d P) (m+n+1)+_;grind
   have tn:=(F.tk (m+(n+1)) W).1;rcases(Xs n O7).2.2 with z|z
   rw[z];have:P.lv (m+(n+1))<=(d.size:Rat):=lb;grind;rw[z,st];have:0<=P.tk (m+n+1):=tn;clear O Xs L r I st lb z;grind
 have ki:val d.kept*(val d.kept)⁻¹=1:=by grind
 have M:0<=(val d.kept)⁻¹:=jB (Rat.inv_pos.mpr k0);have dk:∀t,t<d.n->0<=o t*(val d.kept)⁻¹/\o t*(val d.kept)⁻¹<=sk m P.fl t:=λt A=>by
  obtain⟨u,v⟩:=dxn t A;refine⟨qO u M,?_⟩;have:=zy v M;rw[show val d.kept*sk m P.fl t*(val d.kept)⁻¹=sk m P.fl t*(val d.kept*(val d.kept)⁻¹) by grind,ki,uk]at this;exact this
 let R:Pl:=⟨sk m P.lk,λt=>sk m P.sp t+o t*(val d.kept)⁻¹,sk m P.bo,sk m P.gv,λt=>sk m P.fl t-o t*(val d.kept)⁻¹,sk m P.tk,λt=>sk m P.lv t+ea t,P.un,λt j=>P.wk (if t<m then t else t+1) j⟩
 have ean:∀t,0<=ea t:=λt=>by
  show 0<=if t<m then 0 else X (t-m+1);split;rfl;exact Xn _
 have N:∀{j i},j<d.w->i<dM d j->R.wk (L0 d j+i) j=P.wk (L0 (D9 m d) j+i) j:=λ{j i} E T=>by
  obtain⟨b,w⟩:=kA H C E;show P.wk (if L0 d j+i<m then L0 d j+i else L0 d j+i+1) j=_
  rcases w with ⟨w1,w2⟩|⟨w1,w2⟩
  rw[w2,f9 r9];rw[w2,f6 r9,show L0 d j+1+i=L0 d j+i+1 by exact zi _ _ _]
 have lvE:∀s,s<d.n->R.lv s=(d.start:Rat)+t8 (λt=>val d.kept*R.fl t-R.tk t) (s+1):=λs hs=>by
  have e:t8 (λt=>val d.kept*R.fl t-R.tk t) (s+1)=t8 (λt=>val d.kept*sk m P.fl t-sk m P.tk t) (s+1)-t8 o (s+1):=by
   rw[<-hP];refine A2 _ λt _=>?_;show val d.kept*(sk m P.fl t-o t*(val d.kept)⁻¹)-sk m P.tk t=_
   have:val d.kept*(o t*(val d.kept)⁻¹)=o t:=by rw[show val d.kept*(o t*(val d.kept)⁻¹)=o t*(val d.kept*(val d.kept)⁻¹) by grind,ki,uk]
   generalize o t*(val d.kept)⁻¹=y at *;grind
  have a:=V (s+1);rw[e,Q];show sk m P.lv s+(if s<m then 0 else X (s-m+1))=_;unfold sk at *;by_cases c:s<m;rw[f9 c,f9 c,f9 s9];rw[f9 s9,f9 s9]at a;rw[F.r2 s (qI s9 s9)];show(d.start:Rat)+t8 (qv d P) (s+1)+0=_;rw[a];grind;rw[f6 c,f6 c,f6 s9,show s+1-m=s-m+1 by lia];rw[f6 s9,f6 s9]at a;rw[F.r2 (s+1) z9];show(d.start:Rat)+t8 (qv d P) (s+1+1)+_=_;rw[a];grind
 refine⟨R,⟨λt A=>?_,λt A=>?_,λt x y c h A Y=>?_,λt Y=>?_,λt A=>?_,λt A=>F.tk _ (D A),λt A=>?_,λj E=>?_,λj i E T=>?_,λs hs=>?_,lvE,λj E=>?_⟩,?_⟩;have:=F.lk _ (D A);rw[G]at this;exact this;have:=F.sp _ (D A);show 0<=P.sp _+o t*(val d.kept)⁻¹;have:=(dk t A).1;grind;exact F.bo _ x y c h (D A) (by rw[G];exact Y);exact F.nl _ (by rw[G];exact Y);have f:=F.fl _ (D A);obtain⟨u,v⟩:=dk t A;show 0<=sk m P.fl t-o t*(val d.kept)⁻¹/\sk m P.fl t-o t*(val d.kept)⁻¹<=_;have f2:sk m P.fl t<=(d.fill:Rat):=f.2;exact⟨by grind,by grind⟩;have l:=F.lv _ (D A);show 0<=sk m P.lv t+(if t<m then 0 else X (t-m+1))/\sk m P.lv t+(if t<m then 0 else X (t-m+1))<=_;unfold sk;by_cases c:t<m;rw[f9 c]at l;rw[f9 c,f9 c,um];exact l;rw[f6 c]at l;rw[f6 c,f6 c];have b:=B (t-m+1) r9;rw[show m+(t-m+1)=t+1 by lia]at b;have:=Xn (t-m+1);exact⟨by have:=l.1;grind,b⟩;have:=F.un j (by rw[Z];exact E);rw[je E]at this;exact this;rw[N E T];obtain⟨b,_⟩:=kA H C E;have:=F.wk j i (by rw[Z];exact E) (by rw[b];exact T);rw[je E]at this;exact this;have:=F.r1 _ (D hs);rw[G,HL H C (P:=R) (λ_ _=>rfl)]at this;rw[<-this];show sk m P.lk s+sk m P.bo s+val d.left*sk m P.tk s-(sk m P.sp s+o s*(val d.kept)⁻¹)-sk m P.gv s-(sk m P.fl s-o s*(val d.kept)⁻¹)-nk d R s=sk m P.lk s+sk m P.bo s+val d.left*sk m P.tk s-sk m P.sp s-sk m P.gv s-sk m P.fl s-nk d R s;grind;have:=F.r3 j (by rw[Z];exact E);obtain⟨b,_⟩:=kA H C E;rw[je E,b]at this;rw[A2 _ λi T=>N E T];exact this
 . have S:∀g:Nat->Rat,g m=0->t8 g (d.n+1)=t8 (sk m g) d.n:=λg g0=>by have:=qr m (sk m g) (g m) (d.n+1);rw[MV,f6 r9,kT,g0,um]at this;exact this
   refine NN.Uz ?_ ?_ ?_;show t8 P.lk (D9 m d).hs.length-t8 (sk m P.lk) d.n*1=0;rw[len,S _ l0];grind;show t8 P.un (D9 m d).ws.length-t8 P.un d.w*1=0;rw[Z];grind
   . show 0<=t8 (λt=>(dO ((D9 m d).hs.getD t G9):Rat)*P.bo t-(dN ((D9 m d).hs.getD t G9):Rat)*P.gv t) (D9 m d).hs.length-(d.rest:Rat)*P.lv ((D9 m d).hs.length-1)-(t8 (λt=>(dO (d.hr t):Rat)*sk m P.bo t-(dN (d.hr t):Rat)*sk m P.gv t) d.n-(d.rest:Rat)*R.lv (d.n-1))*1
     have e:t8 (sk m λt=>(dO ((D9 m d).hs.getD t G9))*P.bo t-(dN ((D9 m d).hs.getD t G9))*P.gv t) d.n=t8 (λt=>(dO (d.hr t))*sk m P.bo t-(dN (d.hr t))*sk m P.gv t) d.n:=A2 _ λt _=>by unfold sk;dsimp only;rw[G]
     rw[len,S _ (by rw[b1.1,b1.2];grind),e,kT]
     have lv:P.lv d.n<=R.lv (d.n-1):=by
      show _<=sk m P.lv (d.n-1)+ea (d.n-1);unfold sk;by_cases c:d.n-1<m
      . have:m=d.n:=by lia
        have I:=F.r2 (m-1) (yY s9);rw[show m-1+1=m by simp[*]]at I
        have:P.lv m=P.lv (m-1)-δ:=by
         rw[(F.r2 m K),I,<-eδ];show d.start+(t8 (qv d P) m+(val d.kept*P.fl m-P.tk m))=d.start+t8 (qv d P) m-(P.tk m-val d.kept*P.fl m);grind
        grind
      rw[f6 c,show d.n-1+1=d.n by exact Og s9];grind
     have:=Pn lv (Rat.intCast_nonneg.mpr H.re.1);grind
theorem SA(a:G5 d)(b:m<=d.n)(C:Clear m d){c':Nat->Rat}(B:vZ d H)(h:vZ (D9 m d) c'):c' 0=H 0*1/\c' 1=H 1*1/\c' 2=H 2*1:=by
 have:=a.n1;have:=qo b;have S:∀f:Nat->Rat,t8 (gap m f 0) (d.n+1)=t8 f d.n:=λf=>by rw[qr,f6 r9,kT,um]
 refine vZ.eq f5 B h (λP F=>⟨_,Xu a b C F,NN.Uz ?_ ?_ ?_⟩) λg e=>SD a b C e;show t8 P.lk d.n*1-t8 (gap m P.lk 0) (D9 m d).hs.length=0;grind;show t8 P.un d.w*1-t8 P.un (D9 m d).ws.length=0;rw[show(D9 m d).ws.length=d.w from C5 _];grind
 . show 0<=(t8 (λt=>(dO (d.hr t))*P.bo t-(dN (d.hr t))*P.gv t) d.n-d.rest*P.lv (d.n-1))*1-(t8 (λt=>(dO ((D9 m d).hs.getD t G9))*gap m P.bo 0 t-(dN ((D9 m d).hs.getD t G9))*gap m P.gv 0 t) (D9 m d).hs.length-d.rest*gap m P.lv (if m=0 then d.start else P.lv (m-1)) ((D9 m d).hs.length-1))
   have:t8 (λt=>(dO ((D9 m d).hs.getD t G9))*gap m P.bo 0 t-(dN ((D9 m d).hs.getD t G9))*gap m P.gv 0 t) (d.n+1)=t8 (λt=>(dO (d.hr t))*P.bo t-(dN (d.hr t))*P.gv t) d.n:=by
    rw[<-S];refine A2 _ λt _=>?_
    rw[tP b];unfold gap;rcases jJ t m with H|H|H
    rw[f9 H,f9 H,f9 H,f9 H];rw[f6 z9,f9 H,f6 z9,f9 H,f6 z9,f9 H,f6 z9,f9 H];grind;rw[f6 (Nat.not_lt.2 (Q3 s9)),f6 (ar s9),f6 (Nat.not_lt.2 (Q3 s9)),f6 (ar s9),f6 (Nat.not_lt.2 (Q3 s9)),f6 (ar s9),f6 (Nat.not_lt.2 (Q3 s9)),f6 (ar s9)]
   have:gap m P.lv (if m=0 then d.start else P.lv (m-1)) d.n=P.lv (d.n-1):=by
    unfold gap;rw[f6 (Nat.not_lt_of_le s9)];by_cases z:d.n=m;rw[f9 z,f6 r9,z];rw[f6 z]
   grind
theorem a0F(H:G5 d)(g:m<=d.n)(C:Clear m d)(u:d.n<=3):G5 (D9 m d):=by
 have n:=qo g;have o:(D9 m d).ws.length=d.w:=C5 _;refine⟨by simp[*],by simp[*],by rw[o];exact H.w2,H.k,H.k0,H.l,H.l0,H.st,H.fl,H.tk,H.re,λt p=>?_,λt x y c h p i=>?_,λj b=>?_,λj b=>?_⟩
 . rcases fk g p with rfl|⟨s,a,_,e⟩
   rw[kB g];decide;rw[e];exact H.hr s a
 . rcases fk g p with rfl|⟨s,a,_,e⟩
   rw[kB g]at i;exact nE i;rw[e]at i;exact H.ln s x y c h a i
 rw[o]at b;rw[je b];exact H.wk j b
 . rw[o]at b;obtain⟨r,v,q⟩:=H.f j b;rw[je b,n];unfold sy;rcases C j b with c|c
   rw[f6 r9,f6 (Int.not_le.2 s9)];exact⟨by lia,by lia,by lia⟩;rw[f9 c,f9 (aK s9 s9)];exact⟨by lia,by lia,by lia⟩
abbrev uM(i:Int):Prop:=0<=i/\i<=12000
abbrev PrB(i:Int):Prop:=-100<=i/\i<=100
structure Ki(h:Hr):Prop where
 ck:uM h.ck
 need:uM h.need
 line:∀a b c d,h.line=U (a,b,c,d)->PrB a/\uM b/\PrB c/\uM d
structure Ke(n:Int)(w:Wk):Prop where
 K4:uM w.K4
 first:0<=w.first
 fl:w.first<=w.last
 last:w.last<n
 most:uM w.most
structure vB(h:y7):Prop where
 hs:∀x∈h.hs,Ki x
 h1:1<=h.hs.length
 hl:h.hs.length<=3
 size:uM h.size
 start:uM h.start
 full:h.start<=h.size
 fill:uM h.fill
 take:uM h.take
 kept:B4 4 h.kept
 left:B4 4 h.left
 kp:0<h.kept.1/\h.kept.1<=h.kept.2
 lf:0<h.left.1/\h.left.1<=h.left.2
 rest:0<=h.rest/\h.rest<=1000
 ws:∀w∈h.ws,Ke h.hs.length w
 wl:h.ws.length<=2
theorem mO(e:0<=D)(c:D<=1000)(a:0<=E)(d1:E<13):N4 (.int D) (.int E)=sd (.int (D*E))/\uM (D*E):=by refine⟨C4 (Bt.pW r9 (zh s9 f5)) (Bt.pW r9 (aK s9 f5)),fz e a,?_⟩;exact yP c (show E<=12 by lia) a f5
theorem Mx(d:1<=D)(c:D<=E):0<(D8 D E).1/\(D8 D E).1<=(D8 D E).2:=by
 have:0<C9 D E:=se D r9;have a:0<gc D E:=by lia
 have e:D8 D E=(D/gc D E,E/gc D E):=by unfold D8;rw[f6 r9,ba _ z9,ba _ z9]
 rw[e];exact⟨FR s9 z9 (jE ..),Int.ediv_le_ediv a c⟩
theorem BW{k:Int}(a:a8.length<=63)(d:0<=k)(f:k<=10000):∃q:Q2,iP [Y3 a8,.int k]=sd (fr q)/\B4 4 q/\0<q.1/\q.1<=q.2:=by
 obtain⟨b,c,j,i⟩:=Q6 (k:=k) (m:=12) a O7 (aK s9 f5) f5;obtain⟨t,e,g,h⟩:=Q6 (k:=k+1) (m:=1+b) a r9 (zh s9 f5) r9;have L:B4 4 (D8 (1+t) (1+b)):=fh (zh s9 s9) ⟨by omega⟩ ⟨by omega⟩;unfold iP;walk_at "r";rw[c];walk_at "r";rw[e];walk_at "r";rw[AM r9 (Bt.pW r9 r9)];exact⟨_,rfl,L,Mx r9 r9⟩
theorem iJ(k:r[0]? = U (sd (Y3 a8)))(v:G r=sd (.int D))(w:u r=sd (.int E))(e:B7 [Y3 a8,.int D,.int E]=sd (.int M)):q5 B7 (f7 (q9 0) (f7 G (f7 u u3))) r=sd (.int M):=ia (x:=.dat (Y3 a8)) (by delta q9;rw[k]) v w e
theorem eU(p:G r=sd (.int D))(q:u r=sd (.int E)):t6 A9 G u r=sd (.int (D+E)):=(F0 p q).trans rfl
theorem IA(p:G r=sd (.int D))(q:u r=sd (.int E)):t6 km G u r=sd (.int (D-E)):=(F0 p q).trans rfl
theorem jc{c:Int}(p:G r=sd (.int D))(q:u r=sd (.int E))(e:N4 (.int D) (.int E)=sd (.int c)):t6 N4 G u r=sd (.int c):=(F0 p q).trans e
theorem a0J(p:G r=sd (.int D)):A8 (t6 xV G (fC (.int 0))) r=U (decide (0<D)):=by delta A8;rw[F0 (y:=.dat (.int 0)) p rfl];rfl
theorem Yt{Fc:DV}{x y:PV}(p:G r=U x)(q:u r=U y)(e:Fc r=U g):x9 (f7 G (f7 u (f7 Fc u3))) r=sd (.tuple [x.d,y.d,g.d]):=by delta x9;rw[gI p q e];rfl
theorem UZ{pv:PV}(h:G r=U pv)(u:r[m]? = U (U (.own A)))(v:A.length<1000)(w:r.set m (U (.own (A++[pv.d])))=X):dg m G r=U (.next X):=by rw[fP,h,pB pv u (qI v f5),w]
theorem ND{Fb Fc a:Ds->Option PV}{x y:PV}(c:c5 r=U x)(e:Fb r=U y)(b:Fc r=U g)(hd:a r=U R):f7 c5 (f7 Fb (f7 Fc (f7 a u3))) r=U [x.d,y.d,g.d,R.d]:=by unfold f7;rw[c,x5,e,x5,b,x5,hd,x5];rfl
theorem DZ{Fb Fc f Fe:Ds->Option PV}{c d e:PV}(a:c5 r=U g)(j:Fb r=U R)(i:Fc r=U c)(hd:f r=U d)(h:Fe r=U e):f7 c5 (f7 Fb (f7 Fc (f7 f (f7 Fe u3)))) r=U [g.d,R.d,c.d,d.d,e.d]:=by unfold f7;rw[a,x5,j,x5,i,x5,hd,x5,h,x5];rfl
theorem pj{T:Ds->Option Bool}{A B:Ds->Option Out}{b:Bool}{r:Option Out}(h:T X=U b)(hr:(if b=Uf then A X else B X)=r):P5 T A B X=r:=by unfold P5;rw[h];exact hr
theorem JI{t:Int}(o:a8.length<=63)(t0:0<=t)(t1:t<4)(f:0<=D)(e:D<=1000)(m n:Option PV)(L:List p9)(hL:L.length<1000)(I x7 x8:Option PV)(r:Ds):
  ∃h:Hr,Ki h/\∃P C Y,ll (sd (Y3 a8)::m::iD D::n::U (.own L)::iD t::I::x7::x8::r)=U (.next (sd (Y3 a8)::m::iD D::n::U (.own (L++[y6 h]))::iD t::P::C::Y::r)):=by
 have b:=λ(j m) (h0:0<=j) (h1:j<100) (y:0<m)=>Q6 (k:=100+10*t+j) o r9 r9 y
 obtain⟨Z,M,p0,q0⟩:=Q6 (k:=100+10*t) (m:=3) o r9 r9 f5;obtain⟨d1,x,p1,q1⟩:=b 1 27 f5 f5 f5;obtain⟨N,Q,p3,q3⟩:=b 3 27 f5 f5 f5;obtain⟨A,X,u2,O⟩:=b 2 13 f5 f5 f5;obtain⟨W,T,G,K⟩:=b 4 13 f5 f5 f5;obtain⟨s,p,B,R⟩:=b 5 13 f5 f5 f5;obtain⟨g,u,F,E⟩:=b 6 13 f5 f5 f5;obtain⟨V,H⟩:=mO f e u2 O;obtain⟨z,S⟩:=mO f e G K;obtain⟨l,i⟩:=mO f e B R;obtain⟨w,v⟩:=mO f e F E;have mu:N4 (.int 10) (.int t)=sd (.int (10*t)):=C4 Bt.lit (Bt.pW r9 (aK s9 f5));have go:∀(q:Option (Int×Int×Int×Int)) (C Y:Option PV) (G:DO),C=sd (xQ q)->G (sd (Y3 a8)::m::iD D::n::U (.own L)::iD t::iD (100+10*t)::sd .none::x8::r)=U (.next (sd (Y3 a8)::m::iD D::n::U (.own L)::iD t::iD (100+10*t)::C::Y::r)) ->
   t7 (u6 6 (t6 A9 (fC (.int 100)) (t6 N4 (fC (.int 10)) (q9 5)))) (t7 (u6 7 (fC .none)) (t7 G (dg 4 (x9 (f7 (t6 N4 (q9 2) (q5 B7 (f7 (q9 0) (f7 (t6 A9 (q9 6) (fC (.int 5))) (f7 (fC (.int 13)) u3))))) (f7 (t6 N4 (q9 2) (q5 B7 (f7 (q9 0) (f7 (t6 A9 (q9 6) (fC (.int 6))) (f7 (fC (.int 13)) u3))))) (f7 (q9 7) u3))))))) (sd (Y3 a8)::m::iD D::n::U (.own L)::iD t::I::x7::x8::r)=U (.next (sd (Y3 a8)::m::iD D::n::U (.own (L++[y6 ⟨D*s,D*g,q⟩]))::iD t::iD (100+10*t)::C::Y::r)):=λq C Y G hq hG=>by subst hq;exact t9 (w5 (eU rfl (jc rfl rfl mu)) rfl) (t9 (w5 (pv:=.dat .none) rfl rfl) (t9 hG (UZ (Yt (jc rfl (iJ rfl (eU rfl rfl) rfl p) l) (jc rfl (iJ rfl (eU rfl rfl) rfl u) w) rfl) rfl hL rfl)))
 by_cases c:0<Z;refine⟨⟨D*s,D*g,U (d1-6,D*A,N-6,D*W)⟩,⟨i,v,λ_ _ _ _ h=>by cases h;exact⟨by lia,H,by lia,S⟩⟩,_,_,_,go _ _ (sd (.tuple [.int (d1-6),.int (D*A)])) _ rfl (pj (a0J (iJ rfl rfl rfl M)) ((f9 (fW c)).trans ?_))⟩;refine t9 (w5 (pv:=.dat (.tuple [.int (d1-6),.int (D*A)])) (qu (IA (iJ rfl (eU rfl rfl) rfl x) rfl) (jc rfl (iJ rfl (eU rfl rfl) rfl X) V)) rfl) (w5 (pv:=.dat (xQ (U (d1-6,D*A,N-6,D*W)))) ((F0 rfl (qu (IA (iJ rfl (eU rfl rfl) rfl Q) rfl) (jc rfl (iJ rfl (eU rfl rfl) rfl T) z))).trans ?_) rfl);exact DY B3;refine⟨⟨D*s,D*g,J⟩,⟨i,v,λ_ _ _ _ h=>by exact nE h⟩,_,_,_,go J _ x8 _ rfl (pj (a0J (iJ rfl rfl rfl M)) ((f6 (by rw[aM c];decide)).trans rfl))⟩
theorem JH{ns:List Int}{t n:Int}(e:ns.length<=63)(V:1<=n)(Q:n<=4)(T:0<=t)(N:t<2)(j:0<=D)(r:D<=1000)(m q p b x7 x8 l d c g f:Option PV)(L:List p9)(S:L.length<1000):
  ∃w:Wk,Ke n w/\∃y h i,lj [sd (Y3 ns),m,iD D,iD n,q,p,b,x7,x8,l,d,c,U (.own L),iD t,g,f]=U (.next [sd (Y3 ns),m,iD D,iD n,q,p,y,x7,x8,l,d,c,U (.own (L++[O2 w])),iD t,h,i]):=by
 obtain⟨a,u,E,q0⟩:=Q6 (ns:=ns) (k:=20+10*t) (m:=n) e r9 r9 s9;obtain⟨d1,v,R,O⟩:=Q6 (k:=20+10*t+1) (m:=n-a) e r9 r9 z9;obtain⟨B,I,u2,x⟩:=Q6 (k:=20+10*t+2) (m:=13) e r9 r9 f5;obtain⟨o,F,G,P⟩:=Q6 (k:=20+10*t+3) (m:=9) e r9 r9 f5;obtain⟨H,C⟩:=mO j r u2 x;obtain⟨K,A⟩:=mO j r G (show o<13 by exact aK s9 f5)
 have M:∃z,D5 (.str "ab") (.int t)=sd (.str ⟨.mk [z]⟩):=by
  have:t=0\/t=1:=by lia
  rcases this with rfl|rfl<;>exact⟨_,rfl⟩
 obtain⟨z,hz⟩:=M;have s:A9 (.str "w") (.str ⟨.mk [z]⟩)=sd (.str ("w"++⟨.mk [z]⟩)):=TH (by show 1+1<=1000000;decide);have mu:N4 (.int 10) (.int t)=sd (.int (10*t)):=C4 Bt.lit (Bt.pW r9 (aK s9 f5));refine⟨⟨"w"++⟨.mk [z]⟩,D*B,a,a+d1,D*o⟩,⟨C,E,by show a<=a+d1;lia,by show a+d1<n;lia,A⟩,_,_,_,t9 (w5 (eU rfl (jc rfl rfl mu)) rfl) (t9 (w5 (iJ rfl rfl rfl u) rfl) (t9 (w5 (eU rfl (iJ rfl (eU rfl rfl) (IA rfl rfl) v)) rfl) (UZ (pv:=.dat (O2 ⟨"w"++⟨.mk [z]⟩,D*B,a,a+d1,D*o⟩)) ?_ rfl S rfl)))⟩;delta x9 qx;rw[DZ ((F0 rfl ((F0 (x:=.dat (.str "ab")) (y:=.dat (.int t)) rfl rfl).trans hz)).trans s) (jc rfl (iJ rfl (eU rfl rfl) rfl I) H) (c:=.dat (.int a)) rfl (d:=.dat (.int (a+d1))) rfl (jc rfl (iJ rfl (eU rfl rfl) rfl F) K)];rfl
abbrev qS(ns:List Int)(f b k:Int)(l:List p9)(a c d e g h i j m n o:Option PV):Ds:=[sd (Y3 ns),iD f,iD b,iD k,U (.own l),a,c,d,e,g,h,i,j,m,n,o]
theorem ixl(h:aS A D=U S):D5 (.list A) (.int D)=sd S:=by rw[Df,h];rfl
theorem SE(d:a8.length<=63)(m0:1<=D)(m1:D<=3):∃h:y7,mf [Y3 a8,.int D]=U (.dat (u5 h))/\vB h:=by
 obtain⟨A,eb,b0',b1'⟩:=Q6 (k:=0) (m:=6) d (by decide) (by decide) (by decide)
 obtain⟨b,hb,L,K⟩:∃b:Int,aS [Z0 1,.int 1,.int 1,.int 1,.int 1,.int 997] A=U (.int b)/\0<=b/\b<=1000:=by
  have:A=0\/A=1\/A=2\/A=3\/A=4\/A=5:=by lia
  rcases this with rfl|rfl|rfl|rfl|rfl|rfl<;>exact⟨_,rfl,by decide,by decide⟩
 obtain⟨n',en,n0',n1'⟩:=Q6 (k:=1) (m:=D) d (by decide) (by decide) (by exact s9);obtain⟨n,hn⟩:∃n:Int,n=1+n':=⟨_,rfl⟩;obtain⟨sv,es,s0,s1⟩:=Q6 (k:=2) (m:=13) d (by decide) (by decide) (by decide);obtain⟨I,bs⟩:=mO L K s0 s1;obtain⟨sz,T⟩:∃z:Int,z=b*sv:=⟨_,rfl⟩;rw[<-T]at I bs;obtain⟨H,et,t0',t1'⟩:=Q6 (k:=3) (m:=sz+1) d (by decide) (by decide) (by lia);obtain⟨wh,W,wh0,wh1⟩:=Q6 (k:=4) (m:=3) d (by decide) (by decide) (by decide)
 obtain⟨l,hst,t0,t1⟩:∃s:Int,aS [Z0 0,.int sz,.int H] wh=U (.int s)/\0<=s/\s<=sz:=by
  have:wh=0\/wh=1\/wh=2:=by lia
  rcases this with rfl|rfl|rfl
  exact⟨0,rfl,by decide,bs.1⟩;exact⟨sz,rfl,bs.1,by lia⟩;exact⟨H,rfl,t0',by lia⟩
 obtain⟨S,ef,f0,f1⟩:=Q6 (k:=5) (m:=13) d (by decide) (by decide) (by decide);obtain⟨ef',bf⟩:=mO L K f0 f1;obtain⟨R,eg,g0,g1⟩:=Q6 (k:=6) (m:=13) d (by decide) (by decide) (by decide);obtain⟨eg',bg⟩:=mO L K g0 g1;obtain⟨P,X,Y,Z⟩:=BW (k:=7) d (by decide) (by decide);obtain⟨lf,elf,V,slf⟩:=BW (k:=9) d (by decide) (by decide);obtain⟨r,er,r0,r1⟩:=Q6 (k:=11) (m:=13) d (by decide) (by decide) (by decide);obtain⟨w,ew,w0,w1⟩:=Q6 (k:=12) (m:=3) d (by decide) (by decide) (by decide)
 have g1':∀m:Nat,m<=1000->O4 [.int m]=U (ax 0 m):=λm a=>by rw[bI (by lia),fY]
 obtain⟨k,rfl⟩:∃k:Nat,n=k:=⟨n.toNat,by lia⟩;obtain⟨u,rfl⟩:∃u:Nat,w=u:=⟨w.toNat,by lia⟩
 obtain⟨ds',h1,⟨c,j,p,f,g,B,C,rfl⟩⟩:=nR (gt:=K5 5) (G:=ll) (lo:=0) (n:=k) (ds:=(qS a8 D b k [] J J J J J J J J J J J))
  (λi y=>∃E:List Hr,E.length=i/\(∀x∈E,Ki x)/\∃f g B C,y=(qS a8 D b k (E.map y6) f g B C J J J J J J J))
  ⟨[],rfl,by simp,J,J,J,J,rfl⟩ (by
   rintro i y hi ⟨E,j,p,f,g,B,C,rfl⟩;obtain⟨h,hh,Q,z7,z8,e⟩:=JI (t:=0+i) d (by exact Fm _) (by lia) L K (iD D) (iD k) (E.map y6) (by simp;lia) g B C [J,J,J,J,J,J,J];refine⟨_,_,rfl,.inl e,E++[h],by simp[j],?_,iD (0+i),Q,z7,z8,by rw[Z2];rfl⟩
   intro x a;rcases List.mem_append.mp a with a|a
   exact p x a
   . simp at a;subst a;exact hh)
 obtain⟨ds',h2,⟨M,o,q,Q,z13,N,G,rfl⟩⟩:=nR (gt:=K5 13) (G:=lj) (lo:=0) (n:=u) (ds:=(qS a8 D b k (c.map y6) f g B C (iD sz) (iD l) (sd (.tuple [.int sz,.int l,.int (b*S),.int (b*R),fr P,fr lf,.int r])) (U (.own [])) J J J))
  (λi y=>∃F:List Wk,F.length=i/\(∀x∈F,Ke k x)/\∃g O v u,y=(qS a8 D b k (c.map y6) f g B C (iD sz) (iD l) (sd (.tuple [.int sz,.int l,.int (b*S),.int (b*R),fr P,fr lf,.int r])) (U (.own (F.map O2))) O v u))
  ⟨[],rfl,by simp,g,J,J,J,rfl⟩ (by
   rintro i y hi ⟨F,o,q,g,O,v,u,rfl⟩;obtain⟨w,hw,Q,N,G,e⟩:=JH (n:=k) (t:=0+i) d (by lia) (by lia) (by lia) (by lia) L K (iD D) (U (.own (c.map y6))) f g B C (iD sz) (iD l) (sd (.tuple [.int sz,.int l,.int (b*S),.int (b*R),fr P,fr lf,.int r])) v u (F.map O2) (by simp;lia);refine⟨_,_,rfl,.inl e,F++[w],by simp[o],?_,Q,iD (0+i),N,G,by rw[Z2];rfl⟩
   intro x a;rcases List.mem_append.mp a with a|a
   exact q x a
   . simp at a;subst a;exact hw)
 refine⟨⟨c,sz,l,b*S,b*R,P,lf,r,M⟩,L5 rfl ?_,⟨p,by show 1<=c.length;lia,by show c.length<=3;lia,bs,⟨t0,by show l<=12000;lia⟩,t1,bf,bg,Y,V,Z,slf,⟨r0,by show r<=1000;lia⟩,λx a=>by rw[j];exact q x a,by show M.length<=2;lia⟩⟩;refine t9 (w5 (pv:=.dat (.int b)) ((F0 (x:=.own [.int 1,.int 1,.int 1,.int 1,.int 1,.int 997]) (y:=.dat (.int A)) rfl (iJ rfl rfl rfl eb)).trans (ixl hb)) rfl) ?_;refine t9 (w5 (pv:=.dat (.int k)) ((eU rfl (iJ rfl rfl rfl en)).trans (by rw[<-hn])) rfl) ?_;refine t9 (ds1:=(qS a8 D b k [] J J J J J J J J J J J)) rfl ?_;refine t9 (ds1:=(qS a8 D b k (c.map y6) f g B C J J J J J J J)) (by delta G7;rw[show F3 O4 (f7 (q9 3) u3) (qS a8 D b k [] J J J J J J J J J J J)=U (ax 0 k)from g1' k (by lia)];exact h1) ?_;refine t9 (w5 (pv:=.dat (.int sz)) (jc rfl (iJ rfl rfl rfl es) I) rfl) ?_;refine t9 (w5 (pv:=.dat (.int l)) ((F0 (x:=.own [.int 0,.int sz,.int H]) (y:=.dat (.int wh)) (by delta N9 M7;rw[gI (x:=.dat (.int 0)) (y:=.dat (.int sz)) rfl rfl (iJ rfl rfl (eU rfl rfl) et)];rfl) (iJ rfl rfl rfl W)).trans (ixl hst)) rfl) ?_;refine t9 (w5 (pv:=.dat (.tuple [.int sz,.int l,.int (b*S),.int (b*R)])) (by delta x9 qy;rw[ND (x:=.dat (.int sz)) (y:=.dat (.int l)) rfl rfl (jc rfl (iJ rfl rfl rfl ef) ef') (jc rfl (iJ rfl rfl rfl eg) eg')];rfl) rfl) ?_
 refine t9 (w5 (pv:=.dat (.tuple [.int sz,.int l,.int (b*S),.int (b*R),fr P,fr lf,.int r])) ((F0 (x:=.dat (.tuple [.int sz,.int l,.int (b*S),.int (b*R)])) rfl (Yt (x:=.dat (fr P)) (y:=.dat (fr lf)) (A4 rfl rfl X) (A4 rfl rfl elf) (iJ rfl rfl rfl er))).trans (DY B3)) rfl) ?_;refine t9 (ds1:=(qS a8 D b k (c.map y6) f g B C (iD sz) (iD l) (sd (.tuple [.int sz,.int l,.int (b*S),.int (b*R),fr P,fr lf,.int r])) (U (.own [])) J J J)) rfl ?_;refine t9 (ds1:=(qS a8 D b k (c.map y6) f Q B C (iD sz) (iD l) (sd (.tuple [.int sz,.int l,.int (b*S),.int (b*R),fr P,fr lf,.int r])) (U (.own (M.map O2))) z13 N G)) (by
  delta G7;rw[show F3 O4 (f7 (q5 B7 (f7 (q9 0) (f7 (fC (.int 12)) (f7 (fC (.int 3)) u3)))) u3) (qS a8 D b k (c.map y6) f g B C (iD sz) (iD l) (sd (.tuple [.int sz,.int l,.int (b*S),.int (b*R),fr P,fr lf,.int r])) (U (.own [])) J J J)=U (ax 0 u)from by
   show(((B7 [Y3 a8,.int 12,.int 3]).bind λx=>U [x.d]).bind O4)=_
   rw[ew];exact g1' u (by lia)]
  exact h2) rfl
noncomputable def hU(k:Int)(x:Hr):Hr:=⟨k*x.ck,k*x.need,x.line.map λl=>(l.1,k*l.2.1,l.2.2.1,k*l.2.2.2)⟩
noncomputable def tm(k:Int)(w:Wk):Wk:=⟨w.name,k*w.K4,w.first,w.last,k*w.most⟩
noncomputable def vI(k:Int)(h:y7):y7:=⟨h.hs.map (hU k),k*h.size,k*h.start,k*h.fill,k*h.take,h.kept,h.left,h.rest,h.ws.map (tm k)⟩
theorem getD_map{f:a2->a2}{d:a2}(l:List a2)(hd:f d=d)(t:Nat):(l.map f).getD t d=f (l.getD t d):=by
 rw[aN,aN,L1];cases l[t]? with
 |none=>exact hd.symm
 |some a=>rfl
theorem xq(t:Nat):(vI D d).hs.getD t G9=hU D (d.hr t):=getD_map _ (by show hU D ⟨0,0,J⟩=⟨0,0,J⟩;unfold hU;rw[R9];rfl) t
theorem xp(t:Nat):(vI D d).ws.getD t U1=tm D (d.wk t):=getD_map _ (by show tm D ⟨_,0,0,0,0⟩=⟨_,0,0,0,0⟩;unfold tm;rw[R9]) t
theorem gD:(vI D d).hs.length=d.n/\(vI D d).ws.length=d.w:=⟨C5 _,C5 _⟩
theorem YN:sJ (D:Rat) d (vI D d):=by
 have m:∀a:Int,((D*a:Int):Rat)=a*D:=λa=>by rw[J5,jo]
 refine⟨gD.1,gD.2,λt=>by rw[xq];exact m _,λt=>by rw[xq];exact m _,λt=>?_,m _,m _,m _,m _,rfl,rfl,rfl,λj=>by rw[xp];exact m _,λj=>by rw[xp];exact m _,λj=>by rw[xp];exact⟨rfl,rfl⟩⟩
 rw[xq];unfold hU;cases(d.hr t).line with
 |none=>exact .inl ⟨rfl,rfl⟩
 |some l=>exact .inr ⟨l.1,l.2.1,l.2.2.1,l.2.2.2,_,_,rfl,rfl,m _,m _⟩
theorem Uu{k:Int}(O:vB d)(v:1<=k)(s:k<=50):G5 (vI k d):=by
 have sc:∀{a:Int},0<=a->a<=12000->0<=k*a/\k*a<=1000000:=λ{a} n r=>by
  refine⟨fz (by exact T7 s9) n,?_⟩;exact aK (yP s r n (by decide)) (by decide)
 have hr:∀t,t<d.hs.length->Ki (d.hs.getD t G9):=λt f=>O.hs _ (by rw[aN,L3 f];exact qU f);have wk:∀t,t<d.ws.length->Ke d.hs.length (d.ws.getD t U1):=λt f=>O.ws _ (by rw[aN,L3 f];exact qU f);refine⟨by rw[gD.1];exact O.h1,by rw[gD.1];have:=O.hl;exact qX s9,by rw[gD.2];exact O.wl,O.kept,O.kp,O.left,O.lf,⟨(sc O.start.1 O.start.2).1,jt O.full (by exact T7 s9),(sc O.size.1 O.size.2).2⟩,sc O.fill.1 O.fill.2,sc O.take.1 O.take.2,O.rest,λt f=>?_,λt a b c h f q=>?_,λj g=>?_,λj g=>?_⟩;rw[gD.1]at f;rw[xq];have x:=hr t f;have a:=sc x.ck.1 x.ck.2;have b:=sc x.need.1 x.need.2;exact⟨a.1,a.2,b.1,b.2⟩;rw[gD.1]at f;rw[xq]at q;obtain⟨l,e,u⟩:=Option.map_eq_some_iff.mp (show(d.hs.getD t G9).line.map (λl=>(l.1,k*l.2.1,l.2.2.1,k*l.2.2.2))=U (a,b,c,h)from q);obtain⟨p,y,o,B⟩:=l;cases u;obtain⟨z,i,A,m⟩:=(hr t f).line _ _ _ _ e;exact⟨by show -1000<=p/\p<=1000;lia,sc i.1 i.2,by show -1000<=o/\o<=1000;lia,sc m.1 m.2⟩;rw[gD.2]at g;rw[xp];have w:=wk j g;have a:=sc w.K4.1 w.K4.2;have b:=sc w.most.1 w.most.2;exact⟨a.1,a.2,b.1,b.2⟩;rw[gD.2]at g;rw[xp,gD.1];have w:=wk j g;exact⟨w.first,w.fl,w.last⟩
theorem YO:vI 1 d=d:=by
 have a:hU 1=id:=funext λx=>by obtain⟨s,n,l⟩:=x;unfold hU;cases l<;>simp
 have b:tm 1=id:=funext λx=>by obtain⟨s,n,l,m,o⟩:=x;unfold tm;simp
 unfold vI
 simp_all
theorem Ld(O:vB d)(P:1<=D)(N:D<=50):gd [u5 d,.int D]=sd (u5 (vI D d)):=by
 have m:∀{a:Int},0<=a/\a<=12000->N4 (.int D) (.int a)=sd (.int (D*a)):=λo=>C4 (Bt.pW r9 (zh s9 f5)) (Bt.pW r9 r9)
 have:=O.hl;have:=O.wl;obtain⟨H,K,j,g,f,r⟩:=cM (gt:=Y8 3 (C2 3 (C2 4 (C2 5 Y9)))) (G:=oU)
  (λi e=>∃j g f,e=[sd (u5 d),sd (.int D),U (.own ((d.hs.take i).map λx=>y6 (hU D x))),j,g,f,J,J]) ⟨J,J,J,rfl⟩ (by
   rintro i h e q ⟨j,g,f,rfl⟩;have p:i<d.n:=by
    have:=(List.getElem?_eq_some_iff.mp q).1
    rwa [C5]at this
   have z:h=y6 d.hs[i]:=by rw[L1,L3 p]at q;exact(V0 q).symm
   have X:=O.hs _ (qU p);have F:d.hs.take (i+1)=d.hs.take i++[d.hs[i]]:=by simp
   have v:((d.hs.take i).map λx=>y6 (hU D x)).length<1000000:=by rw[C5,jH];lia
   rw[F,Z2];subst z;generalize d.hs[i]=x at *;generalize (d.hs.take i).map (λx=>y6 (hU D x))=L at *
   obtain⟨s,n,l⟩:=x;have t:=m X.ck;have u:=m X.need;cases l with
   |none =>
    refine⟨[sd (u5 d),sd (.int D),U (.own L),sd (.int s),sd (.int n),sd .none,J,J],_,rfl,.inl (show _=U (Out.next [sd (u5 d),sd (.int D),U (.own (L++[y6 (hU D ⟨s,n,J⟩)])),sd (.int s),sd (.int n),sd .none,J,J])from ?_),_,_,_,rfl⟩;refine t9 rfl ?_;rw[fP];delta x9 M7;rw[gI ((F0 (x:=.dat (.int D)) (y:=.dat (.int s)) rfl rfl).trans t) ((F0 (x:=.dat (.int D)) (y:=.dat (.int n)) rfl rfl).trans u) rfl];exact fo (.dat (y6 (hU D ⟨s,n,J⟩))) rfl v
   |some l =>
    obtain⟨a,b,c,h⟩:=l;obtain⟨_,A,_,k⟩:=X.line a b c h rfl;refine⟨[sd (u5 d),sd (.int D),U (.own L),sd (.int s),sd (.int n),sd (.tuple [.int a,.int b,.int c,.int h]),J,J],_,rfl,.inl (show _=U (Out.next [sd (u5 d),sd (.int D),U (.own (L++[y6 (hU D ⟨s,n,U (a,b,c,h)⟩)])),sd (.int s),sd (.int n),sd (.tuple [.int a,.int (D*b),.int c,.int (D*h)]),J,J])from ?_),_,_,_,rfl⟩;refine t9 (pj rfl (w5 (pv:=.dat (.tuple [.int a,.int (D*b),.int c,.int (D*h)])) ?_ rfl)) ?_;delta x9 qy;rw[ND rfl ((F0 (x:=.dat (.int D)) (y:=.dat (.int b)) rfl rfl).trans (m A)) rfl ((F0 (x:=.dat (.int D)) (y:=.dat (.int h)) rfl rfl).trans (m k))];rfl
    . rw[fP];delta x9 M7;rw[gI ((F0 (x:=.dat (.int D)) (y:=.dat (.int s)) rfl rfl).trans t) ((F0 (x:=.dat (.int D)) (y:=.dat (.int n)) rfl rfl).trans u) rfl];exact fo (.dat (y6 (hU D ⟨s,n,U (a,b,c,h)⟩))) rfl v)
 rw[C5,uA]at r;have B:∀e:Ds,e[0]? = U (sd (u5 d))->e[1]? = U (sd (.int D))->y9 (J9 (eD gC (t6 D5 (q9 0) (fC (.int 1))) dS (P9 (fC (.int 4))))) A1 z0 oR e=U (.own ([d.size,d.start,d.fill,d.take].map λa=>Z0 (D*a))):=λe C M=>by
  have E:q9 0 e=sd (u5 d):=by unfold q9;rw[C]
  refine X7 ?_ (by show 4<=1000000;decide) (comp_map λa o=>⟨.dat (.int (D*a)),(F0 (x:=.dat (.int D)) (y:=.dat (.int a)) ?_ rfl).trans (m ?_),rfl⟩);unfold J9 eD t6;rw[E];rfl;show q9 1 e=_;unfold q9;rw[M]
  . simp only[T8,cA,az]at o;rcases o with rfl|rfl|rfl|rfl
    exact O.size;exact O.start;exact O.fill;exact O.take
 refine L5 rfl ?_;refine t9 rfl ?_;refine t9 (ds1:=[sd (u5 d),sd (.int D),U (.own (d.hs.map λx=>y6 (hU D x))),j,g,f,J,J]) (by rw[<-r];exact K) ?_;refine t9 (w5 ((F0 (x:=.dat (.tuple [.int (D*d.size),.int (D*d.start),.int (D*d.fill),.int (D*d.take)])) ?_ rfl).trans rfl) rfl) ?_;delta q5 C3 f7;rw[B _ rfl rfl];rfl;refine t9 (w5 (pv:=.own (d.ws.map λw=>O2 (tm D w))) ?_ rfl) ?_;exact X7 rfl (by rw[C5]; exact FC s9) (comp_map λw I => ⟨.dat (O2 (tm D w)), by have W:=O.ws w I;delta oQ x9 qx;rw[DZ rfl ((F0 (x:=.dat (.int D)) (y:=.dat (.int w.K4)) rfl rfl).trans (m W.K4)) rfl rfl ((F0 (x:=.dat (.int D)) (y:=.dat (.int w.most)) rfl rfl).trans (m W.most))];rfl,rfl⟩);refine aQ ?_;unfold u5 vI;simp only[cW];rfl
theorem Ti(l:List a2)(k:Nat):cutD l (U (k:Int)) J=l.drop k:=by
 unfold cutD HT.N8;simp only[show ¬(k:Int)<0 by simp[*],if_false,fY];by_cases h:k<=l.length;rw[Nat.min_eq_left h];exact FG (by rw[uB];simp[*]);rw[Nat.min_eq_right r9,za,FH r9];simp
theorem Th{l:List a2}:cutD l J (U (m:Int))=l.take m:=by
 show(l.drop 0).take (min m l.length-0)=_;rw[List.drop_zero,Nat.sub_zero,<-List.take_eq_take_min]
theorem Bg{m:List p9}(h:A.length+m.length<=1000000):A9 (.tuple A) (.tuple m)=sd (.tuple (A++m)):=f9 h
theorem BV(f:Int){Fb:Ds->Option PV}(b:c5 r=sd (.int f))(d:Fb r=sd (.int (m:Int))):t6 A9 c5 (q5 intD (f7 (t6 xY c5 Fb) u3)) r=sd (.int (f+(if (m:Int)<=f then 1 else 0))):=by
 have g:t6 xY c5 Fb r=sd (.bool (decide (m<=f))):=(F0 b d).trans rfl;have i:q5 intD (f7 (t6 xY c5 Fb) u3) r=sd (.int (if m<=f then 1 else 0)):=by
  delta q5 C3 f7;rw[g];by_cases c:m<=f;rw[fW c,f9 c];rfl;rw[aM c,f6 c];rfl
 exact(F0 b i).trans rfl
theorem Xt(O:vB d)(I:m<=d.n):(Clear m d/\ej [u5 d,.int (m:Int)]=sd (u5 (D9 m d)))\/ej [u5 d,.int (m:Int)]=sd .none:=by
 have:=O.hl;have:=O.wl;have v:t6 A9 (t6 A9 (eD gC (t6 D5 (q9 0) (fC (.int 0))) dS (P9 (q9 1))) (x9 (f7 (x9 (f7 (fC (.int 0)) (f7 (fC (.int 0)) (f7 (fC .none) u3)))) u3))) (eD gC (t6 D5 (q9 0) (fC (.int 0))) (P9 (q9 1)) dS) [sd (u5 d),sd (.int m),J,J,J,J,J,J,J]=sd (.tuple ((d.hs.map y6).take m++[y6 G9]++(d.hs.map y6).drop m)):=by
  have E:eD gC (t6 D5 (q9 0) (fC (.int 0))) dS (P9 (q9 1)) [sd (u5 d),sd (.int m),J,J,J,J,J,J,J]=sd (.tuple ((d.hs.map y6).take m)):=by
   show U (PV.dat (.tuple (cutD (d.hs.map y6) J (U m))))=_;rw[Th]
  have F:eD gC (t6 D5 (q9 0) (fC (.int 0))) (P9 (q9 1)) dS [sd (u5 d),sd (.int m),J,J,J,J,J,J,J]=sd (.tuple ((d.hs.map y6).drop m)):=by
   show U (PV.dat (.tuple (cutD (d.hs.map y6) (U m) J)))=_;rw[Ti]
  refine(F0 (x:=.dat (.tuple ((d.hs.map y6).take m++[y6 G9]))) ?_ F).trans (Bg (by simp;lia));exact(F0 (y:=.dat (.tuple [y6 G9])) E rfl).trans (Bg (by simp;lia))
 rcases JN (gt:=Y8 5 (C2 4 (C2 5 (C2 6 (C2 7 (C2 8 Y9)))))) (G:=jY)
  (λi=>(d.ws.getD i U1).last<m\/m<=(d.ws.getD i U1).first) (.dat .none) (λi u=>∃b n a g o,u=[sd (u5 d),sd (.int m),sd (.tuple ((d.hs.map y6).take m++[y6 G9]++(d.hs.map y6).drop m)),U (.own ((d.ws.take i).map λw=>O2 (sy m w))),b,n,a,g,o]) ⟨J,J,J,J,J,rfl⟩ (by
   rintro i h u q ⟨b,n,a,g,o,rfl⟩;have s:i<d.w:=by
    have:=(List.getElem?_eq_some_iff.mp q).1
    rwa [C5]at this
   have H:h=O2 d.ws[i]:=by rw[L1,L3 s]at q;exact(V0 q).symm
   have z:d.ws.take (i+1)=d.ws.take i++[d.ws[i]]:=by simp
   have D:d.ws.getD i U1=d.ws[i]:=by rw[aN,L3 s];rfl
   have B:((d.ws.take i).map λw=>O2 (sy m w)).length<1000000:=by rw[C5,jH];lia
   rw[z,Z2,D];subst H;generalize d.ws[i]=x at *;generalize (d.ws.take i).map (λw=>O2 (sy m w))=L at *
   generalize (d.hs.map y6).take m++[y6 G9]++(d.hs.map y6).drop m=M at *;obtain⟨k,am,f,l,p⟩:=x;refine⟨[sd (u5 d),sd (.int m),sd (.tuple M),U (.own L),sd (.str k),sd (.int am),sd (.int f),sd (.int l),sd (.int p)],rfl,?_⟩;have t:A8 (nW sD HE (q9 6) (q9 1) (q9 7)) [sd (u5 d),sd (.int m),sd (.tuple M),U (.own L),sd (.str k),sd (.int am),sd (.int f),sd (.int l),sd (.int p)]=U (decide (f<m)&&decide (m<=l)):=by
    show((if decide (f<m)=Uf then HE (.int m) (.int l)else U (PV.dat (.bool U'))).bind λx=>Il x.d)=_;by_cases c:f<m;rw[fW c,f9 rfl];rfl;rw[aM c];rfl
   unfold jY;by_cases c:f<m/\m<=l;refine .inr ⟨by show ¬(l<m\/m<=f);lia,?_⟩;rw[A5,pj (r:=U (.ret (.dat .none))) t (by rw[fW c.1,fW c.2];rfl)];rfl
   . refine .inl ⟨by show l<m\/m<=f;lia,_,?_,sd (.str k),sd (.int am),sd (.int f),sd (.int l),sd (.int p),rfl⟩;refine t9 (pj t ((f6 ?_).trans rfl)) ?_;rw[qV,qW,qW];exact c
     . rw[fP];delta x9 qx;rw[DZ rfl rfl (BV f rfl rfl) (BV l rfl rfl) rfl];exact fo (.dat (O2 (sy m ⟨k,am,f,l,p⟩))) rfl B)with ⟨C,ds',h1,b,n,a,g,o,e1⟩|⟨_,h1⟩
 refine .inl ⟨λj A=>C j (by rw[C5];exact A),?_⟩;rw[C5,uA]at e1;refine L5 rfl ?_;refine t9 (w5 v rfl) ?_;refine t9 rfl ?_;refine t9 (ds1:=[sd (u5 d),sd (.int m),sd (.tuple ((d.hs.map y6).take m++[y6 G9]++(d.hs.map y6).drop m)),U (.own (d.ws.map λw=>O2 (sy m w))),b,n,a,g,o]) (by rw[<-e1];exact h1) ?_;refine aQ ?_;show U (PV.dat (.tuple [.tuple ((d.hs.map y6).take m++[y6 G9]++(d.hs.map y6).drop m),M6 d,.tuple (d.ws.map λw=>O2 (sy m w))]))=sd (.tuple [.tuple ((d.hs.take m++G9::d.hs.drop m).map y6),M6 d,.tuple ((d.ws.map (sy m)).map O2)]);rw[cW,Z2,C7,List.map_take,List.map_drop,EU];rfl;refine .inr ?_;refine L5 rfl ?_;refine t9 (w5 v rfl) ?_;refine t9 (ds1:=[sd (u5 d),sd (.int m),sd (.tuple ((d.hs.map y6).take m++[y6 G9]++(d.hs.map y6).drop m)),U (.own []),J,J,J,J,J]) rfl ?_;have e:G7 (J9 (t6 D5 (q9 0) (fC (.int 2)))) (Y8 5 (C2 4 (C2 5 (C2 6 (C2 7 (C2 8 Y9)))))) jY [sd (u5 d),sd (.int m),sd (.tuple ((d.hs.map y6).take m++[y6 G9]++(d.hs.map y6).drop m)),U (.own []),J,J,J,J,J]=U (.ret (.dat .none)):=h1;rw[A5,e];rfl
theorem kH{g:List p9->Option PV}{x:PV}(ha:c5 r=U x)(e:g [x.d]=b8):q5 g (f7 c5 u3) r=b8:=by delta q5 C3 f7;rw[ha,x5];exact e
abbrev cD(c:Nat->Rat):p9:=.tuple [qd (c 0),qd (c 1),qd (c 2)]
theorem JZ(l:List a2):boolsOf (l.map λ_=>.bool Uf)=U (l.map λ_=>Uf):=by
 induction l with
 |nil=>rfl
 |cons _ _ h=>exact B9 (yH · λs=>U (Uf::s)) h
theorem HU(i:Int):U4 (.int i) (.int i)=sd (.bool Uf):=by rw[nY];simp
theorem YQ(S:FV)(i:Int):mJ S [.int i,.int i]=sd (.bool Uf):=
 L5 rfl (show D4 (t6 U4 (q9 0) (q9 1)) [sd (.int i),sd (.int i)]=_ from aQ (HU i))
theorem VN{b:DO}(h:a7 r=U (.ret g)):t7 a7 b r=U (.ret g):=by rw[A5,h,BY]
theorem Le(h:∀d∈A,b5 [d,d]=sd (.bool Uf))(n:A.length<=1000):mJ b5 [.tuple A,.tuple A]=sd (.bool Uf):=by
 have a:q5 ua (f7 (y9 (F3 av (f7 (q9 0) (f7 (q9 1) u3))) (O6 2) z0 (mU b5)) u3) [sd (.tuple A),sd (.tuple A)]=sd (.bool Uf):=by
  refine kH (X7 (items:=A.map λd=>.tuple [d,d]) (B9 U List.zipWith_self) (by rw[C5];exact B6 n f5) (DJ (f:=λ_=>.bool Uf) λx m=>?_)) ?_;obtain⟨d,g,rfl⟩:=mem_map.1 m;exact⟨[d,d],.dat (.bool Uf),rfl,A4 rfl rfl (h d g),rfl⟩;show(boolsOf _).bind _=_;rw[JZ];simp
 have b:nX (t6 U4 (q5 E2 (f7 (q9 0) u3)) (q5 E2 (f7 (q9 1) u3))) (q5 ua (f7 (y9 (F3 av (f7 (q9 0) (f7 (q9 1) u3))) (O6 2) z0 (mU b5)) u3)) [sd (.tuple A),sd (.tuple A)]=sd (.bool Uf):=by
  delta nX A8;rw[show t6 U4 (q5 E2 (f7 (q9 0) u3)) (q5 E2 (f7 (q9 1) u3)) [sd (.tuple A),sd (.tuple A)]=_ from HU A.length];exact a
 have t:∀x:Bool,gx (.bool x) (.bool x)=sd (.bool U'):=λx=>by cases x<;>rfl
 refine L5 rfl ?_;rw[show S8 [eG A,.tuple A]++D3 (2-2) J=[sd (.tuple A),sd (.tuple A)]from rfl];refine(VN (pj (b:=Uf) rfl (t9 (ds1:=[sd (.tuple A),sd (.tuple A)]) (pj (b:=U') ?_ rfl) (aQ b))));delta sH A8;rw[show t6 gx (T4 "tuple" (q9 0)) (T4 "tuple" (q9 1)) [sd (.tuple A),sd (.tuple A)]=_ from t Uf,show t6 gx (T4 "list" (q9 0)) (T4 "list" (q9 1)) [sd (.tuple A),sd (.tuple A)]=_ from t U'];rfl
theorem GU(c:Nat->Rat):fE [cD c,cD c]=sd (.bool Uf):=
 Le (λd m=>by
  have q:∀x:Rat,mJ (mJ λ_=>J) [qd x,qd x]=sd (.bool Uf):=λx=>Le (λd m=>by simp only[T8,cA,az]at m;rcases m with rfl|rfl<;>exact YQ _ _) B3
  simp only[T8,cA,az]at m;rcases m with rfl|rfl|rfl<;>exact q _) B3
theorem Ss(ns:List Int)(hl:ns.length<=63):mS [Y3 ns]=sd (.bool Uf):=by
 obtain⟨d13,e13,d130,d131⟩:=Q6 (ns:=ns) (k:=13) (m:=8) hl f5 f5 f5;obtain⟨mo,hmo⟩:∃mo:Int,mo=2+(if decide (d13=0)=Uf then 1 else 0):=⟨_,rfl⟩
 have m2:1<=mo/\mo<=3:=by rw[hmo];split<;>decide
 obtain⟨h,eh,O⟩:=SE hl m2.1 m2.2;have H:G5 h:=by
  have:=Uu O (k:=1) f5 f5
  rwa [YO]at this
 obtain⟨c,ec,B,ok⟩:=rT H;obtain⟨d14,e14,d140,d141⟩:=Q6 (ns:=ns) (k:=14) (m:=49) hl f5 f5 f5;obtain⟨k,hk⟩:∃k:Int,k=2+d14:=⟨_,rfl⟩;have k0:1<=k:=by omega
 have k1:k<=50:=by omega
 obtain⟨c',e',B',_⟩:=rT (Uu O k0 k1);have eq:=YN.best (Rat.intCast_pos.mpr (by exact s9)) B B';have kok:RO (k:Rat):=(lz (D:=1) O7 (by exact aK s9 f5)).ok ⟨by decide,⟨by decide +kernel⟩⟩ f5
 have s1:∀ds:Ds,ds[0]? = U (sd (Y3 ns))->q5 mf (f7 (q9 0) (f7 (t6 A9 (fC (.int 2)) (q5 intD (f7 (t6 U4 (q5 B7 (f7 (q9 0) (f7 (fC (.int 13)) (f7 (fC (.int 8)) u3)))) (fC (.int 0))) u3))) u3)) ds=sd (u5 h):=λds h0=>by
  have v0:q9 0 ds=sd (Y3 ns):=by unfold q9;rw[h0]
  have a:t6 U4 (q5 B7 (f7 (q9 0) (f7 (fC (.int 13)) (f7 (fC (.int 8)) u3)))) (fC (.int 0)) ds=sd (.bool (decide (d13=0))):=(F0 (y:=.dat (.int 0)) (ia (g:=B7) (y:=.dat (.int 13)) (z:=.dat (.int 8)) v0 rfl rfl e13) rfl).trans (nY _ _);refine A4 (x:=.dat (Y3 ns)) (y:=.dat (.int mo)) v0 ?_ eh;rw[hmo];exact(F0 (f:=A9) (x:=.dat (.int 2)) (y:=.dat (.int (if decide (d13=0)=Uf then 1 else 0))) rfl (kH a rfl)).trans rfl
 have s2:∀ds:Ds,ds[0]? = U (sd (Y3 ns))->t6 A9 (fC (.int 2)) (q5 B7 (f7 (q9 0) (f7 (fC (.int 14)) (f7 (fC (.int 49)) u3)))) ds=sd (.int k):=λds h0=>by
  have v0:q9 0 ds=sd (Y3 ns):=by unfold q9;rw[h0]
  rw[hk];exact(F0 (f:=A9) (x:=.dat (.int 2)) rfl (ia (g:=B7) (y:=.dat (.int 14)) (z:=.dat (.int 49)) v0 rfl rfl e14)).trans rfl
 have s4:q5 aV (f7 (y9 (J9 (q9 3)) A1 z0 vD) u3) [sd (Y3 ns),sd (u5 h),sd (.int k),sd (cD c),J,J]=sd (cD c'):=by
  have:y9 (J9 (q9 3)) A1 z0 vD [sd (Y3 ns),sd (u5 h),sd (.int k),sd (cD c),J,J]=U (.own ([c 0,c 1,c 2].map λx=>qd (x*(k:Rat)))):=
   X7 (items:=[c 0,c 1,c 2].map qd) rfl (by show 3<=1000000;decide) (comp_map λx hx=>⟨.dat (qd (x*(k:Rat))),by
    have ox:RO x:=by
     simp only[T8,cA,az]at hx;rcases hx with rfl|rfl|rfl
     exact ok 0 f5;exact ok 1 f5;exact ok 2 f5
    exact A4 (g:=dQ) (x:=.dat (qd x)) (y:=.dat (qd (k:Rat))) rfl rfl (Xm ox kok),rfl⟩)
  refine kH this ?_;show U (PV.dat (.tuple [qd (c 0*k),qd (c 1*k),qd (c 2*k)]))=sd (.tuple [qd (c' 0),qd (c' 1),qd (c' 2)]);rw[eq.1,eq.2.1,eq.2.2]
 have s5:q5 fE (f7 (q5 cE (f7 (q5 gd (f7 (q9 1) (f7 (q9 2) u3))) u3)) (f7 (q9 4) u3)) [sd (Y3 ns),sd (u5 h),sd (.int k),sd (cD c),sd (cD c'),J]=sd (.bool Uf):=
  A4 (g:=fE) (x:=.dat (cD c')) (y:=.dat (cD c')) (kH (A4 (g:=gd) (x:=.dat (u5 h)) (y:=.dat (.int k)) rfl rfl (Ld O k0 k1)) e') rfl (GU c')
 obtain⟨d15,e15,d150,d151⟩:=Q6 (ns:=ns) (k:=15) (m:=(h.n:Int)+1) hl f5 f5 z9;obtain⟨a,rfl⟩:∃a:Nat,d15=(a:Int):=⟨d15.toNat,by omega⟩
 have ha:a<=h.n:=by omega
 have s6:∀{r:p9},ej [u5 h,.int (a:Int)]=sd r->q5 ej (f7 (q9 1) (f7 (q5 B7 (f7 (q9 0) (f7 (fC (.int 15)) (f7 (t6 A9 (q5 E2 (f7 (t6 D5 (q9 1) (fC (.int 0))) u3)) (fC (.int 1))) u3)))) u3)) [sd (Y3 ns),sd (u5 h),sd (.int k),sd (cD c),sd (cD c'),J]=sd r:=λ{r} e=>by
  have l1:q5 E2 (f7 (t6 D5 (q9 1) (fC (.int 0))) u3) [sd (Y3 ns),sd (u5 h),sd (.int k),sd (cD c),sd (cD c'),J]=sd (.int (h.n:Int)):=by
   show E2 [.tuple (h.hs.map y6)]=_;rw[show E2 [.tuple (h.hs.map y6)]=sd (.int ((h.hs.map y6).length:Int))from rfl,C5]
  exact A4 (g:=ej) (x:=.dat (u5 h)) (y:=.dat (.int (a:Int))) rfl (ia (g:=B7) (x:=.dat (Y3 ns)) (y:=.dat (.int 15)) (z:=.dat (.int ((h.n:Int)+1))) rfl rfl ((F0 (f:=A9) (y:=.dat (.int 1)) l1 rfl).trans rfl) e15) e
 have go:∀{r:p9},ej [u5 h,.int (a:Int)]=sd r->Dx (t6 iG (q9 5) (fC .none)) (q5 fE (f7 (q5 cE (f7 (q9 5) u3)) (f7 (q9 3) u3))) [sd (Y3 ns),sd (u5 h),sd (.int k),sd (cD c),sd (cD c'),sd r]=sd (.bool Uf)->mS [Y3 ns]=sd (.bool Uf):=λ{r} e e2=>by
  unfold mS;refine L5 rfl ?_;refine t9 (ds1:=[sd (Y3 ns),sd (u5 h),J,J,J,J]) (w5 (s1 _ rfl) rfl) ?_;refine t9 (ds1:=[sd (Y3 ns),sd (u5 h),sd (.int k),J,J,J]) (w5 (s2 _ rfl) rfl) ?_;refine t9 (ds1:=[sd (Y3 ns),sd (u5 h),sd (.int k),sd (cD c),J,J]) (w5 (pv:=.dat (cD c)) (kH (x:=.dat (u5 h)) rfl ec) rfl) ?_;refine t9 (ds1:=[sd (Y3 ns),sd (u5 h),sd (.int k),sd (cD c),sd (cD c'),J]) (w5 s4 rfl) ?_;refine t9 (ds1:=[sd (Y3 ns),sd (u5 h),sd (.int k),sd (cD c),sd (cD c'),J]) (pj (b:=U') (by unfold Aq A8;rw[s5];rfl) rfl) ?_;exact t9 (w5 (s6 e) rfl) (aQ e2)
 rcases Xt O ha with ⟨C,e⟩|e
 . refine go e ?_;obtain⟨c2,f2,B2,_⟩:=rT (a0F H ha C O.hl);obtain⟨q0,q1,q2'⟩:=SA H ha C B B2;have ce:cD c2=cD c:=by
    show eG [qd (c2 0),qd (c2 1),qd (c2 2)]=_;rw[q0,q1,q2',uk,uk,uk]
   have f2:cE [u5 (D9 a h)]=sd (cD c):=by rw[<-ce];exact f2
   unfold Dx;rw[show A8 (t6 iG (q9 5) (fC .none)) [sd (Y3 ns),sd (u5 h),sd (.int k),sd (cD c),sd (cD c'),sd (u5 (D9 a h))]=U U' from rfl];exact A4 (g:=fE) (x:=.dat (cD c)) (y:=.dat (cD c)) (kH (x:=.dat (u5 (D9 a h))) rfl f2) rfl (GU c)
 exact go e rfl
end Law
local macro_rules|`(tactic|walk_at "c")=>`(tactic|exact⟨rfl,rfl,rfl,by decide +kernel,rfl,by decide +kernel,by decide +kernel⟩)
namespace Law
open PySem L2
variable{P:L9}{w:E1}{base:Heap}{X:Cx}{Z:Nat}{e Q H:Expr}{Y:DL}{p L:Pos}{S I:List Str}{R:eF}{x:Str}{O:TI}{g:TG}{M:List Expr}{G:TE}{E:p9->Option (List p9)}{D:DV}{C:DO}{B:TT}{A:DB}{z:v9}{y:Stmt}{v:Addr}{u:T5}{r:List t2->Prop}
def top(i:Nat):Stmt:=PySem.Challenge.pw_sunstore_k92_whole_scaled_and_idle.main.body.getD i (.Pass ⟨0,0,0,0⟩)
inductive Rw(K:v9)(m n:Str)(s:Stmt)(f:Addr):T5->Prop
 |mk {oc kV dc pm cd ct:t2} {od an:Option Addr} {sl:Array (Option t2)} (l:K.lookup f=U ⟨oc,od,.func (gR m n (iK s) (cj s) (M3 s) .none kV dc pm an cd ct),sl⟩) (c:yS K cd n=Uf) (k:gT K (.ref f)=Uf):Rw K m n s f (gR m n (iK s) (cj s) (M3 s) .none kV dc pm an cd ct)
theorem Uv{n:Str}(r:Rw z x n y v u):uN z x n y v u:=by obtain⟨l,c,k⟩:=r;exact a0N l c k
theorem b00(h:r []):∀us,us.length=0->r us:=λus e=>by
 cases us with
 |nil=>exact h
 |cons _ _=>cases e
theorem b01(h:∀x,∀us,us.length=Z->r (x::us)):∀us,us.length=Z+1->r us:=λus e=>by
 cases us with
 |nil=>cases e
 |cons x t=>exact h x t (yJ e)
local macro_rules|`(tactic|walk_at "b")=>`(tactic|(intro _ _ _ _ _ _;repeat first|exact b00 rfl|refine b01 λ_=>?_))
structure Dd(K:v9)(Jff:Prop)(n q:Str)(s:Stmt)(N:List Str)(k:Nat)(f:Addr)(fd:T5):Prop where
 F:uN K n q s f fd
 m:Jff
inductive De where
 |f (n:Str) (i:Nat) (N:List Str) (k:Nat)
 |m (n q:Str) (i j:Nat) (N:List Str) (k:Nat)
 |i (q:Str) (i j:Nat) (N:List Str) (k:Nat)
inductive Nd(K:v9)(C:Addr):De->Addr->T5->Prop
 |f {n:Str} {i k:Nat} {N:List Str} {f:Addr} {d:T5} (a:fx K aq n=U (U (.ref f))) (r:Rw K n n (top i) f d):Nd K C (.f n i N k) f d
 |m {n q:Str} {i j k:Nat} {N:List Str} {f:Addr} {d:T5} (a:aY K (.ref C) n=U (U (.ref f))) (b:uu K (.ref f)=Uf) (r:Rw K n q (inClass (top i) j) f d):Nd K C (.m n q i j N k) f d
 |i {q:Str} {i j k:Nat} {N:List Str} {f:Addr} {d:T5} (a:aY K (.ref C) "__init__" = U (U (.ref f))) (b:uu K (.ref f)=Uf) (r:Rw K "__init__" q (inClass (top i) j) f d):Nd K C (.i q i j N k) f d
inductive Ns(K:v9)(C:Addr):List De->List Addr->List T5->Prop
 |n:Ns K C [] [] []
 |c {e:De} {l:List De} {f:Addr} {fs:List Addr} {d:T5} {ds:List T5}:Nd K C e f d->Ns K C l fs ds->Ns K C (e::l) (f::fs) (d::ds)
theorem Ns.at{K:v9}{C:Addr}{d0:T5}{e:De}:∀{l:List De} {fs:List Addr} {ds:List T5} {i:Nat},Ns K C l fs ds->l[i]? = U e->Nd K C e (fs.getD i 0) (ds.getD i d0)
 |_,_,_,0,.c h _,m=>by cases m;exact h
 |_,_,_,_+1,.c _ t,m=>t.at m
abbrev UY(n q:Str)(s:Stmt)(N:List Str)(k:Nat):Prop:=∀(kV doc pm:t2) (an:Option Addr) (cdv ct:t2) (us:List t2),us.length=k->bindArgs (gR n q (iK s) (cj s) (M3 s) .none kV doc pm an cdv ct) ⟨us,[]⟩=pure ((N.take k).zip us)
theorem Nd.to{K:v9}{C:Addr}{n:Str}{i k:Nat}{N:List Str}{f:Addr}{d:T5}(h:Nd K C (.f n i N k) f d)(b:UY n n (top i) N k)(s:v5)(us:List t2)(l:us.length=k):lJ s d ⟨us,[]⟩ ((N.take k).zip us):=by
 cases h with
 |f a r =>
  cases r with
  |mk _ _ _=>exact .of_eq (b _ _ _ _ _ _ us l)
section
variable{K:v9}{mg:Str->Option t2}{n q:Str}{s:Stmt}{N:List Str}{k l:Nat}{f:Addr}{fd:T5}{h:Heap}{Jff:Prop}{P:L9}{w:E1}{base:Heap}
structure Ok(P:L9)(w:E1)(mg:Str->Option t2)(base:Heap)(D:Dd K Jff n q s N k f fd)(l:Nat)(sp:Sp):Prop where
 h:bc P w K mg base sS l f fd (N.take k) sp
 b:Binds K fd (N.take k) []
abbrev okT(P:L9)(w:E1)(K:v9)(mg:Str->Option t2)(base:Heap)(N:List Str)(q:Str)(s:Stmt)(f:Addr)(l:Nat)(G:DO):Prop:=∀(cdv:t2) (A:Z4) (outer:List Env) (s':v5) (H:Hp) (E:XK),N.Nodup->N7 l (A.deeper (PyProof.Rows.envOfC q (M3 s) s'.heap.objs.size f cdv))->∃t,mw (pQ sS P w K mg base N q (M3 s) f cdv A outer s' H E).AI (cj s) t G
theorem okA(D:Dd K Jff n q s N k f fd)(b:okT P w K mg base N q s f l C)(e:autoParam ((N.take k).length<=N.length) F8)(z:UY n q s N k:=by walk_at "b")(S:kK N (N.take k) (M3 s):=by walk_at "c")(r:autoParam ((N.take k).length=k) t5):Ok P w mg base D (l+1) (E9 K (J3 (N.take k).length N.length C)):=⟨D.F.okF S e λ_ _ _ _ _ _ hr=>b _ _ _ _ _ _ S.nd hr,D.F.binds λ_ _ _ _ _ _ us hl=>z _ _ _ _ _ _ us (hl.trans r)⟩
theorem okB(D:Dd K Jff n q s N k f fd)(b:okT P w K mg base N q s f l C)(e:autoParam ((N.take k).length<=N.length) F8)(z:UY n q s N k:=by walk_at "b")(S:kK N (N.take k) (M3 s):=by walk_at "c")(r:autoParam ((N.take k).length=k) t5):Ok P w mg base D (l+1) (lu K (qt (N.take k).length N.length C)):=⟨D.F.okO S e λ_ _ _ _ _ _ hr=>b _ _ _ _ _ _ S.nd hr,D.F.binds λ_ _ _ _ _ _ us hl=>z _ _ _ _ _ _ us (hl.trans r)⟩
end
inductive Al(p:Str->Prop):List Str->Prop
 |n:Al p []
 |c {s:Str} {r:List Str}:p s->Al p r->Al p (s::r)
theorem Al.at{p:Str->Prop}{s:Str}:∀{l:List Str},Al p l->s∈l->p s
 |_::_,.c h t,m=>by
  cases m with
  |head=>exact h
  |tail _ m=>exact t.at m
theorem pcD{mg':Str->Option t2}{fr:Bool}{t:TA}{k':Nat}{k0:Nat}{q:Str}{f':FV}{D:Dd z (mg' x=U (.ref v)) x q y S k0 v u}(G:Ok X.prog X.w mg' X.base D Z (E9 z f'))(hr:N7 k' X.A)(ha:dq X fr (e::M) t Y)(eK:autoParam (X.K=z) t5)(em:autoParam (X.mg=mg') t5)(hk:Z<=k':=by omega)(hg:Gl X x:=by exact rfl)(hdb:autoParam ((x==("__debug__" : Str))=U') F8)(he:autoParam (v7 (e::M) X.env=(U',eval e X.env)::v7 M X.env) t5)(hpl:autoParam ((F9 L (v7 M X.env)).any (·.1)=U') t5):PX X fr (.Call (.Name x p) (e::M) [] L) (ro (E9 z f') [] E0 t) (q5 f' Y):=QP eK (em▸G.h) (hr.mono hk) hg (em▸D.m) D.F.kp G.b fK ha hdb he hpl
noncomputable def Uk:Expr->List Str
 | .Name x _=>[x]
 | .Tuple es _ _=>es.filterMap fun | .Name x _=>U x|_=>J
 |_=>[]
theorem bkN(h:gH X.N X.N X.env.scope R=Uf):gH X.N X.N X.env.scope R=Uf:=h
theorem bkL(nb:List Str)(h:gH X.N nb X.env.scope R=Uf):gH X.N nb X.env.scope R=Uf:=h
theorem QO(hc:X.calm=Uf)(hk:gH X.N I X.env.scope R=Uf)(hb:Uk Q=S)(hgt:ub X.K S.length g E)(hi:gp X Uf Q H O Y)(go:jN S.length g)(hg:∀cl C fp s a pins,PG (W8 X S I R cl C fp s a pins) Q g)(ht:∀cl C fp s a pins,pE (W8 X S I R cl C fp s a pins) M B A)(he:∀cl C fp s a pins,PX (W8 X S I R cl C fp s a pins) Uf e G D)(hs:autoParam (∀x,ee H X.env x=pure x) W0):PX X Uf (.ListComp e [⟨Q,H,M,0⟩] R p) (gW S O g B G) (y9 Y E A D):=zG hc (yq hk) hi go hg hgt ht he hs
theorem IM{pos':Pos}(hN:X.N.Nodup)(hi':X.N[Z]? = U x)(hx:Loc X.env.scope x)(hc:X.calm=Uf)(hk:gH X.N I X.env.scope R=Uf)(hb:Uk Q=S)(hgt:ub X.K S.length g E)(hi:gp X Uf Q H O Y)(go:jN S.length g)(hg:∀cl C fp s i pins,PG (W8 X S I R cl C fp s i pins) Q g)(he:∀cl C fp s i pins,PX (W8 X S I R cl C fp s i pins) Uf e G D)(hsw:autoParam (bS (.ListComp e [⟨Q,H,[],0⟩] R L) (U (.Name x pos')) p.line X.env=pure Uf) t5)(hf:autoParam (X.fn x=Uf\/X.env.scope.names.lookup x=U .local) di)(hs:autoParam (∀x,ee H X.env x=pure x) W0):O1 X (.Assign [.Name x pos'] (.ListComp e [⟨Q,H,[],0⟩] R L) p) (iT (gW S O g xl G) (aJ Z)) (S6 Z (lC Y E D)):=Lu hN hi' hx hc (yq hk) hi go hg hgt he hsw hf hs
theorem IQ{pos':Pos}(hN:X.N.Nodup)(hi':X.N[Z]? = U x)(hx:Loc X.env.scope x)(hc:X.calm=Uf)(hk:gH X.N I X.env.scope R=Uf)(hb:Uk Q=S)(hgt:ub X.K S.length g E)(hi:gp X Uf Q H O Y)(go:jN S.length g)(hg:∀cl C fp s i pins,PG (W8 X S I R cl C fp s i pins) Q g)(ht:∀cl C fp s i pins,pE (W8 X S I R cl C fp s i pins) M B A)(he:∀cl C fp s i pins,PX (W8 X S I R cl C fp s i pins) Uf e G D)(hsw:autoParam (bS (.ListComp e [⟨Q,H,M,0⟩] R L) (U (.Name x pos')) p.line X.env=pure Uf) t5)(hf:autoParam (X.fn x=Uf\/X.env.scope.names.lookup x=U .local) di)(hs:autoParam (∀x,ee H X.env x=pure x) W0):O1 X (.Assign [.Name x pos'] (.ListComp e [⟨Q,H,M,0⟩] R L) p) (iT (gW S O g B G) (aJ Z)) (u6 Z (y9 Y E A D)):=Lw hN hi' hx hc (yq hk) hi go hg hgt ht he hsw hf hs
theorem IP{pos':Pos}(hN:X.N.Nodup)(hi':X.N[Z]? = U x)(hx:Loc X.env.scope x)(hc:X.calm=Uf)(hk:gH X.N I X.env.scope R=Uf)(hb:Uk Q=S)(hgt:ub X.K S.length g E)(hi:gp X Uf Q H O Y)(go:jN S.length g)(hg:∀cl C fp s i pins,PG (W8 X S I R cl C fp s i pins) Q g)(ht:∀cl C fp s i pins,pE (W8 X S I R cl C fp s i pins) M B A)(he:∀cl C fp s i pins,PX (W8 X S I R cl C fp s i pins) Uf e G D)(hsw:autoParam (bS (.ListComp e [⟨Q,H,M,0⟩] R L) (U (.Name x pos')) p.line X.env=pure Uf) t5)(hf:autoParam (X.fn x=Uf\/X.env.scope.names.lookup x=U .local) di)(hs:autoParam (∀x,ee H X.env x=pure x) W0):O1 X (.Assign [.Name x pos'] (.ListComp e [⟨Q,H,M,0⟩] R L) p) (iT (gW S O g B G) (aJ Z)) (S6 Z (y9 Y E A D)):=Lv hN hi' hx hc (yq hk) hi go hg hgt ht he hsw hf hs
theorem Rb{body:List Stmt}{tb:TS}{gt:p9->DD}(hp:ug (model X.prog X.w) X.A X.env X.xe)(hc:X.calm=Uf)(hgt:Ve X.K g gt)(hi:gp X Uf e Q O Y)(hg:PG X e g)(hb:mw X body tb C)(hs:autoParam (∀x,ee Q X.env x=pure x) W0):O1 X (.For e Q body [] p) (Qh O g tb) (G7 Y gt C):=Wq hp hc hi hg hgt hb hs
mutual
inductive Cs(K:v9):t2->V->p9->Prop
 |i {n:Int} {t:Tok}:Cs K (.int n t) (.int n) (.int n)
 |t {a:Addr} {d:Option Addr} {n:Nat} {s:Array (Option t2)} {us:List t2} {vs:List V} {ds:List p9} (l:K.lookup a=U ⟨.type "tuple",d,.seq us.toArray n,s⟩) (z:us.toArray.size<=1000) (h:Cl K us vs ds):Cs K (.ref a) (.ref a) (.tuple ds)
inductive Cl(K:v9):List t2->List V->List p9->Prop
 |n:Cl K [] [] []
 |c {u:t2} {us:List t2} {v:V} {vs:List V} {d:p9} {ds:List p9} (a:Cs K u v d) (b:Cl K us vs ds):Cl K (u::us) (v::vs) (d::ds)
end
mutual
theorem Cs.to{K:v9}{u:t2}{v:V}{d:p9}(h:Cs K u v d):RelV v u/\∀H,Dt K H v d:=by
 cases h with
 |i=>exact⟨⟨_,rfl⟩,λ_=>.int _⟩
 |t l z h=>exact⟨rfl,To l z h.to.1 h.to.2⟩
theorem Cl.to{K:v9}{us:List t2}{vs:List V}{ds:List p9}(h:Cl K us vs ds):Vals vs us/\∀H,C8 K H vs ds:=by
 cases h with
 |n=>exact⟨.nil,λ_=>.nil⟩
 |c a b=>exact⟨.cons a.to.1 b.to.1,λH=>.cons (a.to.2 H) (b.to.2 H)⟩
end
inductive Ck(K:v9):List (Str×p9)->List Addr->Prop
 |n:Ck K [] []
 |c {s:Str} {d:p9} {l:List (Str×p9)} {a:Addr} {as:List Addr} (e:fx K aq s=U (U (.ref a))) (h:Cs K (.ref a) (.ref a) d) (r:Ck K l as):Ck K ((s,d)::l) (a::as)
theorem Ck.at{K:v9}{s:Str}{d:p9}{l:List (Str×p9)}{as:List Addr}{i:Nat}(h:Ck K l as)(m:l[i]? = U (s,d)):fx K aq s=U (U (.ref (as.getD i 0)))/\Cs K (.ref (as.getD i 0)) (.ref (as.getD i 0)) d:=by
 induction h generalizing i with
 |n=>exact nE m
 |c a b _ j=>cases i with
  |zero=>cases m;exact⟨a,b⟩
  |succ i=>exact(j (i:=i) m :)
def cts:List (Str×p9):=[("FREE",nZ),("LACKED",DT),("NOUGHT_best",H0),("NOUGHT_costs",bB),("NOUGHT_solving",M4),("PARTS",fS),("UNDONE",wY)]
structure Ads where
 f:Nat->Addr
 d:Nat->T5
 u:Nat->Addr
 C:Addr
noncomputable def UT:List De:=[.f "common_divisor" 4 ["one","other","rest"] 2,
 .f "fraction" 5 ["top","bottom","divisor"] 2,
 .f "plus" 6 ["one","other","shared","top","divisor"] 2,
 .f "minus" 7 ["one","other"] 2,
 .f "times" 8 ["one","other","divisor","other_divisor","top"] 2,
 .f "over" 9 ["one","other"] 2,
 .f "under" 10 ["one","other"] 2,
 .f "common_multiple" 14 ["numbers","told","number"] 1,
 .f "whole" 15 ["one","by"] 2,
 .f "scale_of" 16 ["rows","choice"] 2,
 .f "column_of" 17 ["rows","choice","scale"] 3,
 .f "unit_row" 18 ["count","place","row"] 2,
 .f "product" 19 ["row","other"] 2,
 .f "column_product" 20 ["row","column"] 2,
 .f "turned" 21 ["row","pivot_row","factor","pivot","size"] 5,
 .i "Table.__init__" 22 0 ["self","costs","rows","rights","tops","first"] 6,
 .m "set_weights" "Table.set_weights" 22 1 ["self","costs","part","weights","multiple"] 2,
 .m "set_limits" "Table.set_limits" 22 2 ["self","rights","tops","heights","bottoms"] 3,
 .m "first_prices" "Table.first_prices" 22 3 ["self","part"] 2,
 .m "rest" "Table.rest" 22 4 ["self","part","choice"] 3,
 .m "amounts" "Table.amounts" 22 5 ["self"] 1,
 .m "paces" "Table.paces" 22 6 ["self","choice"] 2,
 .m "flip" "Table.flip" 22 7 ["self","choice","by","place","number"] 2,
 .m "turn" "Table.turn" 22 8 ["self","choice","place","paces","sign","pivot","pivot_row","part","factor","inverse"] 4,
 .f "gain_of" 23 ["table","choice","sign","part","rest"] 2,
 .f "moving" 24 ["table","careful","told","best","choice","gain"] 2,
 .f "stops" 25 ["table","choice","paces","found","sign","place","amount","number","limit","pace"] 3,
 .f "sooner" 26 ["one","other","length","other_length"] 2,
 .f "first_stop" 27 ["found","told","stop"] 1,
 .f "move" 28 ["table","choice","paces","stop"] 4,
 .f "mix_of" 29 ["table","tops","mix","choice","amount"] 2,
 .f "price_of" 30 ["table","place","parts"] 2,
 .f "way_of" 31 ["table","choice","paces","way","number","pace"] 3,
 .f "solved" 32 ["costs","rows","rights","tops","first","table","choice","paces","stop"] 5,
 .f "added" 34 ["one","other"] 2,
 .f "multiplied" 35 ["one","by"] 2,
 .f "coins" 41 ["price"] 1,
 .f "into" 42 ["hour"] 1,
 .f "out_of" 43 ["hour"] 1,
 .f "hour_choices" 44 ["number","hour","choices","line"] 2,
 .f "store_choices" 45 ["house","number","count","hour","store","filled","taken","end"] 2,
 .f "work_choices" 46 ["house","number","work","row","choices","hour","numbers"] 2,
 .f "choices_of" 47 ["house","found","number","hour"] 1,
 .f "rows_of" 48 ["choices","count","rows","place","choice","row","one"] 2,
 .f "rights_of" 49 ["house","needs","starts"] 1,
 .f "first_names" 50 ["house","needs","levels"] 1,
 .f "parted" 51 ["store","filled","taken","more"] 3,
 .f "plan_of" 52 ["house","amounts","plan","hour","traded","stored","worked"] 2,
 .f "prices_of" 53 ["house","told","count","here","stored","behind","price"] 2,
 .f "best_plan" 54 ["house","choices","names","costs","tops","rights","first","answer"] 1,
 .f "spilt_in" 56 ["hour","deeds","left","rest","part"] 3,
 .f "lost_in" 57 ["deeds","kept","left","filling","taking"] 3,
 .f "ledger" 58 ["house","plan","store","kept","left","level","entries","hour","deeds"] 2,
 .f "coins_of" 61 ["line","deeds"] 2,
 .f "hour_costs" 62 ["hour","deeds","worked","part"] 2,
 .f "costs" 63 ["house","plan","store","level","entry","amounts","told","hour","deeds"] 2,
 .f "_law_draw" 65 ["_law_script","_law_k","_law_many","_law_cell","_law_mixed"] 3,
 .f "_law_same" 66 ["_law_found","_law_due"] 2,
 .f "_law_common" 67 ["_law_one","_law_other"] 2,
 .f "_law_lowest" 68 ["_law_top","_law_bottom","_law_both"] 2,
 .f "_law_share" 69 ["_law_script","_law_k","_law_bottom"] 2,
 .f "_law_house" 70 ["_law_script","_law_most","_law_by","_law_many","_law_hours","_law_t","_law_k","_law_line","_law_buy","_law_size","_law_start","_law_store","_law_works","_law_j","_law_first","_law_last"] 2,
 .f "_law_times" 71 ["_law_one","_law_other"] 2,
 .f "_law_scaled" 72 ["_law_house_here","_law_by","_law_hours","_law_sun","_law_need","_law_line","_law_store","_law_works"] 2,
 .f "_law_idle" 73 ["_law_house_here","_law_at","_law_hours","_law_works","_law_name","_law_amount","_law_first","_law_last","_law_most"] 2,
 .f "_law_costs" 74 ["_law_house_here"] 1,
 .f "law" 75 ["_law_script","_law_house_here","_law_by","_law_former","_law_due","_law_idle_here"] 1]
structure Txt(K:v9)(mg:Str->Option t2)(a:Ads):Prop where
 f:∀(i:Nat) {n:Str} {t k:Nat} {N:List Str},UT[i]? = U (.f n t N k)->Dd K (mg n=U (.ref (a.f i))) n n (top t) N k (a.f i) (a.d i)
 m:∀(i:Nat) {n q:Str} {t j k:Nat} {N:List Str},UT[i]? = U (.m n q t j N k)->Dd K (Meth K a.C n (a.f i)) n q (inClass (top t) j) N k (a.f i) (a.d i)
 i:∀(i:Nat) {q:Str} {t j k:Nat} {N:List Str},UT[i]? = U (.i q t j N k)->Dd K (Mk K a.C (a.f i)) "__init__" q (inClass (top t) j) N k (a.f i) (a.d i)
 cn:dH K "Table" a.C
 mc:mg "Table" = U (.ref a.C)
 na:∀s∈(["scales","columns","multiples","weights","unit","rights","limits","chosen","full","size","inverse","prices"]:List Str),ay K a.C s
 n:∀s∈(["abs","all","bool","dict","enumerate","int","isinstance","len","list","range","reversed","str","sum","tuple","zip"]:List Str),mg s=J
 v:∀(i:Nat) {s:Str} {d:p9},cts[i]? = U (s,d)->mg s=U (.ref (a.u i))/\RelV (.ref (a.u i)) (.ref (a.u i))/\∀H,Dt K H (.ref (a.u i)) d
set_option hygiene false
local macro_rules|`(tactic|walk_at "n")=>`(tactic|first|exact nd|(dsimp only[W8,Cx.AI,pQ];decide +kernel))
local macro_rules|`(tactic|walk_at "v")=>`(tactic|first|exact Or.inl rfl|exact Or.inr rfl)
local macro_rules|`(tactic|walk_at "o")=>`(tactic|(first|apply vE|apply Gr|apply WV|apply RQ|apply RN|apply WW|apply RM|apply tH|apply RL|apply Gk|apply Cy|apply Gi|apply Jd|apply vF|apply LW|apply Jk|apply Mb|apply RP|apply LX|apply Bo|apply Mc|apply Gm|apply LV|apply LY|apply RU|apply Bm|apply RS|apply WX|apply Ma|apply xG|apply wC|apply xF|apply Bp|apply Jc|apply Cv|apply zM|apply LZ|apply Je|apply Cw|apply Cz|apply Gj|apply Jf|apply Md|apply Gs|apply Bn|apply RR|apply Mh|apply Mf|apply Gq|apply Gp|apply Jh|apply Ji|apply Jg|apply Gn|apply Mg|apply Jj|apply Me|exact o)<;>exact T)
local macro_rules|`(tactic|walk_at "t")=>`(tactic|first|exact Qd|exact Qc|exact Qa|exact Vy (by repeat first|exact Qb|apply KD))
local macro_rules|`(tactic|walk_at "w")=>`(tactic|first|exact MU f5|exact SG (xW (xW MT f5) f5))
local macro_rules|`(tactic|walk_at "m")=>`(tactic|first|exact(rfl : _ = [_])|exact(rfl : _ = [_,_]))
local macro_rules|`(tactic|walk_at "u")=>`(tactic|first|exact bkN rfl|exact bkL ["choices","count","rows","place","choice","row'","one"] rfl|exact bkL ["house","told","count","here","stored","behind","price'"] rfl)
local macro_rules|`(tactic|walk_at "l")=>`(tactic|first|exact QO rfl (by walk_at "u") (by walk_at "m") (by walk_at "t") (by walk_at "q") (by walk_at "w") (λ_ _ _ _ _ _=>(by walk_at "q")) (λ_ _ _ _ _ _=>(by walk_at "q")) (λ_ _ _ _ _ _=>(by walk_at "q")))
seal f7 u3 og A9 ua tY Aq sH A8 cv U4 nX fC q5 jl nW y9 lC F5 iI jk R1 yk nV iH aa T4 N9 rL rK O0 Dz N0 hZ t6 Dx eD x9 W4 gk q9 R6 ak dg rH P1 tT G7 ya P5 rG aJ tS mM X5 cu Dk D4 lB X4 t7 S6 vr u6 cq Af jh xY xV F3 J9 xS kz intD iG fj D5 HE E2 pe sD zS fc N4 eS gx bX O5 gZ tq O4 iX IC km sY aV av
local macro_rules|`(tactic|walk_at "x")=>`(tactic|first|apply Zm|(show PX _ _ _ _ (q9 _);exact Zj _ (pv _))|(show PX _ _ _ _ (fC _);first|exact Zr|exact a1L|exact Zl|exact Zp|exact hW rfl (T.v 0 rfl)|exact hW rfl (T.v 1 rfl)|exact hW rfl (T.v 2 rfl)|exact hW rfl (T.v 3 rfl)|exact hW rfl (T.v 4 rfl)|exact hW rfl (T.v 5 rfl)|exact hW rfl (T.v 6 rfl))|(show PX _ _ _ _ (t6 D5 _ _);exact a1J (r:=GY K) Dc a3q (by walk_at "q") (by walk_at "q") (λ_ _=>rfl))|apply rA WN a1s|apply rA (r:=IK K) WU a1y|apply rA RK Yg|apply rA WO a1t|apply rA ZV a1p|apply rA (r:=IH K) WM Yc|apply rA ZW a1q|apply xy (r:=II K) (LU hr.units) Yh (eo _)|apply xy BC Pz (eo _)|apply xy UD Yf (eo _)|apply xy LS Ye (eo _)|apply a1H Yp a1r|apply VV|(show PX _ _ _ _ (jk _ _);exact QL hr.u1 (by walk_at "q") (by walk_at "q"))|(show PX _ _ _ _ (iI _ _ _);exact Ln hr.u1 (by walk_at "q") (by walk_at "q") (by walk_at "q"))|(show PX _ _ _ _ (yk _);exact QK (K':=K) rfl hr.u2 hr.hd rfl (T.n _ f5) A3 rfl (T.n _ f5) A3 (by walk_at "q"))|(show PX _ _ _ _ (rK kz _ _);exact Lm (K':=K) hr.units rfl (by walk_at "q") (by walk_at "q"))|apply Zk|apply Zq|apply a1K|apply Zv|apply a1I|apply Zo|apply Zt|apply Zu|(show PX _ _ _ _ (R6 _);exact VU _ (pv _))|(show PX _ _ _ _ (q5 _ _);first|(show PX _ _ _ _ (q5 E2 _);exact rB (r:=QD K) Nx a1v rfl (T.n _ f5) A3 (by walk_at "q"))|(show PX _ _ _ _ (q5 og _);exact rB Tz a1z rfl (T.n _ f5) A3 (by walk_at "q"))|(show PX _ _ _ _ (q5 ua _);exact rB (r:=IJ K) (Nz hr.hd) Yi rfl (T.n _ f5) A3 (by walk_at "q"))|(show PX _ _ _ _ (q5 sY _);exact rB (r:=IG K) (Nw hr.hd) Yb rfl (T.n _ f5) A3 (by walk_at "q"))|(show PX _ _ _ _ (q5 aV _);exact tA (r:=a1E K) Bu Vi rfl (T.n _ f5) A3 (by walk_at "q"))|(show PX _ _ _ _ (q5 pe _);exact tA (r:=Zd K) DP Yd rfl (T.n _ f5) A3 (by walk_at "q"))|(show PX _ _ _ _ (q5 intD _);exact tA Ny a1w rfl (T.n _ f5) A3 (by walk_at "q"))|exact pcD (by walk_at "o") hr (by walk_at "q"))|(show PX _ _ _ _ (y9 _ _ _ _);walk_at "l")|(show PX _ _ _ _ (T4 "int" _);exact nI rfl SR rfl (T.n _ f5) A3 (by walk_at "q") (qa (v:=.ty "int") rfl (T.n _ f5) A3 rfl))|(show PX _ _ _ _ (T4 "bool" _);exact nI rfl MZ rfl (T.n _ f5) A3 (by walk_at "q") (qa (v:=.ty "bool") rfl (T.n _ f5) A3 rfl))|(show PX _ _ _ _ (T4 "tuple" _);exact nI rfl JO rfl (T.n _ f5) A3 (by walk_at "q") (qa (v:=.ty "tuple") rfl (T.n _ f5) A3 rfl))|(show PX _ _ _ _ (T4 "list" _);exact nI rfl MY rfl (T.n _ f5) A3 (by walk_at "q") (qa (v:=.ty "list") rfl (T.n _ f5) A3 rfl))|(show PX _ _ _ _ (T4 "str" _);exact nI rfl SQ rfl (T.n _ f5) A3 (by walk_at "q") (qa (v:=.ty "str") rfl (T.n _ f5) A3 rfl))|apply QG (r:=Zb K) YL a3n|(show PX _ _ _ _ (rK xS _ _);exact QJ (by walk_at "q") (by walk_at "q"))|(show PX _ _ _ _ (F5 _ _ _);exact QM rfl T.cn (T.na _ f5) (by walk_at "q"))|(show PX _ _ _ _ (N0 _ _ _);exact QH rfl T.cn (T.na _ f5) (pv _))|(show PX _ _ _ _ (hZ _ _ _ _);exact VW rfl T.cn (T.na _ f5) (pv _) (by walk_at "q"))|(show PX _ _ _ _ (R1 _ _ U0 _ u3);exact Ll rfl T.cn (by walk_at "q") (T.m 20 rfl).m (nL T).h (hr.mono (by omega)) (nL (P:=P) (w:=w) (base:=base) T).b fK (pl:=_))|(show PX _ _ _ _ (R1 _ _ M0 _ _);exact wx rfl T.cn (by walk_at "q") (T.m 18 rfl).m (aG T).h (hr.mono (by omega)) (aG (P:=P) (w:=w) (base:=base) T).b fK (by walk_at "q") (pl:=_))|(show PX _ _ _ _ (R1 _ _ U8 _ _);exact wx rfl T.cn (by walk_at "q") (T.m 19 rfl).m (gY T).h (hr.mono (by omega)) (gY (P:=P) (w:=w) (base:=base) T).b fK (by walk_at "q") (pl:=_))|(show PX _ _ _ _ (R1 _ _ Y6 _ _);exact wx rfl T.cn (by walk_at "q") (T.m 21 rfl).m (qc T).h (hr.mono (by omega)) (qc (P:=P) (w:=w) (base:=base) T).b fK (by walk_at "q") (pl:=_))|(show PX _ _ _ _ (rL _ _ _);exact VZ T.cn (T.i 15 rfl).m (oZ T).h (hr.mono (by omega)) rfl T.mc (oZ (P:=P) (w:=w) (base:=base) T).b fK (by walk_at "q")))
local macro_rules|`(tactic|walk_at "y")=>`(tactic|first|(show O1 _ _ _ (S6 _ (lC _ _ _));exact IM (by walk_at "n") rfl (by walk_at "v") rfl (by walk_at "u") (by walk_at "m") (by walk_at "t") (by walk_at "q") (by walk_at "w") (λ_ _ _ _ _ _=>(by walk_at "q")) (λ_ _ _ _ _ _=>(by walk_at "q")))|(show O1 _ _ _ (u6 _ (y9 _ _ _ _));exact IQ (by walk_at "n") rfl (by walk_at "v") rfl (by walk_at "u") (by walk_at "m") (by walk_at "t") (by walk_at "q") (by walk_at "w") (λ_ _ _ _ _ _=>(by walk_at "q")) (λ_ _ _ _ _ _=>(by walk_at "q")) (λ_ _ _ _ _ _=>(by walk_at "q")))|(show O1 _ _ _ (S6 _ (y9 _ _ _ _));exact IP (by walk_at "n") rfl (by walk_at "v") rfl (by walk_at "u") (by walk_at "m") (by walk_at "t") (by walk_at "q") (by walk_at "w") (λ_ _ _ _ _ _=>(by walk_at "q")) (λ_ _ _ _ _ _=>(by walk_at "q")) (λ_ _ _ _ _ _=>(by walk_at "q")))|(show O1 _ _ _ (Dk _ _ _);exact Wo rfl (by walk_at "n") rfl rfl f5 rfl rfl (by walk_at "q") (by rfl))|(show O1 _ _ _ (vr _ _ _ _);exact QV (pv _) (by walk_at "q") (by walk_at "q") (by walk_at "q"))|(show O1 _ _ _ (rG _ _);exact Wn _ (pv _))|(show O1 _ _ _ (u6 _ _);exact QU (by walk_at "n") rfl (by walk_at "v") (by walk_at "q"))|(show O1 _ _ _ (D4 (nV _));exact Hf (fr:=false) (by walk_at "q"))|(show O1 _ _ _ (D4 _);exact Hf (fr:=true) (by walk_at "q"))|(show O1 _ _ _ (X4 _);exact QW _ (pv _))|apply Zz|(show O1 _ _ _ (G7 _ _ _);exact Rb NI rfl (by walk_at "t") (by walk_at "q") (by walk_at "q") (by walk_at "q"))|(show O1 _ _ _ (S6 _ _);exact Wm (by walk_at "n") rfl (by walk_at "v") (by walk_at "q"))|(show O1 _ _ _ (tS);exact Ly)|apply Ra _|(show O1 _ _ _ (dg _ _);exact Ws _ (pv _) (by walk_at "q"))|(show O1 _ _ _ (tT _ _);exact Wr _ (pv _) (by walk_at "q"))|(show O1 _ _ _ (cq _ _ _);exact QT _ (pv _) (by walk_at "q") (by walk_at "q"))|(show O1 _ _ _ (jh _ _ _);exact Ls _ NI (by walk_at "q") (by walk_at "q"))|(show O1 _ _ _ (P1 _);exact Lz (by walk_at "q"))|(show O1 _ _ _ (lB);exact Lx)|(show O1 _ _ _ (X5 _ _ _ _ _);exact QY T.cn (T.na _ f5) (pv _) (by first|exact λ_ _ h=>.inr h|exact λ_ _ h=>.inl h) (by walk_at "q"))|(show O1 _ _ _ (cu _ _ _ _ _);exact QX T.cn (T.na _ f5) (pv _) (by walk_at "q") (by walk_at "q"))|(show O1 _ _ _ (mM _ _ _ _);exact QZ T.cn (T.na _ f5) (pv _) (by walk_at "q")))
local macro_rules|`(tactic|walk_at "z")=>`(tactic|first|apply Lo (fr:=true) BC Pz a1T a3p|(show lG _ _ _ (tY _ _);exact vX.pt (by walk_at "q"))|(show lG _ _ _ (sH _ _);exact vX.pt (by walk_at "q"))|apply Wg|apply iz (fr:=true) (r:=II K) (LU hr.units) Yh (eo _)|apply iz (fr:=true) (r:=QB K) (ZX hr.units) a3o (eo _)|apply iz (fr:=true) a1U a3r (eo _)|apply iz (fr:=true) BC Pz (eo _)|apply iz (fr:=true) UD Yf (eo _)|apply iz (fr:=true) LS Ye (eo _)|apply iz (fr:=true) WL Vj (eo _)|apply iz (fr:=true) (r:=QC K) (ZZ hr.units) a1u (eo _)|apply Wf (fr:=true))
local macro_rules|`(tactic|walk_at "q")=>`(tactic|(first|(show PX _ _ _ _ _;walk_at "x")|(show dq _ _ _ _ (f7 _ _);exact RC (by walk_at "q") (by walk_at "q"))|exact Hk|(show O1 _ _ _ _;walk_at "y")|apply Rc|apply LA|exact Rg|(show lG _ _ _ _;walk_at "z")|apply QQ|apply Wd|apply We|apply Zw|(show gp _ _ _ _ _ (F3 O4 _);exact IW rfl (T.n _ f5) (by walk_at "q"))|(show gp _ _ _ _ _ (F3 iX _);exact IV rfl (T.n _ f5) (by walk_at "q"))|(show gp _ _ _ _ _ (F3 av _);exact Wz rfl (T.n _ f5) (by walk_at "q"))|(show gp _ _ _ _ _ (F3 tq _);exact WB (K':=K) rfl rfl (T.n _ f5) (by walk_at "q"))|(show gp _ _ _ _ _ (F3 cv _);exact Rq rfl (T.n _ f5) (by walk_at "q"))|apply WA|(show PG _ _ (aJ _);exact Hg (by walk_at "n") rfl (by walk_at "v"))|(show PG _ _ (Af _ _ _);exact ZJ rfl (by walk_at "q"))|(show NH _ _ (rH _ _);exact Rv (by walk_at "q") (by walk_at "q"))|exact WD|exact LJ|apply LI|exact Rn|apply Rm (fr:=true)|(show ud _ _ _ (gZ _ _);exact RD _ (pv _) (by walk_at "q"))|(show ud _ _ _ (O5 _ _);exact RE (by walk_at "q") (by walk_at "q"))|exact WJ|(show vW _ _ _ (O0 _ _ _ Z5 _);exact ko T.cn (pv _) (T.m 16 rfl).m (jb T).h (hr.mono (by omega)) (jb (P:=P) (w:=w) (base:=base) T).b fK (by walk_at "q") (pl:=_))|(show vW _ _ _ (O0 _ _ _ aB _);exact ko T.cn (pv _) (T.m 17 rfl).m (kb T).h (hr.mono (by omega)) (kb (P:=P) (w:=w) (base:=base) T).b fK (by walk_at "q") (pl:=_))|(show vW _ _ _ (O0 _ _ _ M0 _);exact ko T.cn (pv _) (T.m 18 rfl).m (aG T).h (hr.mono (by omega)) (aG (P:=P) (w:=w) (base:=base) T).b fK (by walk_at "q") (pl:=_))|(show vW _ _ _ (O0 _ _ _ U8 _);exact ko T.cn (pv _) (T.m 19 rfl).m (gY T).h (hr.mono (by omega)) (gY (P:=P) (w:=w) (base:=base) T).b fK (by walk_at "q") (pl:=_))|(show vW _ _ _ (O0 _ _ _ P2 _);exact ko T.cn (pv _) (T.m 22 rfl).m (sC T).h (hr.mono (by omega)) (sC (P:=P) (w:=w) (base:=base) T).b fK (by walk_at "q") (pl:=_))|(show vW _ _ _ (O0 _ _ _ dD _);exact ko T.cn (pv _) (T.m 23 rfl).m (sA T).h (hr.mono (by omega)) (sA (P:=P) (w:=w) (base:=base) T).b fK (by walk_at "q") (pl:=_))|(show vW _ _ _ (jl me _);exact QF (Hl T).h (hr.mono (by omega)) rfl (T.f 29 rfl).m (T.f 29 rfl).F.kp (Hl (P:=P) (w:=w) (base:=base) T).b fK (by walk_at "q")))<;>walk_at "q")
local macro_rules|`(tactic|walk_at "j")=>`(tactic|exact okA _ λ_ _ _ _ _ _ nd hr=>⟨_,by walk_at "q"⟩)
local macro_rules|`(tactic|walk_at "i")=>`(tactic|exact okB _ λ_ _ _ _ _ _ nd hr=>⟨_,by walk_at "q"⟩)
section
variable{K:v9}{mg:Str->Option t2}{ad:Ads}(T:Txt K mg ad)
theorem vE:Ok P w mg base (T.f 0 rfl) 1 (E9 K O9):=by delta O9 cG cH;walk_at "j"
theorem Gr:Ok P w mg base (T.f 1 rfl) 2 (E9 K V2):=by delta V2;walk_at "j"
theorem WV:Ok P w mg base (T.f 2 rfl) 2 (E9 K cC):=by delta cC;walk_at "j"
theorem RQ:Ok P w mg base (T.f 3 rfl) 3 (E9 K Q8):=by delta Q8;walk_at "j"
theorem RN:Ok P w mg base (T.f 4 rfl) 2 (E9 K J7):=by delta J7;walk_at "j"
theorem WW:Ok P w mg base (T.f 5 rfl) 3 (E9 K uO):=by delta uO;walk_at "j"
theorem RM:Ok P w mg base (T.f 6 rfl) 1 (E9 K iN):=by delta iN;walk_at "j"
theorem tH:Ok P w mg base (T.f 7 rfl) 3 (E9 K N1):=by delta N1 Z6;walk_at "j"
theorem RL:Ok P w mg base (T.f 8 rfl) 1 (E9 K iM):=by delta iM;walk_at "j"
theorem Gk:Ok P w mg base (T.f 9 rfl) 4 (E9 K jP):=by delta jP oP;walk_at "j"
theorem Cy:Ok P w mg base (T.f 10 rfl) 2 (E9 K gU):=by delta gU Y5 Y7;walk_at "j"
theorem Gi:Ok P w mg base (T.f 11 rfl) 1 (E9 K jO):=by delta jO;walk_at "j"
theorem Jd:Ok P w mg base (T.f 12 rfl) 1 (E9 K md):=by delta md pS;walk_at "j"
theorem vF:Ok P w mg base (T.f 13 rfl) 1 (E9 K af):=by delta af W2;walk_at "j"
theorem LW:Ok P w mg base (T.f 14 rfl) 1 (E9 K ie):=by delta ie so;walk_at "j"
theorem aG:Ok P w mg base (T.m 18 rfl) 1 (E9 K M0):=by delta M0 cP;walk_at "j"
theorem kb:Ok P w mg base (T.m 17 rfl) 4 (lu K aB):=by delta aB bq bp R8 S0 bj bh;walk_at "i"
theorem jb:Ok P w mg base (T.m 16 rfl) 4 (lu K Z5):=by delta Z5 aO W3 dG dF;walk_at "i"
theorem oZ:Ok P w mg base (T.i 15 rfl) 5 (lu K bC):=by delta bC iq ip ik ij;walk_at "i"
theorem gY:Ok P w mg base (T.m 19 rfl) 2 (E9 K U8):=by delta U8;walk_at "j"
theorem nL:Ok P w mg base (T.m 20 rfl) 2 (E9 K U0):=by delta U0 gB;walk_at "j"
theorem qc:Ok P w mg base (T.m 21 rfl) 2 (E9 K Y6):=by delta Y6 jW;walk_at "j"
theorem sC:Ok P w mg base (T.m 22 rfl) 1 (lu K P2):=by delta P2 dJ;walk_at "i"
theorem sA:Ok P w mg base (T.m 23 rfl) 3 (lu K dD):=by delta dD dI gh dE;walk_at "i"
theorem Jk:Ok P w mg base (T.f 24 rfl) 3 (E9 K mh):=by delta mh lp;walk_at "j"
theorem Mb:Ok P w mg base (T.f 25 rfl) 4 (E9 K ig):=by delta ig bw;walk_at "j"
theorem RP:Ok P w mg base (T.f 26 rfl) 3 (E9 K iO):=by delta iO mi;walk_at "j"
theorem LX:Ok P w mg base (T.f 27 rfl) 1 (E9 K oM):=by delta oM;walk_at "j"
theorem Bo:Ok P w mg base (T.f 28 rfl) 2 (E9 K bQ):=by delta bQ bD;walk_at "j"
theorem Hl:Ok P w mg base (T.f 29 rfl) 4 (lu K me):=by delta me;walk_at "i"
theorem Mc:Ok P w mg base (T.f 30 rfl) 3 (E9 K cN):=by delta cN sr mW;walk_at "j"
theorem Gm:Ok P w mg base (T.f 31 rfl) 3 (E9 K jQ):=by delta jQ fF;walk_at "j"
theorem LV:Ok P w mg base (T.f 32 rfl) 3 (E9 K kL):=by delta kL mV;walk_at "j"
theorem LY:Ok P w mg base (T.f 33 rfl) 7 (E9 K oN):=by delta oN cF bu sq;walk_at "j"
theorem RU:Ok P w mg base (T.f 34 rfl) 3 (E9 K kM):=by delta kM;walk_at "j"
theorem Bm:Ok P w mg base (T.f 35 rfl) 3 (E9 K dB):=by delta dB;walk_at "j"
theorem RS:Ok P w mg base (T.f 36 rfl) 1 (E9 K ni):=by delta ni;walk_at "j"
theorem WX:Ok P w mg base (T.f 37 rfl) 1 (E9 K eJ):=by delta eJ;walk_at "j"
theorem Ma:Ok P w mg base (T.f 38 rfl) 4 (E9 K ei):=by delta ei;walk_at "j"
theorem xG:Ok P w mg base (T.f 39 rfl) 5 (E9 K dC):=by delta dC;walk_at "j"
theorem wC:Ok P w mg base (T.f 40 rfl) 5 (E9 K eX):=by delta eX mH mG;walk_at "j"
theorem xF:Ok P w mg base (T.f 41 rfl) 5 (E9 K gb):=by delta gb ek;walk_at "j"
theorem Bp:Ok P w mg base (T.f 42 rfl) 6 (E9 K jT):=by delta jT gj gi;walk_at "j"
theorem Jc:Ok P w mg base (T.f 43 rfl) 1 (E9 K pH):=by delta pH cO kZ lg;walk_at "j"
theorem Cv:Ok P w mg base (T.f 44 rfl) 1 (E9 K kW):=by delta kW sM mB;walk_at "j"
theorem zM:Ok P w mg base (T.f 45 rfl) 2 (E9 K eL):=by delta eL jV pK jU;walk_at "j"
theorem LZ:Ok P w mg base (T.f 46 rfl) 4 (E9 K sj):=by delta sj;walk_at "j"
theorem Je:Ok P w mg base (T.f 47 rfl) 5 (E9 K pI):=by delta pI lh wa;walk_at "j"
theorem Cw:Ok P w mg base (T.f 48 rfl) 4 (E9 K kX):=by delta kX hI eM;walk_at "j"
theorem Cz:Ok P w mg base (T.f 49 rfl) 8 (E9 K kY):=by delta kY sR sQ sP sO;walk_at "j"
theorem Gj:Ok P w mg base (T.f 50 rfl) 4 (E9 K mR):=by delta mR oT oS;walk_at "j"
theorem Jf:Ok P w mg base (T.f 51 rfl) 4 (E9 K pJ):=by delta pJ;walk_at "j"
theorem Md:Ok P w mg base (T.f 52 rfl) 5 (E9 K oO):=by delta oO mX;walk_at "j"
theorem Gs:Ok P w mg base (T.f 53 rfl) 4 (E9 K mT):=by delta mT;walk_at "j"
theorem Bn:Ok P w mg base (T.f 54 rfl) 5 (E9 K jS):=by delta jS kN;walk_at "j"
theorem RR:Ok P w mg base (T.f 55 rfl) 6 (E9 K vC):=by delta vC uU uR uT;walk_at "j"
theorem Mh:Ok P w mg base (T.f 56 rfl) 1 (E9 K B7):=by delta B7;walk_at "j"
theorem wD{S:FV}(o:Ok P w mg base (T.f 57 rfl) Z (E9 K S)):Ok P w mg base (T.f 57 rfl) (Z+1) (E9 K (mJ S)):=by delta mJ mU;walk_at "j"
theorem Mf:Ok P w mg base (T.f 57 rfl) 3 (E9 K fE):=
 wD T (wD T (wD T ⟨⟨λ_ _ _ _ ⟨_,_,_,_,_,h,_⟩=>(nE h),λ_ _ _ _ _ _ _ _ _ _ _ _ _ ⟨_,_,_,_,_,h,_⟩=>(nE h)⟩,(T.f 57 rfl).F.binds λ_ _ _ _ _ _ us hl=>(by walk_at "b" : UY _ _ _ _ _) _ _ _ _ _ _ us hl⟩))
theorem Gq:Ok P w mg base (T.f 58 rfl) 1 (E9 K jR):=by delta jR fG fH;walk_at "j"
theorem Gp:Ok P w mg base (T.f 59 rfl) 2 (E9 K gg):=by delta gg;walk_at "j"
theorem Jh:Ok P w mg base (T.f 60 rfl) 3 (E9 K iP):=by delta iP;walk_at "j"
theorem Ji:Ok P w mg base (T.f 61 rfl) 4 (E9 K mf):=by delta mf ll lj;walk_at "j"
theorem Jg:Ok P w mg base (T.f 62 rfl) 3 (E9 K dQ):=by delta dQ;walk_at "j"
theorem Gn:Ok P w mg base (T.f 63 rfl) 1 (E9 K gd):=by delta gd oU oR oQ;walk_at "j"
theorem Mg:Ok P w mg base (T.f 64 rfl) 1 (E9 K ej):=by delta ej jY;walk_at "j"
theorem Jj:Ok P w mg base (T.f 65 rfl) 9 (E9 K cE):=by delta cE;walk_at "j"
theorem Me:Ok P w mg base (T.f 66 rfl) 10 (E9 K mS):=by delta mS vD;walk_at "j"
end
theorem all_mk{l:EH}{w:E1}{K:v9}{h:Heap}{mg:Str->Option t2}{fa:Addr}(X:K.In h)(G:h.Ns aq mg)(hfa:mg "law" = U (.ref fa)){C:Addr}{fs cs:List Addr}{ds:List T5}(aC:fx K aq "Table" = U (U (.ref C)))(A:Ns K C UT fs ds)(hc:(uD K C lL=Uf/\uF K C=Uf)/\EY K C=Uf/\aY K (.ref C) "__setattr__" = U (U (.builtin "object.__setattr__")))(mc:EJ K C=Uf)(kc:gT K (.ref C)=Uf)(na:Al (ay K C) ["scales","columns","multiples","weights","unit","rights","limits","chosen","full","size","inverse","prices"])(z:Al (λs=>fx K aq s=U J) ["abs","all","bool","dict","enumerate","int","isinstance","len","list","range","reversed","str","sum","tuple","zip"])(cc:Ck K cts cs):
  ∃fd:T5,(∀(s:v5) (v:t2),lJ s fd ⟨[v],[]⟩ [("_law_script",v)])/\∀base:Heap,K.In base->base.Ns aq mg->bc l.prog w K mg base sS 10 fa fd ["_law_script"] (E9 K mS):=by
 let ad:Ads:=⟨λi=>fs.getD i 0,λi=>ds.getD i (gR lL lL (iK (top 0)) (cj (top 0)) (M3 (top 0)) .none .none .none .none J .none .none),λi=>cs.getD i 0,C⟩
 have T:Txt K mg ad:=⟨λi _ _ _ _ m=>by
  cases A.at m with
  |f a r=>exact⟨Uv r,Es X G a⟩,λi _ _ _ _ _ _ m=>by
  cases A.at m with
  |m a b r=>exact⟨Uv r,a,b,(Uv r).kp⟩,λi _ _ _ _ _ m=>by
  cases A.at m with
  |i a b r=>exact⟨Uv r,mc,a,b,kc⟩,⟨aC,⟨hc.1.1,hc.1.2,hc.2.1,hc.2.2⟩⟩,Es X G aC,λ_ m=>na.at m,λ_ m=>PySem.W.mg_none_of X G (z.at m),λi _ _ m=>⟨Es X G (cc.at m).1,(cc.at m).2.to⟩⟩
 have e:fa=ad.f 66:=Value.ref.inj (V0 (hfa.symm.trans (T.f 66 rfl).m));exact⟨ad.d 66,λs v=>(A.at (i:=66) rfl).to (by walk_at "b") s [v] rfl,λbase _ _=>e▸(Me T).h⟩
theorem walk {l:EH} {XP:(Str->Option t2)->Heap->Prop} {YP:E1->Heap->Prop} {d:DefRec} {K:Params->v9} (hL:∀ns:List Int,ns.length<=63->mS [.list (ns.map .int)]=U (.dat (.bool Uf))) (hn:l.most=U 63) (hdf:d.params.defaults=[]) (hY:∀(w:E1) (h:Heap),YP w h->(K w.params).In h) (F:∀(w:E1) (mg:Str->Option t2) (fa:Addr) (h:Heap),(K w.params).In h->h.Ns aq mg->mg d.name=U (.ref fa) ->
   ∃fd:T5,(∀(s:v5) (u:t2),lJ s fd ⟨[u],[]⟩ [("_law_script",u)])/\∀base:Heap,(K w.params).In base->base.Ns aq mg->bc l.prog w (K w.params) mg base sS 10 fa fd ["_law_script"] (E9 (K w.params) mS)) :
  PySem.W.WalkO P S XP YP l.row.toRowW d [] (λf vs=>Ec f vs):=
 L2.Vt (n:=63) (k:=10) (x:="_law_script") (CX:=λ_=>sS) (sp:=λw=>E9 (K w.params) mS) hn f5 hdf ⟨rfl,by decide,by decide⟩ hY F (λ_ _ a ns hl _ hS=>⟨[],[.list (ns.map .int)],_,λa h=>absurd h B3,.cons (.lst (VE hS) (Tc ns)) .nil,hL ns hl,λv H' _ r=>XF r⟩) λ_ _ _ _ _ z=>z
end Law
local macro_rules|`(tactic|walk_at "k")=>`(tactic|(refine' Law.Rw.mk ?l ?c ?k;(case l=>k_is);(case c=>k_is);(case k=>k_is)))
local macro_rules|`(tactic|walk_at "p")=>`(tactic|first|exact .n|exact .c (.f (by k_is) (by walk_at "k")) (by walk_at "p")|exact .c (.m (by k_is) (by k_is) (by walk_at "k")) (by walk_at "p")|exact .c (.i (by k_is) (by k_is) (by walk_at "k")) (by walk_at "p"))
local macro_rules|`(tactic|walk_at "e")=>`(tactic|first|exact .n|exact .i|exact .c (by k_is) (by walk_at "e") (by walk_at "e")|exact .c (by walk_at "e") (by walk_at "e")|exact .t (by k_is) B3 (by walk_at "e"))
local macro_rules|`(tactic|walk_at "a")=>`(tactic|repeat first|exact .n|refine .c (by show _ = _;k_is) ?_)
structure PySem.W.Fast:Prop where
 (tw10009963237018315890 tw10099706806474706371 tw10109327093604111915 tw10203812059156309526 tw1029162555941202272 tw10305479988485461838 tw10501154525780463865 tw10516202113080910011 tw1097299884865244564 tw11047239130406159693 tw11161195090215526475 tw11190741923378155410 tw11254748527214346559 tw11443751303434561052 tw11444827920090609564 tw11510734581288989174 tw11522131830112565591 tw11641225530305757777 tw11645270423393587804 tw11671113414772738356 tw11736922455031948389 tw11830508469600337331 tw11902900876052747798 tw12119627978782551192 tw12255665880566863776 tw12428544258663396302 tw12528734354927271865 tw12612989345194541861 tw12744766716538118457 tw12860763390967372130 tw128865819715053745 tw13035542748562009886 tw13263239110821308478 tw1346149376979299356 tw13650939550109991417 tw13671027349480704316 tw13702077502328065642 tw13736461606514815429 tw13867110726289810992 tw14054284729443889653 tw14073027293766142969 tw14088099835869653055 tw14102708210034986043 tw14174603155028366471 tw14206357937247951755 tw1421614279073364974 tw14306505022823235409 tw14464375333922192937 tw14642772148926534348 tw14809667712135506719 tw14844292788788747063 tw14873777744849814610 tw14932443795499334558 tw150488616403850335 tw15524722762454562479 tw15553698774701484687 tw15615231614936818393 tw15654631866376164742 tw15681154891432655250 tw15715825240695804298 tw15888645382997790805 tw15891812622894375087 tw15932752896302955866 tw15991071348948452546 tw15995446146114929987 tw16094917259824390340 tw16220550293597336522 tw16422664803963827787 tw16474275468324854045 tw16474940965337680548 tw1649258198214534997 tw16618788895610334169 tw16652745337308610591 tw16693485244923595594 tw16908083628878328548 tw16984779399060772222 tw17036627618997241569 tw17134309669807560538 tw17201674492012844537 tw17336047069364905795 tw17586296513503777097 tw17649832559494177324 tw17723059345355515386 tw17817991536626716489 tw1801764224626055162 tw18079194558630259848 tw18152124874970297511 tw18182378445275455994 tw18429063840439040134 tw2019015694028256106 tw207767017093555677 tw2414921726554100714 tw2422728816252393797 tw2650404757974406879 tw2764108428750496001 tw2779067582092881217 tw2839050998159059865 tw2931570195819736717 tw3050530934065550644 tw3237386257946204678 tw3317398939828275818 tw3378600170987497045 tw3412422178574769569 tw3547211871304764140 tw3717833173275786923 tw3938347831884629791 tw4128376767839944270 tw4206271441847329556 tw4258671136985989602 tw4385320207388994584 tw4386813494877914650 tw4399121639161736309 tw4402484936788715414 tw449635440773764051 tw4654797616242341580 tw4724227836111279404 tw4750621800728921004 tw5028171780284252794 tw5055492285192284503 tw5094916910049506652 tw5105200940451588201 tw5243049409184077908 tw5652271829582030085 tw5671492693645070515 tw5836596272366452062 tw58780533084122205 tw6071274263707821259 tw6099950275264580957 tw6188129548151869357 tw6367367878807644750 tw653822118725063045 tw6587958341422900630 tw6588990692159804287 tw6694698454148126997 tw6754963912404999241 tw6862177774095498519 tw6867621349815955449 tw69058061512051844 tw6973838166223662407 tw7091953799923892923 tw7149936182790252151 tw7164614911207958784 tw7198325072543584898 tw7232325581308490086 tw7292962992071871658 tw7297152965477628181 tw7297370927463120364 tw7375331817959107785 tw7492049710743101144 tw7598676949782691831 tw7793743404214972826 tw7841346807139281344 tw7961146903821724621 tw7980434282054583732 tw7994638713865031652 tw8031279691028340425 tw8053393280484195561 tw8234751706505650588 tw8345774980230688956 tw8408123940577256469 tw8696106621282901067 tw8774649387306515357 tw8919810187887689321 tw8975854355795281444 tw8986779774262724024 tw908769384205361472 tw9089811093828718973 tw9121034073922135254 tw9380794598897771010 tw96467417596046035 tw9718014910981093602 tw9730934910179984432 tw9775356679928518009 tw9840069097651551183 tw9888041183169460018 tw990131816143368089 tw2681583981066203412 tw17993367397216138285 tw219156115267959124 tw9049000432100816410 tw18230710453866908575 tw7933030776122504138 tw10015861436650206916 tw84615594243984264 tw4736143964353162222 tw17402720939514476404 tw17332697912108335313 tw14139134464958797403 tw1184603421931612925 tw11056808280896387377 tw10346201761450937000 tw5973481230351630143 tw15078137768929792759 tw15341549834931261494 tw8208761999731155610 tw6677354264765421565 tw2858999084235218304 tw14881781111241719645 tw6223687315047025818 tw6289356604283738794 tw15376865838091075345 tw16033598937133837121 tw10403327694505022337 tw12286664782282060611 tw11913973039123408324 tw3935768411734690611 tw8704705090055048041 tw479557511414752166 tw17563448258548386301 tw12711651337941991352 tw5710827348138396253 tw10619292066821733012 tw6297418913651643446 tw4746009752380888287 tw9863799388483599793 tw4552177217543868931 tw12977863592256060677 tw9901581709009601504 tw14765410066863259876 tw6944359905352049376 tw4453306094982878867 tw934260456962512961 tw9284130016715275029 tw9064826531902000205 tw4406099762290697945 tw2172642357746485592 tw16065020593987229578 tw13524574143279504511 tw12394066374899392129 tw4819525919312294601 tw17435187782602029402 tw7403085518778651424 tw5541320415391317155 tw4159755839742337780 tw2797723086027554251 tw16914435965686417582 tw10820191676653523517 tw11811720862623997117 tw5403035231271703042 tw17017913616011176768 tw8775748432019663540 tw7763243028029345401 tw7556896163566671066 tw7431529380898529038 tw7322467567282444064 tw7186250764857228940 tw7148215735390128528 tw7125606826686525570 tw6726828559710735385 tw5812976376873011093 tw5593921400859726779 tw5465183937465437924 tw5406249791061674366 tw517157420364967586 tw4819695689381969236 tw4348156889605016273 tw4141589688868927557 tw3025361924429709620 tw2913304001476692619 tw2808158737208387513 tw2265368000856403910 tw2239786417673486794 tw1955722914871030754 tw18288018714494424260 tw18093737685483932841 tw17483762624508356214 tw16764828125070601229 tw16715622154791725400 tw16678595736127071453 tw16578411464756760565 tw16404371161909315915 tw1606013868900248628 tw1604850383245910409 tw15761218582838332282 tw15360611463328130188 tw1518725601868441845 tw15155859562512322368 tw11811366882250440434 tw11052219027717541592 tw10356505518080773860 tw9108770356216801447 tw6058606059764859145 tw12140701850221988863 tw9312394763725410976 tw919859319219651926 tw8181549093878668170 tw24394988512030512 tw15209549202637889342 tw14194660237963697490 tw13009635557773809057 tw12592205973043950361 tw12524924902726055533 tw9554773609882437380 tw15864073646847422603 tw2099382741979372123 tw16020357936513065169 tw4700893051434487816 tw14474364023471617394 tw3509479831649251 tw18203407041459154051 tw11046782023246292588 tw13252240413155970912 tw11296302720154655792 tw4838486721676995078 tw17867562284984562328 tw12520215457426623664 tw12348429091004770080 tw7965192450496471573 tw16709721994445491017 tw14715471867381925001 tw9852452135035319814 tw6292220591950510767 tw462394641917982084:True)
open PySem PySem.W PyProof.Rows
set_option maxRecDepth 100000 in
set_option maxHeartbeats 0 in
theorem PySem.Challenge.cw_sunstore_k92_whole_scaled_and_idle_holds : PySem.Challenge.rw_sunstore_k92_whole_scaled_and_idle.Holds := by
 w_on;o_law;k_head;(case hw=>w_witness2)
 k_fill
 refine Law.walk (l:=PySem.Challenge.rw_sunstore_k92_whole_scaled_and_idle) Law.Ss rfl rfl (λw h Y=>PySem.W.kIn_of Y) ?F
 case F =>
  intro w mg fa h KX G hmg;exact Law.all_mk KX G hmg (by k_is) (by walk_at "p") ⟨⟨by k_is,by k_is⟩,by k_is,by k_is⟩ (by k_is) (by k_is) (by walk_at "a") (by walk_at "a") (by walk_at "e")
