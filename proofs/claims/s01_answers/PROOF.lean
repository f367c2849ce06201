import PyProof.Rows.All
import Wide.All
import OpenK.AllK
import Wide.FinOn
import PyProof.EqAt
import PyProof.EqKinds
import PyProof.TupleCall
import KE.BitLaws
import Open.SpecLaws
import KE.OsHead
import KE.OsGo
import VbcrafSpec
import PySem.Challenge.RW_greentrace_s01_answers
import PyProof.TupleKey
import PyVbcraf
import PyProof.Rows.SortShellAny
set_option Elab.async false
set_option linter.all false
set_option maxRecDepth 100000
set_option maxHeartbeats 4000000
set_option tactic.hygienic false
set_option compiler.extract_closed false
open Array renaming getElem?_eq_getElem->t9,length_toList->wC,getElem?_toList->AG,getElem?_eq_none->HP,getD_eq_getD_getElem?->Q1,forIn_toList->aey,getElem?_map->aeA
open Bool renaming false_ne_true->dJ,noConfusion->kQ,and_eq_true->o8,and_eq_true_iff->tW,false_eq_true->Aj,eq_iff_iff->HC,decide_and->adZ
open Char renaming toNat->Qc
open Eq renaming symm->kR
open False renaming elim->iZ
open ForInStep renaming yield->HN
open Int renaming toNat_natCast->gk,toNat->mZ,gcd->n_,natCast_nonneg->tY,lt_of_toNat_lt->xb,le_of_lt->As,ofNat_add_one_out->AI,toNat_of_nonneg->AJ,natAbs_natCast->Q7,natAbs_mul->aeP,not_ofNat_neg->ae8
open List renaming length_map->aY,mem_map->bF,mem_cons_of_mem->bG,mem_of_getElem?->bO,mem_cons_self->bQ,range->bV,map_cons->cx,getElem?_eq_getElem->cA,map_map->cC,map_append->cF,replicate->cS,mem_cons->cU,length_append->dB,mem_append->eF,length->eI,getElem?_map->eJ,take_length->eK,foldl_cons->fI,mem_singleton->fJ,getElem?_eq_some_iff->fP,append_nil->g9,mem_map_of_mem->g_,getD_eq_getElem?_getD->ir,length_cons->iu,sum_cons->jk,map_congr_left->jq,flatMap_cons->jr,length_take->jK,map->jL,zipWith->kS,mem_range->kT,nodup_cons->lV,append_assoc->lW,mem_of_mem_take->lY,take_append_drop->lZ,mem_append_left->mS,getElem?_eq_none->mU,mem_append_right->nW,all_map->nX,all_eq_true->nY,eq_nil_of_length_eq_zero->ow,all_cons->o7,any_cons->o9,range_succ->pk,forall_mem_cons->pG,length_drop->q0,size_toArray->rb,map_take->rh,nodup_nil->rm,drop_eq_getElem_cons->tU,ext_getElem?->tZ,map_drop->t_,flatMap_append->ua,not_mem_nil->ub,length_set->wB,length_pos_iff->wD,mem_or_eq_of_mem_set->wI,map_nil->wJ,range'->wK,getElem_mem->wL,flatMap_nil->wM,length_nil->wU,getElem?_of_mem->wY,getElem?_append_right->w9,drop_drop->xj,mem_filter->Ae,of_mem_zip->Ah,zip_map->Am,flatMap_map->Ao,filter->Ap,filterMap_map->Av,map_filterMap->Aw,map_id'->Ax,getElem?_drop->AD,getElem?_append_left->AE,mem_filterMap->HB,foldl->HJ,range_succ_eq_map->HK,getElem?_cons_zero->HQ,getElem?_cons_succ->HR,length_eq_zero_iff->HZ,sum_append->Ia,getElem?_set->Io,foldl_append->Ip,foldl_nil->Iq,getLastD_concat->Iz,filterMap_cons->IC,flatten_cons->IM,dropLast_eq_take->IS,drop_succ_cons->I0,drop_left->I_,getElem?_set_self->PM,getElem?_set_ne->PN,replicate_succ->P8,nil_append->P_,take_of_length_le->P',map_replicate->Qp,set_eq_of_length_le->Qq,map_set->Qt,mem_flatMap->Qu,map_eq_nil_iff->Qv,filter_eq_nil_iff->Qw,eq_of_mem_replicate->Qy,filterMap_append->QF,getElem_of_mem->QL,nodup_range->QQ,mem_of_mem_drop->QR,length_take_le->QT,length_range->QU,getElem?_replicate->Q3,drop_eq_nil_of_le->Q5,take_zero->Q6,zip_cons_cons->Q_,length_dropLast->Ra,getElem_inj->ac4,any_eq_false->ac6,forIn_nil->adh,forIn_cons->adi,drop_zero->ads,drop_length->adt,set_cons_zero->adL,range'_succ->adM,zipIdx_cons->adN,range_eq_range'->adO,filter_map->adQ,length_filterMap_le->adW,filterMap->adX,map_uncurry_zip_eq_zipWith->adY,dropLast_concat_getLast->ad_,getLastD_cons->ad',getLastD_nil->aea,map_snd_zip->aec,zipWith_cons_cons->aef,zipWith_nil_left->aeg,pairwise_cons->aen,pairwise_iff_getElem->aep,pairwise_append->aeq,getElem_append_right->aev,perm_ext_iff_of_nodup->aex,getElem?_toArray->aeG,getElem?_take->aeI,flatten_nil->aeJ,getElem?_append->aeL,find?_cons->aeN,getLast?_eq_some_iff->aeO,any_eq_true->aeQ,map_dropLast->aeS,length_replicate->aeX,zip_append->ae0,dropLast_concat->ae1,findIdx_cons->ae9,length_take_of_le->afh
open List.cons renaming inj->II,injEq->aeR
open Nat renaming le_trans->bq,le_refl->bx,zero_le->bM,ne_of_lt->dn,le_of_succ_le->dZ,lt_of_lt_of_le->fz,pow_le_pow_right->gj,le_of_lt->gC,lt_of_le_of_lt->iP,gcd->jo,ne_of_gt->j5,le_succ_of_le->lX,le_of_not_lt->og,le_of_lt_succ->oj,lt_or_ge->om,lt_irrefl->o6,lt_succ_of_lt->o_,le_of_eq->qZ,mul_pos->rg,mod_lt->tV,mod_eq_of_lt->t7,min_eq_left->t8,lt_succ_self->wu,toDigits->wF,mul_le_mul->wR,le_add_right->wW,add_comm->wX,pow_succ->wZ,lt_succ_of_le->w8,le_add_right_of_le->Ar,le_of_dvd->Au,sub_self->AB,mul_ne_zero->HV,gcd_dvd_left->HY,one_pos->Ic,one_le_two_pow->Ig,pow_add->Ih,mul_le_mul_left->Ii,div_le_self->Ik,gcd_le_right->Il,not_lt_zero->ID,lt_of_sub_eq_succ->IF,le_of_not_ge->IK,add_sub_self_left->IL,strongRecOn->Qg,le_add_of_sub_le->QB,log2_lt->QC,gcd_pos_of_pos_right->QD,sub_succ_lt_self->QE,succ_le_succ->QJ,succ_pos->QN,lt_trichotomy->QS,add_sub_of_le->QY,min_eq_right->Q4,succ_ne_self->adp,digitChar->adu,toDigits_of_lt_base->adv,add_le_add_left->ady,gcd_pos_of_pos_left->adG,gcd_dvd_right->adH,div_mul_cancel->adI,mul_div_assoc->adK,mul_le_mul_right->adT,eq_zero_or_pos->adV,mod_eq_sub_mod->aej,mod_mod_of_dvd->aek,two_pow_pos->ael,succ_add_eq_add_succ->aer,add_lt_add_right->aes,le_of_add_right_le->aeu,add_assoc->aew,eq_of_le_of_lt_succ->aeC,add_le_add_right->aeH,sub_add_cancel->aeZ
open Nat.ToInt renaming of_le->Qz
open Nat.succ renaming inj->Qo
open Ne renaming symm->kP
open Option renaming none->aq,map->Q0,getD_some->aeh,map_some->aez
open Option.some renaming inj->cE,injEq->adn
open Or renaming inr->rf,inl->Ak
open PyFlat renaming calls->ou,told->xc,played->IZ
open PyInside renaming calls->IY,within->Ro,lists->aff,call->afg
open PyProof.Rows renaming callWith_type1->tR
open PyProof.Rows.F renaming entry_set_update_loop->IE,plain_set_update_loop->IG
open PySem renaming Addr->ae,Shared->aj,Heap->ax,wpAny_bind->aA,Program->aC,FuncData->aK,Spec->aN,sizeLine->bf,wpAny_pure->bh,starEach->bP,boot_len->du,mainGlobals->d7,IsPair->d_,tupleKeyHash->eY,compareOp->gE,cellsFrom->gR,sysModules->iQ,IsTupleKey->iS,NameKind->jv,compEnvC->jw,mem_of_lookup->jJ,wpAny_mono->jM,intKind->j8,wpAny_holding->kX,backToKw->kY,keywordEach->kZ,bootBuiltins->l_,wpAny_field->md,wpAny_truthy_bool->oz,attributeBase->oA,wpAny_seqItems->oB,sizeLine_eq->pH,call_meets->pI,wpAny_call_entry->pJ,wpAny_setState_of->pK,swapsWith->rD,codeAny_mono->rE,pushCells->rF,codeAny_builtin->rG,wpAny_passesOwn->uf,hashByValue->ug,plainId_quiet->uh,wpAny_pyIter_list->xk,wpAny_Call_Name_kw->xm,wpAny_pyIter_zip->xn,wpAny_setField_rec->xq,SetTable->Az,foldedSetIterable->AL,wpAny_setField->AN,wpAny_askSetting->AO,strKind->IH,richCompare_meets_room->Ja,Within->PL,evalArgs_none->ac',getD_mem->adf,Builtin->adq,intText?->adx,intKind_is->ae_
open PySem.Builtin.Int renaming intBits->Ij
open PySem.Builtin.List renaming listTooLong->P9,listSameRef->afa,listExtendWith->afc
open PySem.Builtin.SmallTypes renaming nextOf->Iv,ownedTupleIsFree->QG
open PySem.Builtin.Str renaming strKind->mV,occurrences->adw
open PySem.Calls renaming spliced_cons->HF,callWith_builtin->HI,spliced_nil->PY,evalArgs_plain->PZ,Name_function_global->ac5
open PySem.Challenge renaming rw_greentrace_s01_answers->rC
open PySem.Draws renaming list->wV
open PySem.F renaming called_set->rq,slot_str_split->HS,plainAttrs_list->Ir,slot_zip_next->Iw,slot_tuple_iterator_next->Iy,slot_dict_get->Qb,entry_str_split->Qh,args_str_split_2->Qi,slot_list_append->ada,slot_list_extend->adb,slot_list_pop->ade,slot_list_index->adg,entry_dict_get->adk,args_dict_get_3->adl,plainAttrs_dict->adm,slot_list_eq->ad0,entry_list_eq->ad1,args_list_eq_2->ad2,slot_list_ne->ad3,entry_list_ne->ad4,args_list_ne_2->ad5,entry_tuple_iterator_next->ad7,args_tuple_iterator_next_1->ad8,args_object_init_3->ad9,entry_type_call->aeE,slot_set_iter->ae',plain_list_iadd->afb
open PySem.Heap renaming get?_push_of_some->bL,lt_size->bU,get?_push_size->cV,size_push->eG,SameBut->gD,get?_update_self->tT,get?_update_other->HH
open PySem.Heap.SameBut renaming update->kU
open PySem.NameKind renaming free->Qa
open PySem.Obj renaming mapSeq->q_,data_mapFields->rk,isFreed_of_fields->QH,cls_mapFields->QI,putSet->QZ
open PySem.Paired renaming length->o5
open PySem.PassesOwn renaming never->d9
open PySem.PyData renaming keyHash->hU,eqv->HM
open PySem.SeqAt renaming shaped->Ai
open PySem.SetTable renaming insertAt->rp,grown->w_,advance->AA,sizeAbove->AF,layClean->QV,laid->QW,fill->QX,probeStart->aet
open PySem.SetTable.layClean renaming free->IA
open PySem.SetTable.probe renaming go->QO
open PySem.SetTable.sizeAbove renaming go->IB
open PySem.Shared renaming TypeIs->Q2
open PySem.Str renaming empty->jI,ofString->Qe
open PySem.Txt renaming split->mW,join->pd
open PySem.Value renaming ref->iO,bool->tQ,none->Ad,str->HA,isInt->PF,isStrOf->PH,isStrOf_shape->ac1
open PySem.W renaming Frag->ah,WData->fB,fnOf->j6,findIn->lU,keepIn->mT,nsIn->m3,mg_of->ox,emptyDict->tS,instObj->wo,codeIn->wA,plainGet->Af,isFn->Ag,lookIn->HD,hasDictIn->HE,callWith_K->HG,plainGet_of->PQ,plainOver->PU,takerIn->PV,makesIn->PX,handedIn->ac7,methodCall_KW->ac8,callWith_K0->ac9,cellsFrom_some->ac_,WRecords->adz,length_le_weightAllW->adA,WalkOS->adB
open PySem.W.Codec renaming encAll->wG,app->wH,denoteAll->Al,withinAll->Qj
open PySem.W.WData renaming weightAll->HU
open PySem.Walks renaming list->HL
open PySem.pickOrder renaming go->Rn
open PyVbcraf renaming shape->pA,answers->ue,bound->xi,whole->aeU,calls->aeV,answers_asked->afi
open Rat renaming le_trans->d5,le_of_lt->d8,intCast_le_intCast->i5,add_zero->jj,intCast_nonneg->mX,le_refl->mY,intCast_pos->nZ,intCast_add->tX,div_mul_cancel->wN,mul_comm->wO,not_lt->wQ,mul_pos->An,mul_le_mul_of_nonneg_right->Aq,add_assoc->HW,zero_add->HX,mul_nonneg->H_,intCast_mul->Ib,lt_irrefl->Ie,num_nonneg->Im,mul_lt_mul_of_pos_right->IJ,den_mkRat->Ql,mul->Qm,add_nonneg->Qr,inv_pos->Qs,mkRat_eq_div->Qx,intCast_sub->QA,num_mkRat->adC,mkRat_self->adF,intCast_eq_zero_iff->adS,mul_assoc->aeK
open Sum renaming inr->eE,inl->fu
open True renaming intro->wt
open Vbcraf renaming word->cu,isName->cy,Store->cH,Deed->dM,kilosIn->dP,deedIn->dW,indexOf->d6,splitAt->eM,splitWords->fA,all->fK,deedWords->fQ,choose->gm,digit->gP,inside->gQ,step->hJ,zero->i6,placeOf->jt,readLine->ju,small->j7,isLot->kW,num->oh,readLines->oo,readText->oq,joined->pq,isSold->pC,Text->rA,qRow->rB,lotOf->t5,waysIn->t6,frac->uc,isPlace->ud,counted->xf,soldGreen->xg,byte->xh,unlike->Ay,soldCount->AK,natOf->Iu,between->IP,shown->IQ,emptyStore->IT,greenAt->IU,enough->IV,recall->IW,lt->IX,decimal->QK,entryLine->Q8,line->Q9,greenOf->Rb,partsAt->Rc,everywhere->Rf,soldAll->Rg,Call->Rh,atPlace->Ri,surely->Rj,widthWith->Rk,worstWith->Rl,bestAsk->Rm,lotName->aed,placeName->aee,kilosOf->ae6,shareOf->ae7,callOf->afe
open VbcrafNeutral renaming step->pE
structure Bx_(T:Prop):Prop where h:T
theorem bx_{T:Prop}(h:Bx_ T):Bx_ T=True:=eq_true h
local macro_rules|`(by? $t)=>`(by apply Bx_.h;simp(disch:=(refine ⟨?_⟩;with_unfolding_all $t))only[↓bx_])
local macro_rules|`(%[$x,*|$y])=>`(⟨$x,*,$y⟩)
local macro_rules|`(tactic|cbv)=>`(tactic|simp_all)
local macro_rules|`(↥$x)=>`(($x).heap.objs.size)
inductive X1{a:Sort _}(P:a->Prop):Prop
 |mk x(b:P x)
inductive X2{a b:Sort _}(P:a->b->Prop):Prop
 |mk x y(c:P x y)
inductive X3{a b c:Sort _}(P:a->b->c->Prop):Prop
 |mk x y z(d:P x y z)
inductive X4{a b c d:Sort _}(P:a->b->c->d->Prop):Prop
 |mk x y z u(e:P x y z u)
inductive X5{a b c d e:Sort _}(P:a->b->c->d->e->Prop):Prop
 |mk x y z u v(f:P x y z u v)
inductive X6{a b c d e f:Sort _}(P:a->b->c->d->e->f->Prop):Prop
 |mk x y z u v w(h:P x y z u v w)
inductive X7{a b c d e f g:Sort _}(P:a->b->c->d->e->f->g->Prop):Prop
 |mk x y z u v w t(h:P x y z u v w t)
inductive A2(a b:Prop):Prop
 |mk(c:a)(c:b)
inductive A3(a b c:Prop):Prop
 |mk(d:a)(d:b)(d:c)
inductive A4(a b c d:Prop):Prop
 |mk(e:a)(e:b)(e:c)(e:d)
inductive A5(a b c d e:Prop):Prop
 |mk(f:a)(f:b)(f:c)(f:d)(f:e)
inductive A6(a b c d e f:Prop):Prop
 |mk(h:a)(h:b)(h:c)(h:d)(h:e)(h:f)
inductive A7(a b c d e f g:Prop):Prop
 |mk(h:a)(h:b)(h:c)(h:d)(h:e)(h:f)(h:g)
inductive A8(a b c d e f g h:Prop):Prop
 |mk(i:a)(i:b)(i:c)(i:d)(i:e)(i:f)(i:g)(i:h)
inductive A9(a b c d e f g h i:Prop):Prop
 |mk(j:a)(j:b)(j:c)(j:d)(j:e)(j:f)(j:g)(j:h)(j:i)
inductive U6(a b c d e f g h i j:Prop):Prop
 |mk(l:a)(l:b)(l:c)(l:d)(l:e)(l:f)(l:g)(l:h)(l:i)(l:j)
def bK{p:Prop}[Decidable p](h:¬p):decide p=false:=decide_eq_false h
def bT{p:Prop}[Decidable p](h:p):decide p=true:=decide_eq_true h
theorem aE{c:Prop}{a:Decidable c}(h:¬c){α:Sort _}{t e:α}:ite c t e=e:=if_neg h
theorem aS{c:Prop}{a:Decidable c}(h:c){α:Sort _}{t e:α}:ite c t e=t:=if_pos h
def aT{a b:Prop}(h:a)(k:¬a):b:=absurd h k
namespace L2
open PySem PySem.Spec PyProof.Rows
abbrev Key:=Sum Int Str
def oC:Key->Value->Bool
 |.inl k,v=>PF k v
 |.inr x,v=>PH x v
def AQ(w:World):Key->Int
 |.inl k=>hashInt k
 |.inr x=>hashStr w x
def m4:∀{k:Key} {v:Value},oC k v=true->(X2 λi t=>A2 (k=fu i) (v=Value.int i t))\/(X2 λx t=>A2 (k=eE x) (v=HA x t))
 |.inl i,v,h=>by obtain⟨t,e⟩:=Value.isInt_shape (k:=i) (v:=v) h;exact .inl %[i,t,rfl|e]
 |.inr x,v,h=>by obtain⟨t,e⟩:=ac1 (x:=x) (v:=v) h;exact .inr %[x,t,rfl|e]
def AR(i:Int)(t:Tok):oC (.inl i) (.int i t)=true:=by simp[oC,PF]
def AS(x:Str)(t:Tok):oC (.inr x) (.str x t)=true:=by simp[oC,PH]
def Rp(a b:Int):decide ((fu a:Key)=fu b)=(a==b):=by grind
def Rq(a b:Str):decide ((eE a:Key)=eE b)=decide (a=b):=by grind
def Rr(a:Int)(b:Str):decide ((fu a:Key)=eE b)=false:=bK (λq=>nomatch q)
def Rt(a:Str)(b:Int):decide ((eE a:Key)=fu b)=false:=bK (λq=>nomatch q)
def iw(prog:aC)(w:World):PySem.KeyKind prog w Key where
 is:=oC
 hash:=AQ w
 inj:=λv a b g f=>by
  rcases m4 g with⟨i,t,rfl,rfl⟩|⟨x,t,rfl,rfl⟩
  .rcases m4 f with⟨j,u,rfl,e⟩|⟨y,u,rfl,e⟩
   .injection e with c _;rw[c]
   .exact nomatch e
  .rcases m4 f with⟨j,u,rfl,e⟩|⟨y,u,rfl,e⟩
   .exact nomatch e
   .injection e with c _;rw[c]
 byValue:=λk v h=>by rcases m4 h with⟨i,t,rfl,rfl⟩|⟨x,t,rfl,rfl⟩<;>rfl
 pyHash:=λd h=>by
  rcases m4 d with⟨i,t,rfl,rfl⟩|⟨x,t,rfl,rfl⟩
  .exact wpAny_pyHash_int h
  .exact wpAny_pyHash_str h
 eqBool:=λl d h=>by
  rcases m4 l with⟨i,t,rfl,rfl⟩|⟨x,t,rfl,rfl⟩
  .rcases m4 d with⟨j,u,rfl,rfl⟩|⟨y,u,rfl,rfl⟩
   .rw[Rp]at h;exact wpAny_eqBool_int h
   .rw[Rr]at h;exact SeqAt.EqAt.int_str i t y u _ _ _ _ h
  .rcases m4 d with⟨j,u,rfl,rfl⟩|⟨y,u,rfl,rfl⟩
   .rw[Rt]at h;exact SeqAt.EqAt.str_int x t j u _ _ _ _ h
   .rw[Rq]at h;exact wpAny_eqBool_str h
 «strs»:=λk x t v h=>by
  rcases m4 h with⟨i,u,rfl,e⟩|⟨y,u,rfl,e⟩
  .exact nomatch e
  .injection e with c _
   subst c;cases v<;>rfl
theorem Ru(prog:aC)(w:World)(i:Int)(t:Tok):(iw prog w).is (.inl i) (.int i t)=true:=AR i t
theorem Rv(prog:aC)(w:World)(x:Str)(t:Tok):(iw prog w).is (.inr x) (.str x t)=true:=AS x t
inductive V where
 |bB|bl(b:Bool)|int(i:Int)|str(x:Str)|hW(b:Array UInt8)|xr(b:UInt64)|ref(a:ae)|ty(n:String)
 deriving DecidableEq
def RelV:V->Value->Prop
 |.bB,u=>u=Ad
 |.bl b,u=>u=tQ b
 |.int i,u=>∃t,u=Value.int i t
 |.str x,u=>∃t,u=HA x t
 |.hW b,u=>∃t,u=Value.bytes b t
 |.xr b,u=>∃t,u=Value.float b t
 |.ref a,u=>u=iO a
 |.ty n,u=>u=Value.type n
abbrev Vals:List V->List Value->Prop:=Paired RelV
theorem Vals.length{Φ:List Value}{ζ:List V}(r:Vals ζ Φ):ζ.length=Φ.length:=o5 r
theorem Vals.get:∀{b:List V} {a:List Value} {i:Nat} {x:V},Vals b a->b[i]?=some x->∃u,a[i]?=some u/\RelV x u
 |_,_,_,_,.nil,e=>by simp at e
 |_,_,0,_,.cons r _,e=>by grind
 |_,_,i+1,x,.cons _ t,e=>by obtain⟨u,c,d⟩:=Vals.get t (by simpa using e);exact%[u,by simpa using c|d]
theorem Vals.set{O:V}{η:Value}(r:RelV O η):∀{b:List V} {a:List Value} (i:Nat),Vals b a->Vals (b.set i O) (a.set i η)
 |_,_,_,.nil=>.nil
 |_,_,0,.cons _ t=>.cons r t
 |_,_,i+1,.cons q t=>.cons q (Vals.set r i t)
def Vals.append:∀{c a:List V} {b ws:List Value},Vals c b->Vals a ws->Vals (c++a) (b++ws):=by
 intro d d d d h s;induction h with
 |nil=>exact s
 |cons r _ t=>exact .cons r t
theorem Vals.take:∀{b:List V} {a:List Value} (n:Nat),Vals b a->Vals (b.take n) (a.take n)
 |_,_,0,_=>.nil
 |_,_,_+1,.nil=>.nil
 |_,_,n+1,.cons r t=>.cons r (Vals.take n t)
theorem Vals.drop:∀{b:List V} {a:List Value} (n:Nat),Vals b a->Vals (b.drop n) (a.drop n)
 |_,_,0,r=>r
 |_,_,_+1,.nil=>.nil
 |_,_,n+1,.cons _ t=>Vals.drop n t
def iy:Option V->Option Value->Prop
 |some v,some u=>RelV v u
 |none,none=>True
 |_,_=>False
def KV{κ:Type}:List (κ×V)->List (κ×Value)->Prop:=Paired λ(p:κ×V) (q:κ×Value)=>p.1=q.1/\RelV p.2 q.2
def kV:Key->V
 |.inl i=>.int i
 |.inr x=>.str x
inductive HO where
 |lst(b:List V)
 |tup(b:List V)
 |dK(a:List (Key×V))|dT(a:List (List Key×V))
 |set(S:Int->Bool)(n:Nat)
 |ins(C c:ae)(fs:List (Str×V))
 |own(x:ae)
 |xd(fs:List (Str×V))
 |met(f x:ae)
 |AU(g d:Int)
 |dX(o:Obj)(u:HO)
 |pL(e:Array Value)
 |ext(φ:ax->Prop)
abbrev Hp:=ae->Option HO
def upd(H:Hp)(a:ae)(o:HO):Hp:=λb=>if b=a then some o else H b
section
variable{H J:Hp}{P:aC}{a e f x:ae}{ex Μ:List ae}{h u:ax}{o ψ:HO}{w:World}{χ:Obj}
theorem ak:upd H a ψ a=some ψ:=by grind [upd]
theorem aB(h:f≠a):upd H a ψ f=H f:=by unfold upd;rw[aE h]
def xt{u:HO}:upd (upd H a ψ) a u=upd H a u:=by grind [upd]
def eA{u:HO}(h:H a=some ψ)(c:H f=some u)(d:ψ≠u):a≠f:=by grind
def eZ(h:H a=some ψ)(c:H f=none):a≠f:=by grind
section
variable(P:aC)(w:World)
def eB(H:Hp)(h:ax)(a:ae):HO->Prop
 |.lst xs=>xs.length<=bf/\X2 λ(b:List Value) (n:Nat)=>A2 (Vals xs b) (h.get? a=some {cls:=.type "list",data:=.seq b.toArray n})
 |.tup xs=>xs.length<=bf/\∃b:List Value,Vals xs b/\IsTup h a b.toArray
 |.dK c=>c.length<=bf/\(a==iQ)=false/\∃g,KV c g/\h.DictOf (iw P w) a g
 |.dT c=>c.length<=bf/\(a==iQ)=false/\∃xs:List (List Key×ae×Value),
   Paired (λ(p:List Key×V) (q:List Key×ae×Value)=>p.1=q.1/\H q.2.1=some (.tup (p.1.map kV))/\RelV p.2 q.2.2) c xs/\
   ∃o i l,h.get? a=some o/\o.ExactDict/\o.data=.dict i l/\i.toList=xs.map (entryOfKey (tupleKind (iw P w)))/\(xs.map (·.1)).Nodup
 |.set S n=>h.SetOf (intKind P w) a S n
 |.ins C e fs=>H e=some (.own a)/\fs.length<=1000/\e≠a/\h.get? a=some (wo C e)/\
   X1 λd=>A3 (h.Ns1 e d) (∀f,iy (fs.lookup f) (d f)) (PL d (fs.map (·.1)))
 |.own _=>∃o,h.get? a=some o
 |.xd fs=>∃d,h.Ns1 a d/\∀f,iy (fs.lookup f) (d f)
 |.AU lo m=>X3 λt u v=>h.get? a=some {cls:=.type "range",data:=.fields #[.int lo t,.int m u,.int 1 v]}
 |.dX o u=>h.get? a=some o/\eB H h a u
 |.pL r=>h.get? a=some {cls:=.none,data:=.fields r}
 |.met f x=>h.get? a=some (PySem.W.methodObj (.ref f) (.ref x))
 |.ext φ=>φ h/\(∃o,h.get? a=some o)/\∀j k:ax,φ j->(∀o,j.get? a=some o->k.get? a=some o)->φ k
def cZ(H:Hp)(h:ax):Prop:=∀a o,H a=some o->eB P w H h a o
end
theorem eB.lt(x:eB P w H h a ψ):a<h.objs.size:=by?
 cases ψ with
 |lst xs=>obtain⟨i,i,i,i,e⟩:=x;exact bU e
 |tup xs=>obtain⟨i,i,i,p⟩:=x;exact p.lt
 |dK b=>obtain⟨i,i,i,i,ψ,i,i,e,i⟩:=x;exact bU e
 |dT b=>obtain⟨i,i,i,i,ψ,i,i,e,i⟩:=x;exact bU e
 |set S n=>obtain⟨ψ,i,i,i,e,i⟩:=x;exact bU e
 |ins C c fs=>obtain⟨i,i,i,e,i⟩:=x;exact bU e
 |own y=>obtain⟨i,e⟩:=x;exact bU e
 |xd fs=>obtain⟨i,⟨i,i,i,e,i⟩,i⟩:=x;exact bU e
 |AU lo d=>obtain⟨i,i,i,e⟩:=x;exact bU e
 |dX ob u=>obtain⟨e,i⟩:=x;exact bU e
 |pL g=>exact bU (x)
 |met f y=>exact bU (x)
 |ext φ=>obtain⟨i,⟨i,e⟩,i⟩:=x;exact bU e
def Paired.AV{N Ξ:Type}{F G:N->Ξ->Prop}:∀{c:List N} {d:List Ξ},Paired F c d->(∀a b,F a b->G a b)->Paired G c d:=by
 intro e e h f;induction h with
 |nil=>exact .nil
 |cons r _ t=>exact .cons (f _ _ r) t
def eB.me(x:eB P w H h a ψ)(k:∀b g,(b=a\/H b=some (.own a))->h.get? b=some g->u.get? b=some g)
  (D:∀b,H b=some (.own a)->J b=some (.own a))(E:∀b m,H b=some (.tup m)->J b=some (.tup m)):eB P w J u a ψ:=by?
 induction ψ with
 |lst m=>obtain⟨z,l,n,r,e⟩:=x;exact%[z,l,n,r|k _ _ (.inl rfl) e]
 |tup m=>obtain⟨z,l,r,ob,e,c⟩:=x;exact%[z,l,r,ob,k _ _ (.inl rfl) e|c]
 |dK s=>obtain⟨z,y,F,r,ob,i,j,e,c⟩:=x;exact%[z,y,F,r,ob,i,j,k _ _ (.inl rfl) e|c]
 |dT s=>
  obtain⟨z,y,m,r,ob,i,j,e,c⟩:=x;exact%[z,y,m,Paired.AV r λp q z=>%[z.1,E _ _ z.2.1|z.2.2],ob,i,j,k _ _ (.inl rfl) e|c]
 |set S n=>obtain⟨ob,i,j,t,e,c⟩:=x;exact%[ob,i,j,t,k _ _ (.inl rfl) e|c]
 |ins C L fs=>
  obtain⟨d,z,ne,e,A,⟨B,i,j,G,c⟩,r,I⟩:=x;exact%[D _ d,z,ne,k _ _ (.inl rfl) e,A,%[B,i,j,k _ _ (.inr d) G|c],r|I]
 |own y=>obtain⟨ob,e⟩:=x;exact%[ob|k _ _ (.inl rfl) e]
 |xd fs=>obtain⟨A,⟨B,i,j,e,c⟩,r⟩:=x;exact%[A,%[B,i,j,k _ _ (.inl rfl) e|c]|r]
 |AU lo M=>obtain⟨t,g,v,e⟩:=x;exact%[t,g,v|k _ _ (.inl rfl) e]
 |dX ob g K=>obtain⟨e,q⟩:=x;exact%[k _ _ (.inl rfl) e|K q]
 |pL N=>
  have e:=x;exact k a _ (.inl rfl) e
 |met f y=>
  have e:=x;exact k a _ (.inl rfl) e
 |ext φ=>obtain⟨p,⟨ψ,e⟩,st⟩:=x;exact%[st _ _ p λψ q=>k _ _ (.inl rfl) q,%[ψ|k _ _ (.inl rfl) e]|st]
theorem cZ.lt(x:cZ P w H h)(e:H a=some ψ):a<h.objs.size:=(x a ψ e).lt
def cZ.fresh(x:cZ P w H h)(e:h.objs.size<=a):H a=none:=by
 cases q:H a with
 |none=>rfl
 |some u=>exact aT (fz (x.lt q) e) (o6 _)
def cZ.kept(x:cZ P w H h)(k:∀b c,h.get? b=some c->u.get? b=some c):cZ P w H u:=λa ψ e=>
 (x a ψ e).me (λb c d q=>k b c q) (λd q=>q) λd d q=>q
def cZ.laid(x:cZ P w H h)(k:∀b d,h.get? b=some d->u.get? b=some d)(hp:h.objs.size<=a)(new:eB P w (upd H a o) u a o):cZ P w (upd H a o) u:=λb d e=>by?
 have g:=x.fresh hp;by_cases f:b=a
 .grind [ak]
 .rw[aB f]at e;exact(x b d e).me (λc v j q=>k c v q) (λc q=>by grind [aB]) λc i q=>by grind [aB]
def Rd(H:Hp)(a:ae)(u:HO):Prop:=H a=some u\/∃o,H a=some (.dX o u)
theorem Rd.ok(r:Rd H a ψ)(x:cZ P w H h):eB P w H h a ψ:=by
 rcases r with r|⟨o,r⟩
 .exact x a ψ r
 .obtain⟨b,q⟩:=x a _ r;exact q
def oE:Option HO->Prop
 |some (.lst _)=>True
 |some (.dK _)=>True
 |some (.dT _)=>True
 |some (.set _ _)=>True
 |some (.ins _ _ _)=>True
 |some (.ext _)=>True
 |_=>False
def cZ.write(ok:cZ P w H h)(d:oE (H x))(s:e=x\/H e=some (.own x))(k:∀b a,b≠e->h.get? b=some a->u.get? b=some a)(f:∃a,u.get? e=some a)
  (new:eB P w (upd H x ψ) u x ψ):cZ P w (upd H x ψ) u:=λb a q=>by?
 have j:∀c y,H c=some (.own y)->c≠x:=λc y r z=>by subst z;rw[r]at d;exact d
 have l:∀c i,H c=some (.tup i)->c≠x:=λc i r z=>by subst z;rw[r]at d;exact d
 by_cases n:b=x
 .grind [ak]
 .rw[aB n]at q;by_cases g:b=e
  .have m:H b=some (.own x):=by grind
   rw[q]at m;cases m;obtain⟨v,o⟩:=f;exact%[v|by rw[g];exact o]
  .refine(ok b a q).me (λc v p r=>k c v ?_ r) (λc r=>by grind [aB]) λc i r=>by grind [aB]
   grind
structure Un(fs ex:List ae)(H a:Hp)(h c:ax):Prop where
 keep:∀b o,h.get? b=some o->H b=none->b∉fs->b∉ex->c.get? b=some o
 slot:∀b o,h.get? b=some o->H b=none->b∈fs->b∉ex->∃sl,c.get? b=some {o with slots:=sl}
 free:∀b o,h.get? b=some o->H b=none->b∉ex->a b=none
 there:∀b o,h.get? b=some o->b∉ex->∃e,c.get? b=some e
 m5:∀b xs,H b=some (.tup xs)->a b=some (.tup xs)
 k_:∀b o u,H b=some (.dX o u)->a b=some (.dX o u)
 m6:∀b d,H b=some (.pL d)->∃more,a b=some (.pL (d++more))
def Un.any(c:Un Μ ex H J h u)(q:h.get? f=some χ)(n:H f=none)(d:f∉ex):∃sl,u.get? f=some {χ with slots:=sl}:=by
 by_cases g:f∈Μ
 .exact c.slot f χ q n g d
 .exact%[χ.slots|c.keep f χ q n g d]
def Un.kept(k:∀b c,h.get? b=some c->u.get? b=some c):Un Μ ex H H h u:=
 %[λb ob q a a a=>k b ob q,λb ob q a a a=>%[ob.slots|k b ob q],λa a a n a=>n,λb ob q a=>%[ob|k b ob q],λa a q=>q,λa a a q=>q|λa d q=>%[#[]|by rw[q];simp]]
def Un.refl:Un Μ ex H H h h:=Un.kept λa a q=>q
def Un.laid(k:∀b c,h.get? b=some c->u.get? b=some c)(hp:h.objs.size<=a)(f:H a=none):Un Μ ex H (upd H a o) h u where
 keep:=λb c q e e e=>k b c q
 slot:=λb c q e e e=>%[c.slots|k b c q]
 free:=λb c q n e=>by rw[aB (dn (fz (bU q) hp))];exact n
 there:=λb c q e=>%[c|k b c q]
 m5:=λb d q=>by grind [aB]
 k_:=λb c d q=>by grind [aB]
 m6:=λb g q=>%[#[]|by grind [aB]]
def Un.write(f:oE (H x))(p:e=x\/H e=some (.own x))(k:∀b c,b≠e->h.get? b=some c->u.get? b=some c)(i:∃c,u.get? e=some c):Un Μ ex H (upd H x ψ) h u:=by?
 have l:∀b,H b=none->b≠x:=λb n z=>by subst z;rw[n]at f;exact f
 have g:∀b,H b=none->b≠e:=λb n z=>by grind
 have d:∀b c,H b=some c->¬oE (some c)->b≠x:=λb c q nm z=>by grind
 refine%[λb c q n a a=>k b c (g b n) q,λb c q n a a=>%[c.slots|k b c (g b n) q],λb c q n a=>by grind [aB],λb c q a=>?_,
  λb j q=>by rw[aB (d b _ q λz=>z)];exact q,λb c j q=>by rw[aB (d b _ q λz=>z)];exact q|λb m q=>%[#[]|by rw[aB (d b _ q λz=>z),q];simp]]
 grind
def Jb(h:ax)(H:Hp):List ae:=(bV h.objs.size).filter λa=>(H a).isSome
def rH(h:ax)(H:Hp):ax:=PySem.W.hideAll h (Jb h H)
def Rw(h:ax)(H:Hp):(rH h H).objs.size=h.objs.size:=PySem.W.hideAll_size _ _
def Rx(e:h.get? a=some χ)(n:H a=none):(rH h H).get? a=some χ:=
 PySem.W.hideAll_get _ e λc=>by have q:=(Ae.mp c).2;rw[n]at q;simp at q
def Ry(e:(rH h H).get? a=some χ):h.get? a=some χ/\H a=none:=by
 have c:=PySem.W.of_hideAll _ e;refine%[c|?_];cases q:H a with
 |none=>rfl
 |some x=>
  grind [Jb,bU,rH,PySem.W.hideAll_none]
end
structure Mod(K:ah)(mg:Str->Option Value)(base:ax):Prop where
 rJ:K.In base
 glob:base.Ns d7 mg
 blt:∃mb,base.Ns builtinsNs mb/\∀x:Str,x≠"__name__"->mb x=l_ x
 nolimit:base.NoLimit
structure Cx where
 prog:aC
 w:World
 K:ah
 mg:Str->Option Value
 base:ax
 A:Around
 N:List Str
 gG:aj
 pM:Hp
 env:Env
 outer:List Env
 stack:List Env
 ex:List ae
 fn:Str->Bool
 calm:Bool
 pn:List (ae×Obj)
 xe:Value->aj->Prop
def lh(l:List Env):List ae:=l.filterMap (·.frame)
abbrev Cx.fs(X:Cx):List ae:=lh X.outer
def rK(a:Scope)(x:Str):Prop:=a.names.lookup x=some .local\/a.names.lookup x=some .cell\/a.names.lookup x=some .free
def Loc(a:Scope)(x:Str):Prop:=a.names.lookup x=some .local\/a.names.lookup x=some .cell
def Look(env:Env)(h:ax)(m:Str->Option Value)(x:Str)(u:Value):Prop:=
 (env.kindOf x=some .local/\m x=some u)\/((env.kindOf x=some .cell\/env.kindOf x=some .free)/\∃c,env.cells.lookup x=some c/\h.IsCell c (some u))
structure Cx.Ok(X:Cx):Prop where
 mod:Mod X.K X.mg X.base
 kind:X.env.scope.kind=.function
 glob:X.env.globals=d7
 blt:X.env.builtins=builtinsNs
 above:X.gG.heap.objs.size<=X.env.locals
 inj:∀x y c,X.env.cells.lookup x=some c->X.env.cells.lookup y=some c->x=y
 has:∀x,(X.env.kindOf x=some .cell\/X.env.kindOf x=some .free)->∃c,X.env.cells.lookup x=some c
 ui:∀x c,X.fn x=true->X.env.cells.lookup x=some c->X.gG.heap.objs.size<=c
 hd:X.calm=true->X.A.handled=none
 frames:X.A.frames=some X.stack
 xu:X.stack=X.outer\/(X.stack=X.env::X.outer/\X.env.frame=some X.env.locals)
 xw:∀b∈X.ex,b≠X.env.locals/\∀x c,X.env.cells.lookup x=some c->c≠b
 bs:∀b o,X.base.get? b=some o->X.gG.heap.get? b=some o/\X.pM b=none
 m7:X.base.objs.size<=X.gG.heap.objs.size
 uj:∀b o,X.base.get? b=some o->b∉X.ex
 uk:∀b∈X.ex,b∉X.fs
 j9:X.gG.heap.FunFrames X.base X.outer
 pN:∀b∈X.fs,X.pM b=none
structure Inv(X:Cx)(a:List (ae×Obj))(σ:List (Option V))(H:Hp)(s:aj):Prop where
 ok:X.Ok
 os:s.os=X.gG.os
 bare:AllBare s.gens
 base:Un X.fs X.ex X.pM H X.gG.heap s.heap
 loc:∃m,s.heap.Ns X.env.locals m/\∀(i:Nat) (x:Str) (v:V),X.N[i]?=some x->σ[i]?=some (some v)->rK X.env.scope x->∃u,RelV v u/\Look X.env s.heap m x u
 cell:∀x c,X.env.cells.lookup x=some c->∃v,s.heap.IsCell c v
 free:H X.env.locals=none
 jN:∀x c,X.env.cells.lookup x=some c->H c=none
 pin:∀p∈X.pn++a,s.heap.get? p.1=some p.2/\H p.1=none/\p.1≠X.env.locals/\p.1∉X.fs/\∀v,p.2.data≠.cell v
 aU:cZ X.prog X.w H s.heap
 len:σ.length=X.N.length
section
variable{A:Around}{E:Value->aj->Prop}{H J:Hp}{X:Cx}{a:ae}{h:ax}{j n:Nat}{s:aj}{x:Str}{Χ:List (Option V)}{δ:List (ae×Obj)}{η:Value}
def Cx.Ok.Rz{χ:Obj}(ok:X.Ok)(e:X.base.get? a=some χ):a∉X.fs:=λc=>by
 have:=(ok.j9.mem c).1
 grind
theorem Inv.bs(I:Inv X δ Χ H s):∀b o,X.base.get? b=some o->s.heap.get? b=some o/\H b=none:=λb o e=>
 %[I.base.keep b o (I.ok.bs b o e).1 (I.ok.bs b o e).2 (I.ok.Rz e) (I.ok.uj b o e)|I.base.free b o (I.ok.bs b o e).1 (I.ok.bs b o e).2 (I.ok.uj b o e)]
def Inv.bk(I:Inv X δ Χ H s):∀b o,X.base.get? b=some o->s.heap.get? b=some o:=λb o e=>(I.bs b o e).1
theorem Inv.mod(I:Inv X δ Χ H s):Mod X.K X.mg X.base:=I.ok.mod
def Inv.h_(I:Inv X δ Χ H s):X.K.In s.heap:=I.ok.mod.rJ.keeps I.bk
theorem Inv.lt(I:Inv X δ Χ H s):X.env.locals<↥s:=let%[_,a|_]:=I.loc;a.lt
def Inv.sz(I:Inv X δ Χ H s):X.gG.heap.objs.size<=↥s:=bq I.ok.above (gC I.lt)
def Inv.RA(I:Inv X δ Χ H s)(h:↥s<=a):a∉X.fs:=λb=>by obtain⟨d,o,c,d⟩:=I.ok.j9.mem b;exact aT (fz (bU c) (bq I.sz h)) (o6 _)
def Inv.pO(I:Inv X δ Χ H s):∀x c,X.env.cells.lookup x=some c->c≠X.env.locals:=λx c e z=>by
 obtain⟨v,o,d,hd⟩:=I.cell x c e;obtain⟨m,⟨f,g,h,a,b,i⟩,i⟩:=I.loc
 grind
theorem Inv.j9(I:Inv X δ Χ H s):s.heap.FunFrames X.base X.outer:=by?
 have all:∀(l:List Env),(∀b∈lh l,b∈X.fs)->X.gG.heap.FunFrames X.base l->s.heap.FunFrames X.base l:=by
  intro l;induction l with
  |nil=>intro n n;trivial
  |cons env r f=>
   intro c g;obtain⟨h,⟨L,o,m,i,j,hd⟩,k⟩:=g;have a:=c L (by grind [lh]);obtain⟨sl,e⟩:=I.base.slot L o j (I.ok.pN L a) a λz=>I.ok.uk L z a
   exact%[h,%[L,_,m,i,e|hd]|f (λb d=>c b (by grind [lh])) k]
 exact all X.outer (λn d=>d) I.ok.j9
theorem Inv.stack(I:Inv X δ Χ H s):s.heap.FunFrames X.base X.stack:=by?
 rcases I.ok.xu with e|⟨e,hf⟩
 .rw[e];exact I.j9
 .rw[e];obtain⟨m,a,b⟩:=I.loc;refine .cons (by rw[I.ok.kind];decide) hf a ?_ I.j9;exact Heap.get?_none_of_le (bq I.ok.m7 I.ok.above)
def Inv.AW(I:Inv X δ Χ H s):∀b∈lh X.stack,b∈X.env.locals::X.fs:=λb a=>by
 rcases I.ok.xu with e|⟨e,hf⟩
 all_goals grind [lh]
def Inv.Jc(I:Inv X δ Χ H s):∀b∈lh X.stack,H b=none:=λb a=>by
 rcases cU.mp (I.AW b a)with e|a
 .rw[e];exact I.free
 .obtain⟨d,o,c,d⟩:=I.ok.j9.mem a;exact I.base.free b o c (I.ok.pN b a) λz=>I.ok.uk b z a
def Inv.step{g':Array GenState}{d':Drawn}{ch:List ae}(I:Inv X δ Χ H s)
  (g:∀b∈ch,(b∈X.ex\/X.gG.heap.objs.size<=b)/\b≠X.env.locals/\(∀x c,X.env.cells.lookup x=some c->c≠b)/\∀p∈X.pn++δ,p.1≠b)
  (keep:∀b o,b≠X.env.locals->b∉X.fs->b∉ch->s.heap.get? b=some o->H b=none->h.get? b=some o)
  (slot:∀b o,b≠X.env.locals->b∈X.fs->b∉ch->s.heap.get? b=some o->H b=none->∃sl,h.get? b=some {o with slots:=sl})(free:∀b o,b∉ch->s.heap.get? b=some o->H b=none->J b=none)
  (there:∀b o,b∉ch->s.heap.get? b=some o->∃D,h.get? b=some D)
  (m5:∀b A,H b=some (.tup A)->J b=some (.tup A))(k_:∀b o u,H b=some (.dX o u)->J b=some (.dX o u))(m6:∀b G,H b=some (.pL G)->∃more,J b=some (.pL (G++more)))
  (ns:∀m,s.heap.Ns X.env.locals m->h.Ns X.env.locals m)(aU:cZ X.prog X.w J h)(M:AllBare g'):
  Inv X δ Χ J {s with heap:=h,gens:=g',drawn:=d',toks:=n}:=by?
 have E:∀b o,X.gG.heap.get? b=some o->b≠X.env.locals:=λb o e=>dn (fz (bU e) I.ok.above);have w:∀b o,X.gG.heap.get? b=some o->b∉X.ex->b∉ch:=λb o e f B=>by
  rcases(g b B).1 with z|z
  .exact f z
  .exact aT (fz (bU e) z) (o6 _)
 have t:∀x c,X.env.cells.lookup x=some c->∀v,s.heap.IsCell c v->h.IsCell c v:=λx c e v %[o,C|hd]=>by
  have j:c∉ch:=λz=>(g c z).2.2.1 x c e rfl;by_cases L:c∈X.fs
  .obtain⟨sl,q⟩:=slot c o (I.pO x c e) L j C (I.jN x c e);exact%[_,q|hd]
  .exact%[o,keep c o (I.pO x c e) L j C (I.jN x c e)|hd]
 refine%[I.ok,I.os,M,%[λb o e a B f=>?_,λb o e a B f=>?_,λb o e a f=>?_,λb o e f=>?_,λb A e=>m5 b A (I.base.m5 b A e),λb o A e=>k_ b o A (I.base.k_ b o A e)|λb G e=>?_],?_,λx c e=>?_,?_,λx c e=>?_,λp hp=>?_,aU|I.len]
 .exact keep b o (E b o e) B (w b o e f) (I.base.keep b o e a B f) (I.base.free b o e a f)
 .obtain⟨sl,y⟩:=I.base.slot b o e a B f;obtain⟨K,F⟩:=slot b _ (E b o e) B (w b o e f) y (I.base.free b o e a f);exact%[K|F]
 .obtain⟨D,y⟩:=I.base.there b o e f;exact free b D (w b o e f) y (I.base.free b o e a f)
 .obtain⟨D,y⟩:=I.base.there b o e f;exact there b D (w b o e f) y
 .obtain⟨N,y⟩:=I.base.m6 b G e;obtain⟨O,F⟩:=m6 b _ y;exact%[N++O|by rw[F,Array.append_assoc]]
 .obtain⟨m,P,Q⟩:=I.loc;refine%[m,ns m P|λi x v y F R=>?_];obtain⟨u,r,l⟩:=Q i x v y F R;refine%[u,r|?_];rcases l with l|⟨k,c,e,z⟩
  .exact .inl l
  .exact .inr %[k,c,e|t x c e _ z]
 .obtain⟨v,z⟩:=I.cell x c e;exact%[v|t x c e v z]
 .obtain⟨m,⟨o,S,S,C,S⟩,S⟩:=I.loc;exact free _ o (λz=>(g _ z).2.1 rfl) C I.free
 .obtain⟨v,o,C,hd⟩:=I.cell x c e;exact free c o (λz=>(g c z).2.2.1 x c e rfl) C (I.jN x c e)
 .obtain⟨e,a,ne,nf,d⟩:=I.pin p hp;have j:p.1∉ch:=λz=>(g p.1 z).2.2.2 p hp rfl
  exact%[keep p.1 p.2 ne nf j e a,free p.1 p.2 j e a,ne,nf|d]
def Inv.un(I:Inv X δ Χ H s)(u:Un X.fs [] H J s.heap h)(aU:cZ X.prog X.w J h):Inv X δ Χ J {s with heap:=h,toks:=n}:=by?
 obtain⟨m,⟨o,p,q,i,r⟩,t⟩:=id I.loc;obtain⟨sl,j⟩:=u.any i I.free (by simp);exact I.step (ch:=[]) (λt z=>nomatch z) (λb o t d t e a=>u.keep b o e a d (by simp)) (λb o t d t e a=>u.slot b o e a d (by simp)) (λb o t e a=>u.free b o e a (by simp)) (λb o t e=>u.there b o e (by simp)) u.m5 u.k_ u.m6 (λt l=>by obtain⟨v,f,g,c,k⟩:=l;rw[i]at c;cases c;exact%[_,f,g,j|k]) aU I.bare
def Inv.call{Μ:List ae}{l:Array GenState}{t:Drawn}(I:Inv X δ Χ H s)(u:Un (lh X.stack) Μ H J s.heap h)(aU:cZ X.prog X.w J h)(v:AllBare l)
  (f:∀b∈Μ,(b∈X.ex\/X.gG.heap.objs.size<=b)/\b≠X.env.locals/\(∀x c,X.env.cells.lookup x=some c->c≠b)/\∀p∈X.pn++δ,p.1≠b):
  Inv X δ Χ J {s with heap:=h,gens:=l,drawn:=t,toks:=n}:=by?
 obtain⟨m,⟨o,B,C,q,r⟩,F⟩:=id I.loc;obtain⟨sl,i⟩:=u.any q I.free λz=>(f _ z).2.1 rfl
 exact I.step f (λb o i w d e a=>u.keep b o e a (λz=>(cU.mp (I.AW b z)).elim i w) d) (λb o F F d e a=>u.any e a d) (λb o d e a=>u.free b o e a d) (λb o d e=>u.there b o e d) u.m5 u.k_ u.m6 (λD A=>by obtain⟨E,j,k,g,y⟩:=A;rw[q]at g;cases g;exact%[_,j,k,i|y]) aU v
def Inv.turned{t':Nat}(I:Inv X δ Χ H s)(k:∀b o,b≠a->s.heap.get? b=some o->h.get? b=some o)(i:H a=none)(g:a≠X.env.locals)
  (j:a∈X.ex\/X.gG.heap.objs.size<=a)(l:∀x c,X.env.cells.lookup x=some c->c≠a)(t:∀p∈X.pn++δ,p.1≠a):Inv X δ Χ H {s with heap:=h,toks:=t'}:=by?
 have f:∀b u,H b=some u->b≠a:=λb u e z=>by rw[z,i]at e;cases e
 refine I.step (g':=s.gens) (d':=s.drawn) (ch:=[a]) (λb w=>?_) (λb o m m d e m=>k b o (λz=>d (by simp[z])) e) (λb o m m d e m=>%[o.slots|k b o (λz=>d (by simp[z])) e]) (λm m m m n=>n)
  (λb o d e=>%[o|k b o (λz=>d (by simp[z])) e]) (λm m e=>e) (λm m m e=>e) (λb D e=>%[#[]|by rw[e];simp]) (λm C=>?_) (λb u e=>?_) I.bare
 .have e:b=a:=by simpa using w
  subst e;exact%[j,g,l|t]
 .obtain⟨o,y,A,B,r⟩:=C;exact%[o,y,A,k _ o (kP g) B|r]
 .refine(I.aU b u e).me (λc v d q=>k c v ?_ q) (λm q=>q) λm m q=>q;rcases d with z|z
  .rw[z];exact f b u e
  .exact f c _ z
def Inv.tok(I:Inv X δ Χ H s)(t:Nat):Inv X δ Χ H {s with toks:=t}:=I.un Un.refl I.aU
theorem Inv.kept{t':Nat}(I:Inv X δ Χ H s)(k:∀b u,s.heap.get? b=some u->h.get? b=some u):Inv X δ Χ H {s with heap:=h,toks:=t'}:=I.un (Un.kept k) (I.aU.kept k)
theorem Inv.laid{o:HO}{t':Nat}(I:Inv X δ Χ H s)(k:∀b u,s.heap.get? b=some u->h.get? b=some u)(hp:↥s<=a)(new:eB X.prog X.w (upd H a o) h a o):
  Inv X δ Χ (upd H a o) {s with heap:=h,toks:=t'}:=I.un (Un.laid k hp (I.aU.fresh hp)) (I.aU.laid k hp new)
theorem Inv.write{ψ:HO}{x e:ae}(I:Inv X δ Χ H s)(c:oE (H x))(d:e=x\/H e=some (.own x))(k:∀b u,b≠e->s.heap.get? b=some u->h.get? b=some u)(a:∃u,h.get? e=some u)
  (new:eB X.prog X.w (upd H x ψ) h x ψ):Inv X δ Χ (upd H x ψ) {s with heap:=h,toks:=n}:=I.un (Un.write c d k a) (I.aU.write c d k a new)
def Inv.weak{a:List (Option V)}(I:Inv X δ Χ H s)(c:a.length=Χ.length)(w:∀(i:Nat) v,a[i]?=some (some v)->Χ[i]?=some (some v)):Inv X δ a H s:=
 %[I.ok,I.os,I.bare,I.base,let%[m,d|b]:=I.loc;%[m,d|λi x v e f g=>b i x v e (w i v f) g],I.cell,I.free,I.jN,I.pin,I.aU|c.trans I.len]
def Inv.Jd{a:List (ae×Obj)}(I:Inv X δ Χ H s)(h:∀p∈a,s.heap.get? p.1=some p.2/\H p.1=none/\p.1≠X.env.locals/\p.1∉X.fs/\∀v,p.2.data≠.cell v):Inv X a Χ H s:=
 %[I.ok,I.os,I.bare,I.base,I.loc,I.cell,I.free,I.jN,λp hp=>(eF.mp hp).elim (λz=>I.pin p (mS _ z)) (h p),I.aU|I.len]
def AX{ν:List Str}(c:ν.Nodup)(a:ν[n]?=some x)(b:ν[j]?=some x):n=j:=by obtain⟨f,d⟩:=fP.mp a;obtain⟨g,e⟩:=fP.mp b;exact(ac4 c).mp (d.trans e.symm)
def Je{M:Model}{v:V}{Q:Unit->aj->Prop}(I:Inv X δ Χ H s)(hN:X.N.Nodup)(N:X.N[n]?=some x)(C:Loc X.env.scope x)(r:RelV v η)
  (f:∀Z,Inv X δ (Χ.set n (some v)) H Z->(∃a,gD a s.heap Z.heap/\(a=X.env.locals\/X.env.cells.lookup x=some a))->Q () Z)(hf:X.fn x=true\/X.env.scope.names.lookup x=some .local:=by first|exact .inl rfl|exact .inr rfl|assumption):wpAny M A (storeName X.env x η) Q E s:=by?
 obtain⟨m,hn,hl⟩:=id I.loc;have O:(X.env.scope.kind==.class||(X.env.scope.kind==.module&&X.env.locals !=X.env.globals))=false:=by rw[I.ok.kind];rfl
 have P:n<Χ.length:=by rw[I.len];exact(fP.mp N).1
 have pO:=I.pO;have w:∀{a:ae} {h:ax},(∃o,s.heap.get? a=some o/\H a=none)->gD a s.heap h->cZ X.prog X.w H h:=λ{a h} ha l b ob e=>by
  obtain⟨i,i,D⟩:=ha;refine(I.aU b ob e).me (λc W B q=>(l.2 c ?_).trans q) (λi q=>q) λi i q=>q
  rintro rfl;rcases B with rfl|B
  .rw[D]at e;cases e
  .rw[D]at B;cases B
 rcases C with G|G
 .refine wpAny_storeName_local G hn (λh aa l=>?_) O;obtain⟨oL,i,i,ao,i⟩:=id hn;refine f _ %[I.ok,I.os,I.bare,%[λb o e g J C=>?_,λb o e g J C=>?_,I.base.free,λb o e C=>?_,I.base.m5,I.base.k_|I.base.m6],%[_,aa|λj y v' t F e3=>?_],λy c e=>?_,I.free,I.jN,λp hp=>?_,w %[oL,ao|I.free] l|by simpa using I.len] %[_,l| .inl rfl]
  .exact(l.2 b (dn (fz (bU e) I.ok.above))).trans (I.base.keep b o e g J C)
  .obtain⟨sl,t⟩:=I.base.slot b o e g J C;exact%[sl|(l.2 b (dn (fz (bU e) I.ok.above))).trans t]
  .obtain⟨o',t⟩:=I.base.there b o e C;exact%[o'|(l.2 b (dn (fz (bU e) I.ok.above))).trans t]
  .by_cases K:j=n
   .subst K;rw[N]at t;cases t;rw[PM P]at F;cases F;exact%[η,r| .inl %[G|by simp]]
   .rw[PN (kP K)]at F;obtain⟨u',r',q⟩:=hl j y v' t F e3;refine%[u',r'|?_];rcases q with⟨k,e⟩|⟨k,c,e,z⟩
    .refine .inl %[k|?_];have:y≠x:=λe=>K (AX hN t (e▸N));simp[this,e]
    .exact .inr %[k,c,e|z.sameBut l (pO y c e)]
  .obtain⟨W,z⟩:=I.cell y c e;exact%[W|z.sameBut l (pO y c e)]
  .obtain⟨e,g,ne,nf,d⟩:=I.pin p hp;exact%[(l.2 p.1 ne).trans e,g,ne,nf|d]
 .have L:X.fn x=true:=by
   rcases hf with z|z
   .exact z
   .rw[z]at G;cases G
  obtain⟨c,B⟩:=I.ok.has x (.inl G);obtain⟨W,z⟩:=I.cell x c B;refine wpAny_storeName_cell I.ok.kind G B z (λh R l=>?_);obtain⟨oc,S,T⟩:=id z;refine f {s with heap:=h} %[I.ok,I.os,I.bare,%[λb o e g J C=>?_,λb o e g J C=>?_,I.base.free,λb o e C=>?_,I.base.m5,I.base.k_|I.base.m6],%[m,hn.sameBut l (kP (pO x c B))|λj y v' t F e3=>?_],λy Y e=>?_,I.free,I.jN,λp hp=>?_,w %[oc,S|I.jN x c B] l|by simpa using I.len] %[c,l| .inr B]
  .exact(l.2 b (dn (fz (bU e) (I.ok.ui x c L B)))).trans (I.base.keep b o e g J C)
  .obtain⟨sl,t⟩:=I.base.slot b o e g J C;exact%[sl|(l.2 b (dn (fz (bU e) (I.ok.ui x c L B)))).trans t]
  .obtain⟨o',t⟩:=I.base.there b o e C;exact%[o'|(l.2 b (dn (fz (bU e) (I.ok.ui x c L B)))).trans t]
  .by_cases K:j=n
   .subst K;rw[N]at t;cases t;rw[PM P]at F;cases F;exact%[η,r| .inr %[.inl G,c,B|R]]
   .rw[PN (kP K)]at F;obtain⟨u',r',q⟩:=hl j y v' t F e3;refine%[u',r'|?_];rcases q with q|⟨k,Y,e,z'⟩
    .exact .inl q
    .refine .inr %[k,Y,e|z'.sameBut l ?_];rintro rfl;exact K (AX hN t (I.ok.inj _ _ _ e B▸N))
  .by_cases U:Y=c
   .subst U;exact%[_|R]
   .obtain⟨w2,z2⟩:=I.cell y Y e;exact%[w2|z2.sameBut l U]
  .obtain⟨e,g,ne,nf,d⟩:=I.pin p hp;refine%[(l.2 p.1 ?_).trans e,g,ne,nf|d];intro q;rw[q,S]at e;have q':oc=p.2:=cE e;exact d W (by rw[<-q'];exact T)
def AY{O:V}{M:Model}{Q:Unit->aj->Prop}(I:Inv X δ Χ H s)(b:X.N.Nodup)(c:X.N[n]?=some x)(d:Loc X.env.scope x)(r:RelV O η)
  (h:∀a,Inv X δ (Χ.set n (some O)) H a->Q () a)(f:X.fn x=true\/X.env.scope.names.lookup x=some .local:=by first|exact .inl rfl|exact .inr rfl|assumption):wpAny M A (storeName X.env x η) Q E s:=
 Je I b c d r (λa e i=>h a e) f
def Inv.RB{a:aj}{ch:List ae}(I:Inv X δ Χ H s)(f:a.os=s.os)(u:Un (lh X.stack) ch H J s.heap a.heap)(aU:cZ X.prog X.w J a.heap)(g:AllBare a.gens)
  (d:∀b∈ch,(b∈X.ex\/X.gG.heap.objs.size<=b)/\b≠X.env.locals/\(∀x c,X.env.cells.lookup x=some c->c≠b)/\∀p∈X.pn++δ,p.1≠b):Inv X δ Χ J a:=by
 obtain⟨h,i,j,k,l⟩:=a;have e:=f;subst e;exact I.call u aU g d
end
abbrev XK:=Value->Option ae->Hp->Prop
abbrev St:=List (Option V)
abbrev VK:=V->Hp->Prop
abbrev TE:=St->Hp->VK->Prop
abbrev TT:=St->Hp->(Bool->Hp->Prop)->Prop
abbrev TA:=St->Hp->(List V->Hp->Prop)->Prop
structure Ends where
 nx:St->Hp->Prop
 rt:VK
 bk:St->Hp->Prop:=λa a=>False
 ct:St->Hp->Prop:=λa a=>False
abbrev TS:=Ends->St->Hp->Prop
inductive EP(X:Cx)(a:List (ae×Obj))(σ:St)(Q:VK)(u:Value)(c:aj):Prop
 |mk v b(d:Inv X a σ b c)(d:RelV v u)(d:Q v b)
inductive Jf(X:Cx)(a:List (ae×Obj))(σ:St)(R:Hp->Prop)(s:aj):Prop
 |mk(H:Hp)(c:Inv X a σ H s)(b:R H):Jf X a σ R s
def TP(X:Cx)(a:List (ae×Obj))(σ:St)(Q:Bool->Hp->Prop)(b:Bool)(c:aj):Prop:=Jf X a σ (Q b) c
inductive AP(X:Cx)(a:List (ae×Obj))(σ:St)(Q:List V->Hp->Prop)(e:List Value)(d:aj):Prop
 |mk b c(f:Inv X a σ c d)(f:Vals b e)(f:Q b c)
inductive rL(X:Cx)(a:List (ae×Obj))(Q:St->Hp->Prop)(s:aj):Prop
 |mk(σ:St)(H:Hp)(c:Inv X a σ H s)(b:Q σ H):rL X a Q s
inductive Jg(X:Cx)(a:List (ae×Obj))(Q:VK)(u:Value)(s:aj):Prop
 |mk(v:V)(σ:St)(H:Hp)(d:Inv X a σ H s)(b:RelV v u)(c:Q v H):Jg X a Q u s
def SP(X:Cx)(a:List (ae×Obj))(D:Ends)(f:Flow)(b:aj):Prop:=
 match f with
 |.next=>rL X a D.nx b
 |.brk=>rL X a D.bk b
 |.cont=>rL X a D.ct b
 |.ret u=>Jg X a D.rt u b
def PE(X:Cx)(e:Expr)(t:TE):Prop:=
 ∀(a:List (ae×Obj)) (s:aj) (σ:St) (H:Hp) (Q:VK),Inv X a σ H s->t σ H Q->wpAny (model X.prog X.w) X.A (eval e X.env) (EP X a σ Q) X.xe s
def PT(X:Cx)(e:Expr)(t:TT):Prop:=
 ∀(a:List (ae×Obj)) (s:aj) (σ:St) (H:Hp) (Q:Bool->Hp->Prop),Inv X a σ H s->t σ H Q->wpAny (model X.prog X.w) X.A (isTrue e X.env (eval e X.env)) (TP X a σ Q) X.xe s
def PW(X:Cx)(e:Expr)(t:TT):Prop:=
 ∀(b:Sem Value) (a:List (ae×Obj)) (s:aj) (σ:St) (H:Hp) (Q:Bool->Hp->Prop),Inv X a σ H s->t σ H Q->wpAny (model X.prog X.w) X.A (isTrue e X.env b) (TP X a σ Q) X.xe s
section
variable{A:Around}{H:Hp}{K:ah}{P:aC}{X:Cx}{e:Expr}{h:ax}{m x:Str}{n:Nat}{p:Pos}{r:Str->Option Value}{s:aj}{t:TA}{w:World}{Φ:List Value}{δ:List (ae×Obj)}{ζ:List V}{η:Value}{ι:TE}{ξ:List Expr}{σ:St}
section
variable{D a:ae}{E Q:Value->aj->Prop}{O:V}{b c:Expr}{fs:List (Str×V)}{Ε:TT}{Μ:List ae}{Ο:TE}
def PW.pt(h:PW X e Ε):PT X e Ε:=h _
def PA(X:Cx)(b:List Expr)(t:TA):Prop:=
 ∀(pos:Pos) (a:List (ae×Obj)) (s:aj) (σ:St) (H:Hp) (Q:List V->Hp->Prop),Inv X a σ H s->t σ H Q->wpAny (model X.prog X.w) X.A (spliced (backTo pos (bP b X.env))) (AP X a σ Q) X.xe s
def PS(X:Cx)(st:Stmt)(t:TS):Prop:=
 ∀(a:List (ae×Obj)) (s:aj) (σ:St) (H:Hp) (D:Ends),Inv X a σ H s->t D σ H->wpAny (model X.prog X.w) X.A (exec st X.env) (SP X a D) X.xe s
def jx(X:Cx)(st:List Stmt)(t:TS):Prop:=
 ∀(a:List (ae×Obj)) (s:aj) (σ:St) (H:Hp) (D:Ends),Inv X a σ H s->t D σ H->wpAny (model X.prog X.w) X.A (execs st X.env) (SP X a D) X.xe s
def aZ{N:Type}{t:Sem N}{Q b:N->aj->Prop}{M:Model}(h:wpAny M A t Q E s)(c:∀a s,Q a s->b a s):wpAny M A t b E s:=jM h c λd d x=>x
def cf(i:Nat):TE:=λσ H Q=>match σ[i]? with
 |some (some v)=>Q v H
 |_=>False
def Jh{Q:VK}(h:cf n σ H Q):∃v,σ[n]?=some (some v)/\Q v H:=by
 unfold cf at h;split at h
 .exact%[_,by assumption|h]
 .exact h.elim
def tC(v:V):TE:=λa H Q=>Q v H
def RC(k:X.N[n]?=some x)(o:rK X.env.scope x)(hd:(x==("__debug__":Str))=false:=by decide)(g:(x==("__classdict__":Str))=false:=by decide):PE X (.Name x p) (cf n):=by?
 intro f s σ H Q I h;obtain⟨v,e,h⟩:=Jh h;obtain⟨m,q,t⟩:=I.loc;obtain⟨u,r,l⟩:=t n x v k e o;have d:EP X f σ Q u s:=%[v,H,I,r|h];rcases l with⟨b,hm⟩|⟨b,c,j,a⟩
 .exact wpAny_Name (wpAny_loadName_local I.ok.kind b q hm d) hd
 .rcases b with b|b
  .exact wpAny_Name (wpAny_loadName_cell I.ok.kind b j a d) hd
  .exact wpAny_Name (wpAny_loadName_free I.ok.kind b j a d g) hd
def aL{i j pos}:PE X (.Constant (.int i) j pos) (tC (.int i)):=λa a a H a I h=>wpAny_Constant_int %[.int i,H,I.tok _,%[_|rfl]|h]
def m8{b j pos}:PE X (.Constant (.bool b) j pos) (tC (.bl b)):=λa a a H a I h=>Constant_bool %[.bl b,H,I,rfl|h]
def j_{j pos}:PE X (.Constant .none j pos) (tC .bB):=λa a a H a I h=>Constant_none %[.bB,H,I,rfl|h]
def cK{x j pos}:PE X (.Constant (.str x) j pos) (tC (.str x)):=λa a a H a I h=>Calls.Constant_str %[.str x,H,I.tok _,%[_|rfl]|h]
def Gl(X:Cx)(x:Str):Prop:=X.env.kindOf x=some .globalImplicit
def xx(I:Inv X δ σ H s)(a:Gl X x)(b:X.mg x=some η)(h:Q η s)
  (hd:(x==("__debug__":Str))=false:=by decide):wpAny (model X.prog X.w) X.A (eval (.Name x p) X.env) Q E s:=
 ac5 I.ok.kind a (Calls.loadGlobal_global (by rw[I.ok.glob];exact I.mod.glob.keeps I.bk) b h) hd
def m9(I:Inv X δ σ H s)(a:Gl X x)(f:X.mg x=none)(b:l_ x=some η)(h:Q η s)
  (c:x≠"__name__":=by decide)(hd:(x==("__debug__":Str))=false:=by decide):wpAny (model X.prog X.w) X.A (eval (.Name x p) X.env) Q E s:=by
 obtain⟨mb,d,e⟩:=I.mod.blt;exact ac5 I.ok.kind a (Calls.loadGlobal_builtin (by rw[I.ok.glob];exact I.mod.glob.keeps I.bk) f (by rw[I.ok.blt];exact d.keeps I.bk) ((e x c).trans b) h) hd
def ke{v:V}(a:Gl X x)(b:X.mg x=some η)(r:RelV v η)(hd:(x==("__debug__":Str))=false:=by decide):PE X (.Name x p) (tC v):=
 λc c c H c I h=>xx I a b %[v,H,I,r|h] hd
def PC(X:Cx)(f:CmpOp)(a b:Expr)(t:TE):Prop:=
 ∀(c:List (ae×Obj)) (s:aj) (σ:St) (H:Hp) (Q:VK),Inv X c σ H s->t σ H Q->
  wpAny (model X.prog X.w) X.A (eval a X.env) (λv d=>wpAny (model X.prog X.w) X.A (eval b X.env) (λu e=>wpAny (model X.prog X.w) X.A (gE f v u) (EP X c σ Q) X.xe e) X.xe d) X.xe s
inductive Ji(Q:Bool->Hp->Prop)(d:Hp):V->Prop
 |mk{c:_}(a:Q c d):Ji Q d (.bl c)
def tB(t:TE):TT:=λσ H Q=>t σ H λx c=>Ji Q c x
def RD{j:CmpOp}(h:PC X j e b ι)(i:behindInMarks j b=false:=by first|exact f _ (by decide) (by decide)|rfl):PT X (.Compare e [j] [b] p) (tB ι):=by intro g s σ H Q I r;refine wpAny_isTrue_Compare1 (aZ (h g s σ H _ I r) λv z i=>aZ i λu y k=>aZ k λc w %[x,o,l,m|n]=>?_) i;obtain @⟨d,q⟩:=n;cases m;exact oz %[o,l|q]
def RE(t u:TT):TT:=λσ H Q=>t σ H λc d=>if c=true then u σ d Q else Q false d
def RF(t u:TT):TT:=λσ H Q=>t σ H λc d=>if c=true then Q true d else u σ d Q
def RG(t:TT):TT:=λσ H Q=>t σ H λc d=>Q (!c) d
def RH(g:PT X e Ε):PW X (.BoolOp .And [e] p) Ε:=by
 intro i f s σ H Q I h;refine isTrue_and (aZ (g f s σ H Q I h) λc j d=>?_)
 grind [isTrue_and_nil]
def m_(g:PT X e Ε):PW X (.BoolOp .Or [e] p) Ε:=by
 intro i f s σ H Q I h;refine isTrue_or (aZ (g f s σ H Q I h) λc j d=>?_)
 grind [isTrue_or_nil]
def RI{tB':TT}(j:PT X e Ε)(k:PW X (.BoolOp .And (b::ξ) p) tB'):PW X (.BoolOp .And (e::b::ξ) p) (RE Ε tB'):=by
 intro l d s σ H Q I h;refine isTrue_and (aZ (j d s σ H _ I h) λc m %[i,f|g]=>?_);cases c with
 |true=>exact k l d m σ i Q f g
 |false=>exact%[i,f|g]
def kh{tB':TT}(j:PT X e Ε)(k:PW X (.BoolOp .Or (b::ξ) p) tB'):PW X (.BoolOp .Or (e::b::ξ) p) (RF Ε tB'):=by
 intro l d s σ H Q I h;refine isTrue_or (aZ (j d s σ H _ I h) λc m %[i,f|g]=>?_);cases c with
 |true=>exact%[i,f|g]
 |false=>exact k l d m σ i Q f g
def nh(f:PT X e Ε):PT X (.UnaryOp .Not e p) (RG Ε):=by intro d s σ H Q I h;exact isTrue_not (f d s σ H (λc g=>Q (!c) g) I h)
inductive Jj(σ:St)(Q:VK)(tb:TE)(d:Hp):V->Prop
 |mk{c:_}(a:if c=true then tb σ d Q else Q (.bl false) d):Jj σ Q tb d (.bl c)
def RJ(ta tb:TE):TE:=λσ H Q=>ta σ H λx c=>Jj σ Q tb c x
inductive Jk(σ:St)(Q:VK)(tb:TE)(d:Hp):V->Prop
 |mk{c:_}(a:if c=true then Q (.bl true) d else tb σ d Q):Jk σ Q tb d (.bl c)
def RK(ta tb:TE):TE:=λσ H Q=>ta σ H λx c=>Jk σ Q tb c x
inductive Jl(Q:VK)(d:Hp):V->Prop
 |mk{c:_}(a:Q (.bl (!c)) d):Jl Q d (.bl c)
def RL(ta:TE):TE:=λσ H Q=>ta σ H λx c=>Jl Q c x
def xy{op}(h:PE X e ι):PE X (.BoolOp op [e] p) ι:=λc s σ H Q I d=>BoolOp_one (h c s σ H Q I d)
def Jm(j:PE X e ι)(k:PE X (.BoolOp .And (b::ξ) p) Ο):PE X (.BoolOp .And (e::b::ξ) p) (RJ ι Ο):=by?
 intro d s σ H Q I h;refine BoolOp_and (aZ (j d s σ H _ I h) λv m %[x,i,g,l|f]=>?_);obtain @⟨c,f⟩:=f;cases l;refine oz ?_;cases c with
 |true=>exact k d m σ i Q g f
 |false=>exact%[.bl false,i,g,rfl|f]
def Jn(j:PE X e ι)(k:PE X (.BoolOp .Or (b::ξ) p) Ο):PE X (.BoolOp .Or (e::b::ξ) p) (RK ι Ο):=by?
 intro d s σ H Q I h;refine BoolOp_or (aZ (j d s σ H _ I h) λv m %[x,i,g,l|f]=>?_);obtain @⟨c,f⟩:=f;cases l;refine oz ?_;cases c with
 |false=>exact k d m σ i Q g f
 |true=>exact%[.bl true,i,g,rfl|f]
def RM(g:PE X e ι):PE X (.UnaryOp .Not e p) (RL ι):=by intro d s σ H Q I h;refine UnaryOp_ (aZ (g d s σ H _ I h) λv l %[x,k,i,j|f]=>?_);obtain @⟨c,f⟩:=f;cases j;exact not_of (oz %[.bl (!c),k,i,rfl|f])
def Jo(t:TT)(ta tb:TE):TE:=λσ H Q=>t σ H λc d=>if c=true then ta σ d Q else tb σ d Q
def rM(l:PT X c Ε)(m:PE X e ι)(n:PE X b Ο):PE X (.IfExp c e b p) (Jo Ε ι Ο):=by
 intro f s σ H Q I h;refine wpAny_IfExp (aZ (l f s σ H _ I h) λd k %[j,g|i]=>?_);cases d with
 |true=>exact m f k σ j Q g i
 |false=>exact n f k σ j Q g i
def af(K:ah)(H:Hp)(a:ae)(c:List V):Prop:=
 Rd H a (.lst c)\/
  X3 λ(o:Obj) (b:Array Value) (n:Nat)=>A6 (K.lookup a=some o) (o.cls=.type "list") (o.dict=none) (o.data=.seq b n) (b.size<=bf) (Vals c b.toList)
def bN(K:ah)(H:Hp)(a:ae)(c:List V):Prop:=
 Rd H a (.tup c)\/
  X3 λ(o:Obj) (b:Array Value) (n:Nat)=>A5 (K.lookup a=some o) (o.cls=.type "tuple") (o.data=.seq b n) (b.size<=bf) (Vals c b.toList)
def RN:Value->Option V
 |.none=>some .bB
 |.bool b=>some (.bl b)
 |.int i _=>some (.int i)
 |.str x _=>some (.str x)
 |.bytes b _=>some (.hW b)
 |.float b _=>some (.xr b)
 |.ref a=>some (.ref a)
 |.type n=>some (.ty n)
 |_=>none
def RelV.abs(r:RelV O η):RN η=some O:=by
 cases O with
 |bB=>cases r;rfl
 |bl _=>cases r;rfl
 |int _=>obtain⟨t,rfl⟩:=r;rfl
 |str _=>obtain⟨t,rfl⟩:=r;rfl
 |hW _=>obtain⟨t,rfl⟩:=r;rfl
 |xr _=>obtain⟨t,rfl⟩:=r;rfl
 |ref _=>cases r;rfl
 |ty _=>cases r;rfl
def RelV.inj{y:V}(r:RelV O η)(q:RelV y η):O=y:=cE (r.abs.symm.trans q.abs)
theorem Vals.inj:∀{c a:List V} {b:List Value},Vals c b->Vals a b->c=a:=by
 intro i a i h;induction h generalizing a with
 |nil=>rintro⟨⟩;rfl
 |cons r _ d=>rintro(_|⟨e,f⟩);rw[r.inj e,d f]
def af.of(h:H a=some (.lst ζ)):af K H a ζ:=.inl (.inl h)
def bN.of(h:H a=some (.tup ζ)):bN K H a ζ:=.inl (.inl h)
def Inv.list(I:Inv X δ σ H s)(h:af X.K H a ζ):X1 λ(b:List Value)=>A3 (Vals ζ b) (PlainL s.heap a b.toArray) (ζ.length<=bf):=by?
 rcases h with h|⟨o,b,n,c,d,hd,f,g,r⟩
 .obtain⟨z,b,n,r,e⟩:=h.ok I.aU;exact%[b,r,%[_,n,e,rfl,rfl|rfl]|z]
 .refine%[b.toList,r,%[o,n,I.h_ a o c,d,hd|by simpa using f]|?_];have e:=r.length
  grind
def Inv.tuple(I:Inv X δ σ H s)(h:bN X.K H a ζ):X1 λ(b:List Value)=>A3 (Vals ζ b) (IsTup s.heap a b.toArray) (ζ.length<=bf):=by
 rcases h with h|⟨o,b,n,c,d,f,g,r⟩
 .obtain⟨z,b,r,p⟩:=h.ok I.aU;exact%[b,r,p|z]
 .refine%[b.toList,r,%[o,I.h_ a o c,d,n|by simpa using f]|?_];have e:=r.length
  grind
def Inv.pP{Ζ:List V}(I:Inv X δ σ H s)(h:af X.K H a ζ)(i:af X.K H a Ζ):ζ=Ζ:=by?
 obtain⟨c,r,⟨o,n,e,p,p,d⟩,p⟩:=I.list h;obtain⟨b,j,⟨k,l,f,p,p,g⟩,p⟩:=I.list i;rw[e]at f;cases f;rw[d]at g;injection g with m _
 have:c=b:=by grind
 subst this;exact r.inj j
def Inv.Jp{Ζ:List V}(I:Inv X δ σ H s)(h:bN X.K H a ζ)(i:bN X.K H a Ζ):ζ=Ζ:=by?
 obtain⟨c,r,⟨o,e,p,n,d⟩,p⟩:=I.tuple h;obtain⟨b,j,⟨k,f,p,l,g⟩,p⟩:=I.tuple i;rw[e]at f;cases f;rw[d]at g;injection g with m _
 have:c=b:=by grind
 subst this;exact r.inj j
abbrev Cx.mh(X:Cx)(E:Value->aj->Prop):Cx:={X with xe:=E}
abbrev Cx.um(X:Cx):Cx:=X.mh λa a=>False
theorem Cx.Ok.mh(ok:X.Ok)(E:Value->aj->Prop):(X.mh E).Ok:=
 %[ok.mod,ok.kind,ok.glob,ok.blt,ok.above,ok.inj,ok.has,ok.ui,ok.hd,ok.frames,ok.xu,ok.xw,ok.bs,ok.m7,ok.uj,ok.uk,ok.j9|ok.pN]
def Cx.Ok.oF(ok:(X.mh E).Ok):X.Ok:=
 %[ok.mod,ok.kind,ok.glob,ok.blt,ok.above,ok.inj,ok.has,ok.ui,ok.hd,ok.frames,ok.xu,ok.xw,ok.bs,ok.m7,ok.uj,ok.uk,ok.j9|ok.pN]
theorem Inv.mh(I:Inv X δ σ H s)(E:Value->aj->Prop):Inv (X.mh E) δ σ H s:=%[I.ok.mh E,I.os,I.bare,I.base,I.loc,I.cell,I.free,I.jN,I.pin,I.aU|I.len]
theorem Inv.oF(I:Inv (X.mh E) δ σ H s):Inv X δ σ H s:=%[I.ok.oF,I.os,I.bare,I.base,I.loc,I.cell,I.free,I.jN,I.pin,I.aU|I.len]
theorem SP.oF{D:Ends}{f:Flow}{c:aj}(h:SP (X.mh E) δ D f c):SP X δ D f c:=by
 cases f with
 |next=>obtain⟨a,b,I,q⟩:=h;exact%[a,b,I.oF|q]
 |brk=>obtain⟨a,b,I,q⟩:=h;exact%[a,b,I.oF|q]
 |cont=>obtain⟨a,b,I,q⟩:=h;exact%[a,b,I.oF|q]
 |ret u=>obtain⟨v,a,b,I,r,q⟩:=h;exact%[v,a,b,I.oF,r|q]
theorem jx.um{st:List Stmt}{t:TS}(h:jx X.um st t):jx X st t:=λδ s σ H D I a=>
 jM (h δ s σ H D (I.mh _) a) (λb b q=>q.oF) λb b z=>iZ z
def RO:TS:=λD σ H=>D.nx σ H
def RP(t u:TS):TS:=λD σ H=>t {D with nx:=u D} σ H
def bZ:jx X [] RO:=λa a σ H a I h=>wpAny_execs_nil %[σ,H,I|h]
def aw{Γ:Stmt}{rest:List Stmt}{t u:TS}(b:PS X Γ t)(c:jx X rest u):jx X (Γ::rest) (RP t u):=by
 intro a s σ H D I h;refine wpAny_execs_cons (aZ (b a s σ H _ I h) λf j q=>?_);cases f with
 |next=>
  obtain⟨d,g,i,q⟩:=q;exact c a j d g D i q
 |ret v=>exact q
 |brk=>exact q
 |cont=>exact q
def au{Γ:Stmt}{t:TS}(b:PS X Γ t):jx X [Γ] t:=by
 intro a s σ H D I h;refine wpAny_execs_cons (aZ (b a s σ H D I h) λf c q=>?_);cases f with
 |next=>exact wpAny_execs_nil q
 |ret v=>exact q
 |brk=>exact q
 |cont=>exact q
def Inv.quiet(I:Inv X δ σ H s):interactive X.env=false:=by simp[interactive,I.ok.kind]
def RQ(te:TE):TS:=λD σ H=>te σ H λb a=>D.nx σ a
def eN(g:PE X e ι)(b:rD e none p.line X.env=pure false:=by rfl):PS X (.Expr e p) (RQ ι):=by intro a s σ H D I h;exact wpAny_Expr_any (aZ (g a s σ H _ I h) λv j %[x,f,c,i|d]=>%[σ,f,c|d]) I.quiet b
def RR(te:TE):TS:=λD σ H=>te σ H D.rt
def aF(g:PE X e ι):PS X (.Return (some e) p) (RR ι):=by intro a s σ H D I h;exact wpAny_Return_some (aZ (g a s σ H _ I h) λv i %[x,f,b,c|d]=>%[x,σ,f,b,c|d])
def RS(c:TT)(t u:TS):TS:=λD σ H=>c σ H λb a=>if b=true then t D σ a else u D σ a
def bW{t u:TS}{a b:List Stmt}(l:PT X c Ε)(m:jx X a t)(n:jx X b u):PS X (.If c a b p) (RS Ε t u):=by
 intro f s σ H D I h;refine wpAny_If (aZ (l f s σ H _ I h) λd k %[j,g|i]=>?_);cases d with
 |true=>exact m f k σ j D g i
 |false=>exact n f k σ j D g i
abbrev TG:=V->St->Hp->(St->Hp->Prop)->Prop
abbrev pQ:=List V->St->Hp->(St->Hp->Prop)->Prop
def PG(X:Cx)(a:Expr)(t:TG):Prop:=
 ∀(b:List (ae×Obj)) (s:aj) (σ:St) (H:Hp) (v:V) (u:Value) (Q:St->Hp->Prop),Inv X b σ H s->RelV v u->t v σ H Q->
  wpAny (model X.prog X.w) X.A (assign a X.env u) (λd c=>rL X b Q c) X.xe s
def xA(X:Cx)(d:List Expr)(t:pQ):Prop:=
 ∀(a:List (ae×Obj)) (s:aj) (σ:St) (H:Hp) (b:List V) (c:List Value) (Q:St->Hp->Prop),Inv X a σ H s->Vals b c->t b σ H Q->
  wpAny (model X.prog X.w) X.A (assignInOrder ((assignEach d X.env).map (·.2)) c) (λf e=>rL X a Q e) X.xe s
abbrev iz:=V->V->V->Hp->(Hp->Prop)->Prop
def Jq(X:Cx)(t:iz):Prop:=
 ∀(a:List (ae×Obj)) (s:aj) (σ:St) (H:Hp) (o i v:V) (b c u:Value) (Q:Hp->Prop),Inv X a σ H s->RelV o b->RelV i c->RelV v u->t o i v H Q->
  wpAny (model X.prog X.w) X.A (setItem b c u) (λf e=>∃d,Inv X a σ d e/\Q d) X.xe s
abbrev AZ:=V->V->Hp->VK->Prop
def Jr(X:Cx)(b:Operator)(t:AZ):Prop:=
 ∀(a:List (ae×Obj)) (s:aj) (σ:St) (H:Hp) (x y:V) (v u:Value) (Q:VK),Inv X a σ H s->RelV x v->RelV y u->t x y H Q->
  wpAny (model X.prog X.w) X.A (inplaceOp b v u) (EP X a σ Q) X.xe s
def gH(i:Nat):TG:=λv σ H Q=>Q (σ.set i (some v)) H
def RT(b:X.N.Nodup)(c:X.N[n]?=some x)(d:Loc X.env.scope x)(f:X.fn x=true\/X.env.scope.names.lookup x=some .local:=by first|exact .inl rfl|exact .inr rfl|assumption):PG X (.Name x p) (gH n):=by intro a s σ H v u Q I r h;exact wpAny_assign_Name (AY I b c d r (λg e=>%[_,H,e|h]) f)
inductive rN(a:List V)(σ:St)(H:Hp)(Q:St->Hp->Prop):Prop
 |mk(b:a=[])(b:Q σ H)
inductive Js(t:TG)(u:pQ)(σ:St)(H:Hp)(Q:St->Hp->Prop):List V->Prop
 |mk{v:_}{r:_}(c:t v σ H λa b=>u r a b Q):Js t u σ H Q (v::r)
def lq(t:TG)(u:pQ):List V->St->Hp->(St->Hp->Prop)->Prop:=λa σ H Q=>Js t u σ H Q a
def mi:xA X [] rN:=by intro a s σ H b c Q I r h;obtain⟨e,h⟩:=h;subst e;cases r;exact assignInOrder_nil %[σ,H,I|h]
def gI{t:TG}{u:pQ}(b:PG X e t)(c:xA X ξ u)
  (d:(assignEach (e::ξ) X.env).map (·.2)=assign e X.env::(assignEach ξ X.env).map (·.2):=by rfl):xA X (e::ξ) (lq t u):=by?
 intro a s σ H m o Q I r h;obtain @⟨v,n,h⟩:=h;cases r with
 |cons r f=>
  rw[d];refine assignInOrder_cons (aZ (b a s σ H _ _ _ I r h) λ_ l %[g,k,i|j]=>?_);exact c a l g k _ _ Q i f j
inductive Jt(K:ah)(n:Nat)(t:pQ)(σ:St)(H:Hp)(Q:St->Hp->Prop):V->Prop
 |mk{a:_}{b:_}(c:bN K H a b)(c:b.length=n)(c:t b σ H Q):Jt K n t σ H Q (.ref a)
def oG(K:ah)(n:Nat)(t:pQ):V->St->Hp->(St->Hp->Prop)->Prop:=λv σ H Q=>Jt K n t σ H Q v
def mj{j:Nat}{t:pQ}(i:X.calm=true)(h:xA X ξ t)
  (l:(assignEach ξ X.env).length=n:=by rfl)(d:(assignEach ξ X.env).findIdx? (·.1)=none:=by rfl):PG X (.Tuple ξ j p) (oG X.K n t):=by?
 intro c s σ H v u Q I r f;obtain @⟨a,xs,m,q,f⟩:=f;cases r;obtain⟨w,g,x,A⟩:=I.tuple m;refine assign_Tuple_tuple (I.ok.hd i) x (by simp[l,<-q,g.length]) d λB y=>?_
 have z:=I.kept (t':=s.toks) λb o e=>y b o (dn (bU e)) e;exact h c _ σ H xs _ Q z (by simpa using g) f
def RU(to a:TE)(t:iz):TG:=λv σ H Q=>to σ H λo d=>a σ d λi b=>t o i v b λc=>Q σ c
def Ju{i o:Expr}{t:iz}(d:PE X o ι)(e:PE X i Ο)(f:Jq X t)
  (g:∀v,assign (.Subscript o i p) X.env v=(do
   let b<-holding [v] (eval o X.env)
   let c<-holding [v,b] (eval i X.env)
   standAt p
   holding [v,b,c] (setItem b c v)
   release [v,b,c] []):=by intro J;rfl):PG X (.Subscript o i p) (RU ι Ο t):=by?
 intro a s σ H v u Q I r h;rw[g];refine aA (kX (aZ (d a s σ H _ I h) λb E %[x,C,j,k|l]=>?_));refine aA (kX (aZ (e a E σ C _ j l) λc D %[y,m,n,q|w]=>?_));refine aA (wpAny_standAt (aA (kX (aZ (f a D σ m x y v b c u _ n k q r w) λ_ F %[z,A|B]=>?_))));exact wpAny_release %[σ,z,A|B]
def xB(a:TE)(g:TG):TS:=λD σ H=>a σ H λx b=>g x σ b D.nx
def Jv{g:TG}(m:PE X e ι)(c:PG X b g)(d:swapsWithSole [b] e p.line X.env=pure false:=by rfl)(n:swappedStores [b] e X.env=pure none:=by rfl)
  (f:(assignEach [b] X.env).map (·.2)=[assign b X.env]:=by rfl):PS X (.Assign [b] e p) (xB ι g):=by
 intro a s σ H D I h;refine wpAny_Assign_stores (aZ (m a s σ H _ I h) λv o %[x,l,i,j|k]=>?_) d n;rw[f];exact aZ (c a o σ l x v _ i j k) λt r q=>q
def rO{M:Pos}{i:Nat}(b:X.N.Nodup)(c:X.N[i]?=some x)(d:Loc X.env.scope x)(o:PE X e ι)(f:rD e (some (.Name x M)) p.line X.env=pure false:=by rfl)(n:X.fn x=true\/X.env.scope.names.lookup x=some .local:=by first|exact .inl rfl|exact .inr rfl|assumption):
  PS X (.Assign [.Name x M] e p) (xB ι (gH i)):=by
 intro a s σ H D I h;refine wpAny_Assign_Name (aZ (o a s σ H _ I h) λv r %[y,m,g,j|k]=>?_) f;exact AY g b c d j (λq l=>%[_,m,l|k]) n
def RV(i:Nat)(a:TE)(b:AZ):TS:=λD σ H=>∃x,σ[i]?=some (some x)/\a σ H λy d=>b x y d λz c=>D.nx (σ.set i (some z)) c
def RW{M:Pos}{i:Nat}{j:Operator}{n:AZ}(q:X.N.Nodup)(o:X.N[i]?=some x)(f:Loc X.env.scope x)(T:PE X e ι)(t:Jr X j n)(U:X.fn x=true\/X.env.scope.names.lookup x=some .local:=by first|exact .inl rfl|exact .inr rfl|assumption):
  PS X (.AugAssign (.Name x M) j e p) (RV i ι n):=by?
 intro a s σ H D I h;obtain⟨v,A,h⟩:=h;obtain⟨m,B,C⟩:=I.loc;have g:rK X.env.scope x:=by rcases f with k|k;exact .inl k;exact .inr (.inl k)
 obtain⟨u,r,l⟩:=C i x v o A g;refine wpAny_AugAssign_Name ?_;have go:wpAny (model X.prog X.w) X.A (eval e X.env) (λw E=>wpAny (model X.prog X.w) X.A (inplaceOp j u w) (λr F=>wpAny (model X.prog X.w) X.A (storeName X.env x r) (λ_=>SP X a D .next) X.xe F) X.xe E) X.xe s:=by refine aZ (T a s σ H _ I h) λw V %[y,S,G,J|K]=>?_;refine aZ (t a V σ S v y u w _ G r J K) λz Z %[W,L,N,O|P]=>?_;exact AY N q o f O (λY Q=>%[_,L,Q|P]) U
 rcases l with⟨b,hm⟩|⟨b,c,R,d⟩
 .exact wpAny_loadName_local I.ok.kind b B hm go
 .rcases b with b|b
  .exact wpAny_loadName_cell I.ok.kind b R d go
  .rcases f with k|k
   .have:X.env.scope.names.lookup x=some _:=b
    grind
   .have:X.env.scope.names.lookup x=some _:=b
    grind
inductive RX(f:Int->Int->Int)(x y:V)(H:Hp)(Q:VK):Prop
 |mk i j(a:x=.int i)(a:y=.int j)(a:Q (.int (f i j)) H)
def RY:Jr X .Add (RX λi j=>i+j):=by intro a s σ H x y v u Q I b c h;obtain⟨i,j,d,e,q⟩:=h;subst d;subst e;obtain⟨t,rfl⟩:=b;obtain⟨f,rfl⟩:=c;exact iadd_int %[.int _,H,I.tok _,%[_|rfl]|q]
def Jw(c:TT)(g:TS):TS:=λD σ H=>∃W:Nat->St->Hp->Prop,(∃m,W m σ H)/\∀m σ H,W m σ H->
 c σ H λb f=>if b=true then∃N:St->Hp->Prop,(∀a d,N a d->∃e,e<m/\W e a d)/\g {D with nx:=N,ct:=N,bk:=D.nx} σ f else D.nx σ f
def A0{d:List Stmt}{k:TS}(hp:PassesOwn (model X.prog X.w) X.A X.env X.xe)(r:PT X c Ε)(t:jx X d k):PS X (.While c d [] p) (Jw Ε k):=by?
 intro a s σ H D I h;obtain⟨W,⟨E,u⟩,e⟩:=h;refine wpAny_While (codeAny_whileLoop (λn w=>∃l m,Inv X a l m w/\W n l m) ?_ E %[σ,H,I|u]);rintro n s1 ⟨g,H1,x,y⟩;refine uf hp (aZ (r a s1 g H1 _ x (e n g H1 y)) λb F %[o,q|i]=>?_);cases b with
 |true=>
  obtain⟨N,G,i⟩:=i;refine uf hp (aZ (t a F g o _ q i) λf J j=>?_);cases f with
  |next=>
   obtain⟨z,A,B,C⟩:=j
   grind
  |cont=>
   obtain⟨z,A,B,C⟩:=j
   grind
  |brk=>exact j
  |ret v=>exact j
 |false=>
  exact wpAny_execs_nil %[g,o,q|i]
structure It where
 go:Nat->Hp->Prop
 ic:Nat->Hp->V->Hp->Prop
 stop:Nat->Hp->Prop
def ki(X:Cx)(a:List (ae×Obj))(H:Hp)(b:ae):Prop:=
 H b=none/\b≠X.env.locals/\b∉X.fs/\(b∈X.ex\/X.gG.heap.objs.size<=b)/\(∀x c,X.env.cells.lookup x=some c->c≠b)/\∀p∈X.pn++a,p.1≠b
def Inv.ni{J:Hp}(I:Inv X δ σ H s)(d:↥s<=a)(f:J a=none):ki X δ J a:=by?
 refine%[f,j5 (fz I.lt d),I.RA d,.inr (bq I.sz d),λx c e z=>?_|λp hp z=>?_]
 .obtain⟨v,q⟩:=I.cell x c e;exact aT (fz q.lt (by rw[z];exact d)) (o6 _)
 .exact aT (fz (bU (I.pin p hp).1) (by rw[z];exact d)) (o6 _)
structure Turn(P:aC)(w:World)(K:ah)(l:Expr)(J:It)(d:List ae)(e:ae)(c:Nat->ax->Prop):Prop where
 mem:e∈d
 obj:∀i h,c i h->∀b∈d,∃o,h.get? b=some o/\∀v,o.data≠.cell v
 keep:∀i h j,c i h->(∀b∈d,∀o,h.get? b=some o->j.get? b=some o)->c i j
 item:∀(X:Cx),X.prog=P->X.w=w->X.K=K->X.calm=true->∀(i:Nat) (a:List (ae×Obj)) (s:aj) (σ:St) (H:Hp) (E:Value->aj->Prop),Inv X a σ H s->(∀b∈d,ki X a H b)->c i s.heap->J.go i H->
  wpAny (model P w) X.A (pyNext (.ref e)) (λr g=>∃u,r=some u/\
   wpAny (model P w) X.A (letOwnedTupleGo l (.ref e) u) (λm k=>X2 λx f=>A5 (Inv X a σ f k) (RelV x u) (J.ic i H x f) (c (i+1) k.heap) (∀b∈d,f b=none)) E g) E s
 done:∀(X:Cx),X.prog=P->X.w=w->X.K=K->X.calm=true->∀(i:Nat) (a:List (ae×Obj)) (s:aj) (σ:St) (H:Hp) (E:Value->aj->Prop),Inv X a σ H s->(∀b∈d,ki X a H b)->c i s.heap->J.stop i H->
  wpAny (model P w) X.A (pyNext (.ref e)) (λr g=>r=none/\Inv X a σ H g) E s
 self:∀(A:Around) (i:Nat) (s:aj) (Q:Value->aj->Prop) (E:Value->aj->Prop),c i s.heap->Q (.ref e) s->wpAny (model P w) A (pyIter (.ref e)) Q E s
abbrev TI:=St->Hp->(It->Hp->Prop)->Prop
inductive xC(X:Cx)(a:List (ae×Obj))(σ:St)(i:Expr)(R:It->Hp->Prop)(c:Value)(h:aj):Prop
 |mk(g:ae)(e:List ae)(f:Nat->ax->Prop)(J:It)(d:Hp)(j:c=.ref g)(j:Inv X a σ d h)(j:Turn X.prog X.w X.K i J e g f)(j:f 0 h.heap)(j:∀b∈e,ki X a d b)(j:R J d)
def PI(X:Cx)(c b:Expr)(d:TI):Prop:=
 ∀(a:List (ae×Obj)) (s:aj) (σ:St) (H:Hp) (R:It->Hp->Prop),Inv X a σ H s->d σ H R->
  wpAny (model X.prog X.w) X.A (eval b X.env) (λv e=>wpAny (model X.prog X.w) X.A (pyIter v) (xC X a σ c R) X.xe e) X.xe s
def xD{Ρ:Array Value}{χ:Obj}{M:Model}{n:String}{Q:Unit->aj->Prop}(c:s.heap.get? a=some χ)(d:χ.cls=.type n)(hd:χ.data=.fields Ρ)
  (f:["enumerate","zip","dict_itemiterator","dict_reverseitemiterator","odict_iterator","itertools.zip_longest","itertools.pairwise"].contains n=false)(b:Q () s):wpAny M A (letOwnedTupleGo e (.ref a) η) Q E s:=by?
 unfold letOwnedTupleGo;cases e<;>first
  |exact bh b
  |(cases η<;>first
    |exact bh b
    |(refine aA (wpAny_load c ?_)
      rw[d,hd];show wpAny M A (if(["enumerate","zip","dict_itemiterator","dict_reverseitemiterator","odict_iterator","itertools.zip_longest","itertools.pairwise"].contains n&&Ρ[0]?==some (rawInt _))=true then _ else _) Q E s;rw[aE (by intro h;rw[f,Bool.false_and]at h;cases h)];exact bh b))
def iA(K:ah)(a:ae):It:=
 ⟨λi H=>X2 λb x=>A2 (af K H a b) (b[i]?=some x),λi H x c=>c=H/\∀b,af K H a b->b[i]?=some x,λi H=>∃b,af K H a b/\b.length<=i⟩
def mn(b:Int)(n:Nat):It:=%[λi c=>i<n,λi H x a=>a=H/\x=.int (b+i)|λi c=>n<=i]
def RZ(a j:ae):Turn P w K e (iA K a) [j] j (λi h=>h.IsListIter j a i) where
 mem:=by simp
 obj:=λi h st b g=>by
  have f:=by simpa using g
  obtain⟨o,f,c,d⟩:=st
  grind
 keep:=λi h L st k=>st.at λo f=>k j (by simp) o f
 item:=by?
  intro X r J t M i m s σ H E I q st v;subst r J t;obtain⟨V,x,n,y⟩:=v;obtain⟨z,A,p,N⟩:=I.list n;obtain⟨u,O,Q⟩:=A.get y;obtain⟨D,F,W,B,G,C⟩:=q j (by simp);refine wpAny_pyNext_list_item st p.isList (by simpa using O) λL l R=>?_
  have S:=I.turned (t':=s.toks) (λb o g f=>(R.2 b g).trans f) D F B G C;obtain⟨o,f,c,d⟩:=id l;exact%[u,rfl|xD f c d (by decide) %[x,H,S,Q,%[rfl|λY T=>by rw[I.pP T n];exact y],l|λb g=>(q b g).1]]
 done:=by intro X r J t M i m s σ H E I q st v;subst r J t;obtain⟨V,n,y⟩:=v;obtain⟨z,A,p,N⟩:=I.list n;obtain⟨D,F,W,B,G,C⟩:=q j (by simp);have Z:=A.length;exact wpAny_pyNext_list_end (I.ok.hd M) st p.isList (by simp;omega) λL U=>%[rfl|I.turned (λb o g f=>U b o g f) D F B G C]
 self:=λY Y Y Y Y st h=>wpAny_pyIter_listiter st h
def R4(d:ae)(x:Int)(n:Nat):Turn P w K e (mn x n) [d] d (λi h=>IsRangeIter h d (x+(i:Nat)*1) ((n:Int)-(i:Nat)) 1) where
 mem:=by simp
 obj:=λi h st b f=>by grind
 keep:=λi h l st k=>k d (by simp) _ st
 item:=by?
  intro X A C B m i c s σ H E I j st p;subst A C B;obtain⟨u,y,L,q,z,r⟩:=j d (by simp);have W:=Walks.range (prog:=X.prog) (w:=X.w) (I.ok.hd m) d x 1 n;refine W.item i s _ _ p st λv l tk D g F=>?_
  obtain⟨t,rfl⟩:=D;have G:Inv X c σ H {s with heap:=l,toks:=tk}:=I.turned (λb o f a=>F b o (by simpa using f) a) u y q z r;refine%[_,rfl|xD g rfl rfl (by decide) %[.int _,H,G,%[t|?_],%[rfl|rfl],g|λb f=>(j b f).1]];rw[Int.mul_one]
 done:=by intro X A C B m i c s σ H E I j st p;obtain⟨u,y,L,q,z,r⟩:=j d (by simp);exact wpAny_pyNext_range_end (I.ok.hd m) st (by have:n<=i:=p;omega) λl J=>%[rfl|I.turned (λb o f a=>J b o f a) u y q z r]
 self:=λM M M M M st h=>wpAny_pyIter_rangeiter st h
inductive Jx(R:It->Hp->Prop)(K:ah)(b:Hp):V->Prop
 |mk{a:_}(c:∃xs,af K b a xs)(c:R (iA K a) b):Jx R K b (.ref a)
def R5(K:ah)(tl:TE):TI:=λσ H R=>tl σ H λx a=>Jx R K a x
def cq(j:PE X b ι):PI X e b (R5 X.K ι):=by?
 intro f s σ H R I h;refine aZ (j f s σ H _ I h) λv i %[x,u,g,k|m]=>?_
 obtain @⟨a,⟨xs,n⟩,q⟩:=m;cases k;obtain⟨r,w,p,y⟩:=g.list n;refine xk p.isList ?_;refine%[↥i,[↥i],_,_,u,rfl,g.kept λc o d=>bL _ d,RZ a _,%[_,cV _ rfl,rfl|rfl],λc t=>?_|q];have d:=by simpa using t
 subst d;exact g.ni (bx _) (g.aU.fresh (bx _))
def Jy{S φ:Int}{R:It->Hp->Prop}{t u v:Tok}(I:Inv X δ σ H s)(d: -(2^62)<=S)(f:S<2^62)(g: -(2^62)<=φ)(h:φ<2^62)
  (q:R (mn S (φ-S).toNat) H):wpAny (model X.prog X.w) X.A (pyIter (.ref ↥s)) (xC X δ σ e R) E {s with heap:=s.heap.push {cls:=.type "range",data:=.fields #[.int S t,.int φ u,.int 1 v]},toks:=n}:=by?
 refine wpAny_pyIter_range (IsRange.new ..) (small_one d f g h) ?_;have c:Inv X δ σ H {s with heap:=s.heap.push {cls:=.type "range",data:=.fields #[.int S t,.int φ u,.int 1 v]},toks:=n}:=I.kept λb o a=>bL _ a;refine%[(s.heap.push _).objs.size,[(s.heap.push _).objs.size],_,_,H,rfl,
  c.kept λb o a=>bL _ a,R4 _ S _,?_,λb i=>?_|q]
 .have j:S+((0:Nat))*1=S:=by simp
  have k:(((φ-S).toNat))-((0:Nat))=Builtin.Range.rangeSize S φ 1:=by grind [rangeSize_one]
  rw[j,k];exact cV _ rfl
 .have a:b=(s.heap.push {cls:=.type "range",data:=.fields #[.int S t,.int φ u,.int 1 v]}).objs.size:=by simpa using i
  subst a;exact c.ni (bx _) (c.aU.fresh (bx _))
inductive Jz(R:It->Hp->Prop)(a:Hp):List V->Prop
 |mk{j:Int}(b: -(2^62)<=j)(b:j<2^62)(b:R (mn 0 j.toNat) a):Jz R a ([.int j])
def R6(a:TA):TI:=λσ H R=>a σ H λb c=>Jz R c b
inductive JA(R:It->Hp->Prop)(a:Hp):List V->Prop
 |mk{i j:Int}(b:-(2^62)<=i/\i<2^62/\ -(2^62)<=j/\j<2^62)(b:R (mn i (j-i).toNat) a):JA R a ([.int i,.int j])
def R7(a:TA):TI:=λσ H R=>a σ H λb c=>JA R c b
def JB{M:Pos}(g:Gl X "range")(u:X.mg "range"=none)(i:PA X [b] t)(k:bP [b] X.env=[(false,eval b X.env)]:=by rfl):PI X e (.Call (.Name "range" p) [b] [] M) (R6 t):=by?
 intro d s σ H R I h;refine Call_ (m9 I g u boot_range (tR (aZ (i M d s σ H _ I h) λx y %[v,w,l,m|f]=>?_) k rfl));obtain @⟨j,f,n,q⟩:=f;cases m with
 |cons r o=>
  cases o;obtain⟨c,rfl⟩:=r;exact call_range_1 (Jy l (by omega) (by omega) f n (by simpa using q))
def R8{M:Pos}{o:Expr}(l:Gl X "range")(A:X.mg "range"=none)(m:PA X [o,b] t)(n:bP [o,b] X.env=[(false,eval o X.env),(false,eval b X.env)]:=by rfl)(d:bP [b] X.env=[(false,eval b X.env)]:=by rfl):
  PI X e (.Call (.Name "range" p) [o,b] [] M) (R7 t):=by?
 intro f s σ H R I h;refine Call_ (m9 I l A boot_range (tR (aZ (m M f s σ H _ I h) λE F %[B,D,u,v|g]=>?_) (by rw[n,d]) (by rw[d];rfl)));obtain @⟨i,j,⟨g,w,x,y⟩,q⟩:=g;cases v with
 |cons r k=>
  cases k with
  |cons z k=>
   cases k;obtain⟨c,rfl⟩:=r;obtain⟨C,rfl⟩:=z;exact call_range_2 (Jy u g w x y q)
def R9(d:TI)(g:TG)(e:TS):TS:=λD σ H=>d σ H λJ j=>∃W:Nat->Nat->St->Hp->Prop,(∃m,W 0 m σ j)/\∀i m σ H,W i m σ H->
 (J.stop i H/\D.nx σ H)\/(J.go i H/\∃N:St->Hp->Prop,(∀b a,N b a->∃c,c<m/\W (i+1) c b a)/\∀x a,J.ic i H x a->g x σ a λf h=>e {D with nx:=N,ct:=N,bk:=D.nx} f h)
def xE(a:List ae)(h:ax):List (ae×Obj):=a.filterMap λb=>(h.get? b).map λo=>(b,o)
def A_{χ:Obj}(c:a∈Μ)(e:h.get? a=some χ):(a,χ)∈xE Μ h:=HB.mpr %[a,c|by rw[e];rfl]
def R_{p:ae×Obj}(hp:p∈xE Μ h):p.1∈Μ/\h.get? p.1=some p.2:=by
 obtain⟨b,a,e⟩:=HB.mp hp;cases q:h.get? b with
 |none=>rw[q]at e;cases e
 |some o=>
  grind
def Inv.pinned(I:Inv X δ σ H s)(c:∀b∈Μ,ki X δ H b)(d:∀b∈Μ,∃o,s.heap.get? b=some o/\∀v,o.data≠.cell v):Inv X (δ++xE Μ s.heap) σ H s:=
 I.Jd λp hp=>(eF.mp hp).elim (λz=>I.pin p (nW _ z)) λz=>by
  obtain⟨a,e⟩:=R_ z;obtain⟨h,g,f,i⟩:=c p.1 a
  grind
def Inv.xF{pins:List (ae×Obj)}(I:Inv X (pins++δ) σ H s):Inv X pins σ H s:=I.Jd λp hp=>I.pin p (nW _ (mS _ hp))
def eO{B:List Stmt}{Y:TI}{g:TG}{Z:TS}(hp:PassesOwn (model X.prog X.w) X.A X.env X.xe)(hc:X.calm=true)(hi:PI X e b Y)(hg:PG X e g)(k:jx X B Z)
  (hs:∀x,AL b X.env x=pure x:=by intro _;rfl):PS X (.For e b B [] p) (R9 Y g Z):=by?
 intro j s σ H D I h;refine wpAny_For (aZ (hi j s σ H _ I h) λv s1 h1=>aZ h1 λaa s2 h2=>?_) hs;obtain⟨it,O,tn,J,H2,a,I2,T,Q,f2,W,⟨m0,w0⟩,M⟩:=h2;subst a;have l:∀{z:Hp},(∀c∈O,z c=none)->∀c∈O,ki X j z c:=λhn c k=>%[hn c k|(f2 c k).2]
 refine codeAny_forLoop_any (λn s'=>X3 λi E z=>A4 (Inv X j E z s') (tn i s'.heap) (∀c∈O,z c=none) (W i n E z)) ?_ m0 %[0,σ,H2,I2,Q,λc k=>(f2 c k).1|w0];rintro n s3 ⟨i,F,P,I3,G,K,w3⟩;rcases M i n F P w3 with⟨stop,qn⟩|⟨go,N,hN,step⟩
 .refine uf hp (aZ (T.done X rfl rfl rfl hc i j s3 F P X.xe I3 (l K) G stop) λr s4 %[R|I4]=>?_);subst R;exact wpAny_execs_nil %[F,P,I4|qn]
 .refine uf hp (aZ (T.item X rfl rfl rfl hc i j s3 F P X.xe I3 (l K) G go) λr s4 %[u,R|h4]=>?_);subst R;refine uf hp (aZ h4 λ_ s5 %[x,H5,I5,r5,y5,C|S]=>?_);have U:=I5.pinned (l S) (T.obj _ _ C);refine uf hp (aZ (hg _ s5 F H5 x u _ U r5 (step x H5 y5)) λ_ s6 %[σ6,H6,I6|q6]=>?_);refine uf hp (aZ (k _ s6 σ6 H6 _ I6 q6) λf V A=>?_);have y:∀{q:St} {t:Hp},Inv X _ q t V->N q t->∃m,m<n/\X3 λi E z=>A4 (Inv X j E z V) (tn i V.heap) (∀c∈O,z c=none) (W i m E z):=λ{q t} w L=>by obtain⟨m',hm,w7⟩:=hN q t L;refine%[m',hm,i+1,q,t,w.xF,T.keep _ _ _ C λc k o a=>(w.pin (c,o) (nW _ (nW _ (A_ k a)))).1,λc k=>?_|w7];obtain⟨o,a,d⟩:=T.obj _ _ C c k;exact(w.pin (c,o) (nW _ (nW _ (A_ k a)))).2.1
  cases f with
  |next=>obtain⟨q,t,w,L⟩:=A;exact y w L
  |cont=>obtain⟨q,t,w,L⟩:=A;exact y w L
  |brk=>obtain⟨q,t,w,A⟩:=A;exact%[q,t,w.xF|A]
  |ret v=>obtain⟨x7,q,t,w,r7,A⟩:=A;exact%[x7,q,t,w.xF,r7|A]
def iB{xs:List V}{g:TG}{k:TS}{D:Ends}(b:Nat->St->Hp->Prop)(s:b 0 σ H)(n:∀i σ H,i<=xs.length->b i σ H->af K H a xs)
  (t:∀i x σ H,xs[i]?=some x->b i σ H->g x σ H λf h=>k {D with nx:=b (i+1),ct:=b (i+1),bk:=D.nx} f h)(hd:∀σ H,b xs.length σ H->D.nx σ H):
  ∃W:Nat->Nat->St->Hp->Prop,(∃m,W 0 m σ H)/\∀i m σ H,W i m σ H->
   ((iA K a).stop i H/\D.nx σ H)\/((iA K a).go i H/\∃N:St->Hp->Prop,(∀j c,N j c->∃l,l<m/\W (i+1) l j c)/\∀x c,(iA K a).ic i H x c->g x σ c λf h=>k {D with nx:=N,ct:=N,bk:=D.nx} f h):=by?
 refine%[λi m σ H=>m=xs.length-i/\i<=xs.length/\b i σ H,%[xs.length,by simp,bM _|s]|?_];rintro i m σ H ⟨rfl,o,p⟩;have q:=n i σ H o p;by_cases d:i<xs.length
 .refine .inr %[%[xs,xs[i],q|by simp[d]],b _,λj c r=>%[xs.length-(i+1),by omega,rfl,d|r]|λx c y=>?_];obtain⟨e,y⟩:=y
  grind
 .have e:i=xs.length:=by omega
  subst e;exact .inl %[%[xs,q|bx _]|hd σ H p]
def JC{S:Int}{g:TG}{j:TS}{D:Ends}(c:Nat->St->Hp->Prop)(q:c 0 σ H)
  (l:∀i σ H,i<n->c i σ H->g (.int (S+i)) σ H λd f=>j {D with nx:=c (i+1),ct:=c (i+1),bk:=D.nx} d f)(hd:∀σ H,c n σ H->D.nx σ H):
  ∃W:Nat->Nat->St->Hp->Prop,(∃m,W 0 m σ H)/\∀i m σ H,W i m σ H->
   ((mn S n).stop i H/\D.nx σ H)\/((mn S n).go i H/\∃N:St->Hp->Prop,(∀h a,N h a->∃k,k<m/\W (i+1) k h a)/\∀x a,(mn S n).ic i H x a->g x σ a λd f=>j {D with nx:=N,ct:=N,bk:=D.nx} d f):=by?
 refine%[λi m σ H=>m=n-i/\i<=n/\c i σ H,%[n,by simp,bM _|q]|?_];rintro i m σ H ⟨rfl,r,p⟩;by_cases b:i<n
 .refine .inr %[b,c (i+1),λh a o=>%[n-(i+1),by omega,rfl,b|o]|λx a y=>?_];obtain⟨e,y⟩:=y;subst e y;exact l i σ _ b p
 .have e:i=n:=by omega
  subst e;exact .inl %[bx _|hd σ H p]
def Sd{g:TS}{D:Ends}(f:St->Hp->Prop)(μ:St->Hp->Nat)(k:f σ H)
  (i:∀σ H,f σ H->Ε σ H λb e=>if b=true then g {D with nx:=λa d=>f a d/\μ a d<μ σ H,ct:=λa d=>f a d/\μ a d<μ σ H,bk:=D.nx} σ e else D.nx σ e)
  (mono:∀σ H Q h,(∀b e,Q b e->h b e)->Ε σ H Q->Ε σ H h):Jw Ε g D σ H:=by?
 refine%[λm σ H=>m=μ σ H/\f σ H,%[_,rfl|k]|?_];rintro m σ H ⟨rfl,p⟩;refine mono σ H _ _ (λb e q=>?_) (i σ H p);cases b with
 |true=>exact%[_,λa d %[j|l]=>%[_,l,rfl|j]|q]
 |false=>exact q
abbrev R2:=V->V->Hp->VK->Prop
def dE(X:Cx)(f:Value->Value->Sem Value)(r:R2):Prop:=
 ∀(a:List (ae×Obj)) (s:aj) (σ:St) (H:Hp) (x y:V) (v u:Value) (Q:VK),Inv X a σ H s->RelV x v->RelV y u->r x y H Q->
  wpAny (model X.prog X.w) X.A (f v u) (EP X a σ Q) X.xe s
def Ba(X:Cx)(f:Value->Sem Value)(r:V->Hp->VK->Prop):Prop:=
 ∀(a:List (ae×Obj)) (s:aj) (σ:St) (H:Hp) (x:V) (v:Value) (Q:VK),Inv X a σ H s->RelV x v->r x H Q->
  wpAny (model X.prog X.w) X.A (f v) (EP X a σ Q) X.xe s
def iC(X:Cx)(f:Value)(r:List V->Hp->VK->Prop):Prop:=
 ∀(a:List (ae×Obj)) (s:aj) (σ:St) (H:Hp) (c:List V) (b:List Value) (Q:VK),Inv X a σ H s->Vals c b->r c H Q->
  wpAny (model X.prog X.w) X.A (call f b) (EP X a σ Q) X.xe s
def Se(X:Cx)(r:V->Hp->(Bool->Hp->Prop)->Prop):Prop:=
 ∀(a:List (ae×Obj)) (s:aj) (σ:St) (H:Hp) (x:V) (v:Value) (Q:Bool->Hp->Prop),Inv X a σ H s->RelV x v->r x H Q->
  wpAny (model X.prog X.w) X.A (truthy v) (TP X a σ Q) X.xe s
def e6(r:R2)(a b:TE):TE:=λσ H Q=>a σ H λx d=>b σ d λy c=>r x y c Q
def Sf(r:V->Hp->VK->Prop)(a:TE):TE:=λσ H Q=>a σ H λx b=>r x b Q
inductive JD(C:Int->Int->Prop)(g:Int->Int->V)(H:Hp)(Q:VK):V->V->Prop
 |mk{i:_}{j:_}(a:C i j)(a:Q (g i j) H):JD C g H Q (.int i) (.int j)
def rI(C:Int->Int->Prop)(g:Int->Int->V):V->V->Hp->VK->Prop:=λx y H Q=>JD C g H Q x y
inductive JE(g:Int->Int->V)(H:Hp)(Q:VK):V->V->Prop
 |mk{i:_}{j:_}(a:Q (g i j) H):JE g H Q (.int i) (.int j)
def mq(g:Int->Int->V):V->V->Hp->VK->Prop:=λx y H Q=>JE g H Q x y
inductive JF(g:Int->V)(H:Hp)(Q:VK):V->Prop
 |mk{i:_}(a:Q (g i) H):JF g H Q (.int i)
def rU(g:Int->V):V->Hp->VK->Prop:=λx H Q=>JF g H Q x
def Bb(j:PE X e ι)(k:PE X b Ο){R:V->V->Hp->Prop}(I:Inv X δ σ H s)
  (h:ι σ H λx i=>Ο σ i λy d=>R x y d){f:Value->Value->Sem Value}
  (w:∀v u g x y d,Inv X δ σ d g->RelV x v->RelV y u->R x y d->wpAny (model X.prog X.w) X.A (f v u) Q X.xe g):
  wpAny (model X.prog X.w) X.A (eval e X.env) (λv l=>wpAny (model X.prog X.w) X.A (eval b X.env) (λu m=>wpAny (model X.prog X.w) X.A (f v u) Q X.xe m) X.xe l) X.xe s:=by
 refine aZ (j δ s σ H _ I h) λv z %[x,i,n,o|p]=>?_;refine aZ (k δ z σ i _ n p) λu g %[y,d,q,r|t]=>?_;exact w v u g x y d q o r t
def bJ{f:Operator}{r:R2}(g:dE X (binaryOp f) r)(i:PE X e ι)(j:PE X b Ο):PE X (.BinOp e f b p) (e6 r ι Ο):=by intro d s σ H Q I h;exact wpAny_BinOp (Bb i j I h λv u o x y k l m n q=>g d o σ k x y v u Q l m n q)
def uo{f:UnaryOp}{r:V->Hp->VK->Prop}(g:Ba X (unaryOp f) r)(i:PE X e ι):PE X (.UnaryOp f e p) (Sf r ι):=by intro d s σ H Q I h;exact UnaryOp_ (aZ (i d s σ H _ I h) λv n %[x,m,j,k|l]=>g d n σ m x v Q j k l)
def xG{f:Value->Value->Sem Value}{C:Int->Int->Prop}{g:Int->Int->Int}
  (d:∀(i j:Int) (t u:Tok) (s:aj) (Q:Value->aj->Prop) (E:Value->aj->Prop),C i j->Q (.int (g i j) s.toks) {s with toks:=s.toks+1}->wpAny (model X.prog X.w) X.A (f (.int i t) (.int j u)) Q E s):
  dE X f (rI C λi j=>.int (g i j)):=by
 intro e s σ H x y v u Q I k l h;obtain @⟨i,j,m,q⟩:=h;obtain⟨t,rfl⟩:=k;obtain⟨n,rfl⟩:=l;exact d i j t n s _ _ m %[.int _,H,I.tok _,%[_|rfl]|q]
def JG{f:Value->Value->Sem Value}{g:Int->Int->Int}
  (d:∀(i j:Int) (t u:Tok) (s:aj) (Q:Value->aj->Prop) (E:Value->aj->Prop),Q (.int (g i j) s.toks) {s with toks:=s.toks+1}->wpAny (model X.prog X.w) X.A (f (.int i t) (.int j u)) Q E s):
  dE X f (mq λi j=>.int (g i j)):=by
 intro e s σ H x y v u Q I k l h;obtain @⟨i,j,q⟩:=h;obtain⟨t,rfl⟩:=k;obtain⟨m,rfl⟩:=l;exact d i j t m s _ _ %[.int _,H,I.tok _,%[_|rfl]|q]
def xH{f:Value->Value->Sem Value}{g:Int->Int->Bool}
  (d:∀(i j:Int) (t u:Tok) (s:aj) (Q:Value->aj->Prop) (E:Value->aj->Prop),Q (.bool (g i j)) s->wpAny (model X.prog X.w) X.A (f (.int i t) (.int j u)) Q E s):
  dE X f (mq λi j=>.bl (g i j)):=by
 intro e s σ H x y v u Q I k l h;obtain @⟨i,j,q⟩:=h;obtain⟨t,rfl⟩:=k;obtain⟨m,rfl⟩:=l;exact d i j t m s _ _ %[.bl _,H,I,rfl|q]
def jy:dE X (binaryOp .Add) (mq λi j=>.int (i+j)):=JG λa a a a a a a q=>add_int q
def Sg:dE X (binaryOp .Sub) (mq λi j=>.int (i-j)):=JG λa a a a a a a q=>sub_int q
def Sh:dE X (binaryOp .Mod) (rI (λa j=>0<j) λi j=>.int (i%j)):=xG λi j a a a a a d q=>by have e:(0:Int)<j:=d;exact mod_int' (by omega) (by rw[Int.fmod_eq_emod_of_nonneg i (by omega)];exact q)
def Si{f:Value->Sem Value}{g:Int->Int}
  (d:∀(i:Int) (t:Tok) (s:aj) (Q:Value->aj->Prop) (E:Value->aj->Prop),Q (.int (g i) s.toks) {s with toks:=s.toks+1}->wpAny (model X.prog X.w) X.A (f (.int i t)) Q E s):
  Ba X f (rU λi=>.int (g i)):=by
 intro e s σ H x v Q I j h;obtain @⟨i,q⟩:=h;obtain⟨t,rfl⟩:=j;exact d i t s _ _ %[.int _,H,I.tok _,%[_|rfl]|q]
def uq:Ba X (unaryOp .USub) (rU λi=>.int (-i)):=Si λa a a a a q=>neg_int q
def JH:V->V->Bool
 |.bB,.bB=>true|.bB,.int _=>true|.int _,.bB=>true|.bB,.bl _=>true|.bl _,.bB=>true|.bB,.str _=>true|.str _,.bB=>true
 |.int _,.int _=>true|.bl _,.bl _=>true|.str _,.str _=>true|.hW _,.hW _=>true
 |.int _,.str _=>true|.str _,.int _=>true|.bl _,.str _=>true|.str _,.bl _=>true
 |_,_=>false
inductive Bc(x y:V)(H:Hp)(Q:VK):Prop
 |mk(a:JH x y=true)(a:Q (.bl (decide (x=y))) H)
inductive Sj(x y:V)(H:Hp)(Q:VK):Prop
 |mk(a:JH x y=true)(a:Q (.bl (!decide (x=y))) H)
def JI{S φ:Int}:decide (V.int S=V.int φ)=(S==φ):=by rw[HC];simp
def JJ{Η j:Bool}:decide (V.bl Η=V.bl j)=(Η==j):=by rw[HC];simp
def JK:decide (V.str x=V.str m)=(x==m):=by rw[HC];simp
def JL{i j:Array UInt8}:decide (V.hW i=V.hW j)=(i.toList==j.toList):=by rw[HC];cases i;cases j;simp
def dF{Q:VK}{Η d:Bool}(I:Inv X δ σ H s)(q:Q (.bl Η) H)(e:Η=d):EP X δ σ Q (.bool d) s:=by subst e;exact%[.bl Η,H,I,rfl|q]
def dY:dE X (gE .Eq) Bc:=by?
 intro k s σ H x y v u Q I g d h;obtain⟨f,q⟩:=h;cases x with
 |bB=>
  cases g;cases y with
  |bB=>cases d;exact PySem.EqNone.eq_none_none (dF I q (by simp))
  |bl j=>cases d;exact PySem.EqNone.eq_none_bool (dF I q (by simp))
  |int j=>obtain⟨e,rfl⟩:=d;exact PySem.EqNone.eq_none_int (dF I q (by simp))
  |str j=>obtain⟨e,rfl⟩:=d;exact PySem.EqNone.eq_none_str (dF I q (by simp))
  |_=>exact aT (f) dJ
 |bl i=>
  cases g;cases y with
  |bB=>cases d;exact PySem.EqNone.eq_bool_none (dF I q (by simp))
  |bl j=>cases d;exact eq_bool (dF I q JJ)
  |str j=>obtain⟨e,rfl⟩:=d;exact PySem.EqMixed.eq_bool_str (dF I q (by simp))
  |_=>exact aT (f) dJ
 |int i=>
  obtain⟨t,rfl⟩:=g;cases y with
  |bB=>cases d;exact PySem.EqNone.eq_int_none (dF I q (by simp))
  |int j=>obtain⟨e,rfl⟩:=d;exact eq_int (dF I q JI)
  |str j=>obtain⟨e,rfl⟩:=d;exact PySem.EqMixed.eq_int_str (dF I q (by simp))
  |_=>exact aT (f) dJ
 |str i=>
  obtain⟨t,rfl⟩:=g;cases y with
  |bB=>cases d;exact PySem.EqNone.eq_str_none (dF I q (by simp))
  |bl j=>cases d;exact PySem.EqMixed.eq_str_bool (dF I q (by simp))
  |int j=>obtain⟨e,rfl⟩:=d;exact PySem.EqMixed.eq_str_int (dF I q (by simp))
  |str j=>obtain⟨e,rfl⟩:=d;exact eq_str (dF I q JK)
  |_=>exact aT (f) dJ
 |hW i=>
  obtain⟨t,rfl⟩:=g;cases y with
  |hW j=>obtain⟨e,rfl⟩:=d;exact PySem.W.eq_bytes (dF I q JL)
  |_=>exact aT (f) dJ
 |_=>cases y<;>exact aT (f) dJ
def pR:dE X (gE .NotEq) Sj:=by?
 intro k s σ H x y v u Q I g d h;obtain⟨f,q⟩:=h;cases x with
 |bB=>
  cases g;cases y with
  |bB=>cases d;exact PySem.EqNone.ne_none_none (dF I q (by simp))
  |bl j=>cases d;exact PySem.EqNone.ne_none_bool (dF I q (by simp))
  |int j=>obtain⟨e,rfl⟩:=d;exact PySem.EqNone.ne_none_int (dF I q (by simp))
  |str j=>obtain⟨e,rfl⟩:=d;exact PySem.EqNone.ne_none_str (dF I q (by simp))
  |_=>exact aT (show false=true from f) dJ
 |bl i=>
  cases g;cases y with
  |bB=>cases d;exact PySem.EqNone.ne_bool_none (dF I q (by simp))
  |bl j=>cases d;exact ne_bool (dF I q (congrArg not JJ))
  |str j=>obtain⟨e,rfl⟩:=d;exact PySem.EqMixed.ne_bool_str (dF I q (by simp))
  |_=>exact aT (show false=true from f) dJ
 |int i=>
  obtain⟨t,rfl⟩:=g;cases y with
  |bB=>cases d;exact PySem.EqNone.ne_int_none (dF I q (by simp))
  |int j=>obtain⟨e,rfl⟩:=d;exact ne_int (dF I q (congrArg not JI))
  |str j=>obtain⟨e,rfl⟩:=d;exact PySem.EqMixed.ne_int_str (dF I q (by simp))
  |_=>exact aT (show false=true from f) dJ
 |str i=>
  obtain⟨t,rfl⟩:=g;cases y with
  |bB=>cases d;exact PySem.EqNone.ne_str_none (dF I q (by simp))
  |bl j=>cases d;exact PySem.EqMixed.ne_str_bool (dF I q (by simp))
  |int j=>obtain⟨e,rfl⟩:=d;exact PySem.EqMixed.ne_str_int (dF I q (by simp))
  |str j=>obtain⟨e,rfl⟩:=d;exact ne_str (dF I q (congrArg not JK))
  |_=>exact aT (show false=true from f) dJ
 |hW i=>
  obtain⟨t,rfl⟩:=g;cases y with
  |hW j=>obtain⟨e,rfl⟩:=d;exact PySem.W.ne_bytes (dF I q (congrArg not JL))
  |_=>exact aT (show false=true from f) dJ
 |_=>cases y<;>exact aT (show false=true from f) dJ
def ur:dE X (gE .Lt) (mq λi j=>.bl (decide (i<j))):=xH λa a a a a a a q=>lt_int q
def rP:dE X (gE .LtE) (mq λi j=>.bl (decide (i<=j))):=xH λa a a a a a a q=>le_int q
def oH:dE X (gE .Gt) (mq λi j=>.bl (decide (j<i))):=xH λa a a a a a a q=>gt_int q
def Sk:dE X (gE .GtE) (mq λi j=>.bl (decide (j<=i))):=xH λa a a a a a a q=>ge_int q
def uu:dE X (gE .Is) (λx y H Q=>y=.bB/\Q (.bl (decide (x=.bB))) H):=by?
 intro e s σ H x y v u Q I d f h;obtain⟨rfl,q⟩:=h;cases f;refine is_none_gen (dF I q ?_);cases x<;>first
  |(cases d;rfl)
  |(obtain⟨t,rfl⟩:=d;rfl)
def b_(b:Expr){d:CmpOp}(h:d≠.In:=by decide)(e:d≠.NotIn:=by decide):behindInMarks d b=false:=by?
 have f:(d==CmpOp.In)=false:=by cases d<;>first|rfl|exact aT rfl h
 have g:(d==CmpOp.NotIn)=false:=by cases d<;>first|rfl|exact aT rfl e
 cases b with
 |Set _ k _=>show(_&&(_||_)&&_)=false;rw[f,g];cases k==0<;>rfl
 |_=>rfl
def i7{f:CmpOp}{r:R2}(g:dE X (gE f) r)(i:PE X e ι)(j:PE X b Ο)(o:behindInMarks f b=false):PE X (.Compare e [f] [b] p) (e6 r ι Ο):=by intro d s σ H Q I h;exact wpAny_Compare1 (Bb i j I h λv u t x y k l m n q=>g d t σ k x y v u Q l m n q) o
inductive JM(Q:Bool->Hp->Prop)(d:Hp):V->Prop
 |mk{k:_}(a:Q k d):JM Q d (.bl k)
def xI(t:TE):TT:=λσ H Q=>t σ H λx d=>JM Q d x
def bY{f:CmpOp}{r:R2}(g:dE X (gE f) r)(i:PE X e ι)(j:PE X b Ο)(G:behindInMarks f b=false):PT X (.Compare e [f] [b] p) (xI (e6 r ι Ο)):=by?
 intro d s σ H Q I h;refine wpAny_isTrue_Compare1 (aZ (i d s σ H _ I h) λv K %[x,F,l,m|n]=>aZ (j d K σ F _ l n) λu J %[y,o,q,t|w]=>
  aZ (g d J σ o x y v u _ q m t w) λc L %[z,A,B,C|D]=>?_) G
 obtain @⟨k,E⟩:=D;cases C;exact oz %[A,B|E]
inductive Sl(σ:St)(Q:VK)(e:R2)(tc:TE)(y z:V)(d:Hp):Prop
 |mk k(a:z=.bl k)(a:if k=true then tc σ d λf g=>e y f g Q else Q (.bl false) d)
def JN(r d:R2)(ta tb tc:TE):TE:=λσ H Q=>ta σ H λx g=>tb σ g λy e=>r x y e λz f=>Sl σ Q d tc y z f
def Bd{tc:TE}{l i:CmpOp}{r m:R2}(w:dE X (gE l) r)(j:dE X (gE i) m)(A:PE X e ι)(B:PE X b Ο)(C:PE X c tc)
  (W:lastMarks [l,i] [b,c]=false:=by with_unfolding_all rfl):PE X (.Compare e [l,i] [b,c] p) (JN r m ι Ο tc):=by?
 intro g s σ H Q I h;refine Compare_chain (aZ (A g s σ H _ I h) λv Z %[x,T,D,E|F]=>chain_link (aZ (B g Z σ T _ D F) λu Y %[y,G,J,n|K]=>
  aZ (w g Y σ G x y v u _ J E n K) λd U %[z,o,q,L,k,f|t]=>?_)) W
 subst f;cases L;refine oz ?_;cases k with
 |false=>exact ite_ff %[.bl false,o,q,rfl|t]
 |true=>exact ite_tt (chain_last (aZ (C g U σ o _ q t) λM V %[N,O,P,R|S]=>j g V σ O y N u M Q P n R S))
def Sm{tc:TE}{l i:CmpOp}{r m:R2}(w:dE X (gE l) r)(j:dE X (gE i) m)(A:PE X e ι)(B:PE X b Ο)(C:PE X c tc)
  (hm:lastMarks [l,i] [b,c]=false:=by with_unfolding_all rfl):PT X (.Compare e [l,i] [b,c] p) (xI (JN r m ι Ο tc)):=by?
 intro g s σ H Q I h;refine isTrue_chain (aZ (A g s σ H _ I h) λv s1 %[x,H1,D,E|F]=>test_link (aZ (B g s1 σ H1 _ D F) λu s2 %[y,G,J,n|K]=>
  aZ (w g s2 σ G x y v u _ J E n K) λd s3 %[z,o,q,L,k,f|t]=>?_)) hm
 subst f;cases L;refine oz ?_;cases k with
 |false=>
  obtain @⟨k',M⟩:=t;exact ite_ff %[o,q|M]
 |true=>
  refine ite_tt (test_last (aZ (C g s3 σ o _ q t) λN s4 %[O,P,R,S|T]=>aZ (j g s4 σ P y O u N _ R n S T) λd' s5 %[z2,U,V,W|Y]=>?_));obtain @⟨k2,Z⟩:=Y;cases W;exact oz %[U,V|Z]
def JO(K:ah)(x:V)(H:Hp)(k:Bool):Prop:=
 match x with
 |.bB=>k=false
 |.bl b=>k=b
 |.int i=>k=(i !=0)
 |.str y=>y.length<=bf/\k=((y.length:Int)!=0)
 |.hW y=>y.size<=bf/\k=((y.size:Int)!=0)
 |.ref p=>(∃xs,af K H p xs/\k=!xs.isEmpty)\/(∃xs,bN K H p xs/\k=!xs.isEmpty)\/∃kvs,H p=some (.dK kvs)/\k=!kvs.isEmpty
 |_=>False
def Sn{κ:Type}{kvs:List (κ×V)}{vs:List (κ×Value)}(r:KV kvs vs):(!vs.isEmpty)=!kvs.isEmpty:=by cases r<;>rfl
def JP{xs:List V}{its:List Value}(r:Vals xs its):(!its.toArray.isEmpty)=!xs.isEmpty:=by cases r<;>simp
def pS:(bf:Nat)<2^63:=by decide
def So:Se X (λx H Q=>∃k,JO X.K x H k/\Q k H):=by?
 intro pins s σ H x v Q I rx h;obtain⟨k,e,q⟩:=h;have hl:=pS;have hs:bf=16777216:=pH;cases x with
 |bB=>
  cases rx;have e':k=false:=e;subst e';exact truthy_none ⟨H,I,q⟩
 |bl b=>
  cases rx;have e':k=b:=e;subst e';exact oz ⟨H,I,q⟩
 |int i=>
  obtain⟨t,rfl⟩:=rx;have e':k=(i !=0):=e;subst e';exact PySem.P.truthy_int ⟨H,I,q⟩
 |str y=>
  obtain⟨t,rfl⟩:=rx;obtain⟨hy,e'⟩:y.length<=bf/\k=((y.length:Int)!=0):=e;subst e';exact PySem.P.truthy_str (by omega) ⟨H,I.tok _,q⟩
 |hW y=>
  obtain⟨t,rfl⟩:=rx;obtain⟨hy,e'⟩:y.size<=bf/\k=((y.size:Int)!=0):=e;subst e';exact PySem.W.truthy_bytes (by omega) ⟨H,I.tok _,q⟩
 |ref p=>
  cases rx;have e':=e;rcases e' with⟨xs,hx,e'⟩|⟨xs,hx,e'⟩|⟨kvs,hx,e'⟩
  .subst e';obtain⟨its,r,pl,hz⟩:=I.list hx;have hlen:=r.length;exact wpAny_truthy_list pl.isList (by grind) ⟨H,I.tok _,by rw[JP r];exact q⟩
  .subst e';obtain⟨its,r,pl,hz⟩:=I.tuple hx;have hlen:=r.length;exact truthy_tuple pl (by grind) ⟨H,I.tok _,by rw[JP r];exact q⟩
  .subst e';obtain⟨hz,hS,vs,r,m⟩:kvs.length<=bf/\(p==iQ)=false/\∃vs,KV kvs vs/\s.heap.DictOf (iw X.prog X.w) p vs:=I.aU p _ hx;have hlen:=o5 r;exact wpAny_truthy_dict hS m (by omega) ⟨H,I.tok _,by rw[Sn r];exact q⟩
 |_=>exact(show False from e).elim
def eQ(g:PE X e ι)(n:∀whole,isTrue e X.env whole=(do let v<-whole;standAt e.pos;holding [v] (truthy v))):
  PT X e (λσ H Q=>ι σ H λx f=>∃k,JO X.K x f k/\Q k f):=by
 intro d s σ H Q I h;exact isTrue_plain (aZ (g d s σ H _ I h) λv o %[x,m,i,j|l]=>So d o σ m x v Q i j l) (n _)
def xJ:dE X (binaryOp .Add) (λx y H Q=>X2 λi j=>A4 (x=.str i) (y=.str j) (i.length+j.length<=bf) (Q (.str (i++j)) H)):=by intro d s σ H x y v u Q I e f h;obtain⟨i,j,rfl,rfl,g,q⟩:=h;obtain⟨t,rfl⟩:=e;obtain⟨k,rfl⟩:=f;exact add_str (λk tk=>%[.str _,H,I.tok _,%[_|rfl]|q]) g
def vals1(r:Vals [O] Φ):∃u,Φ=[u]/\RelV O u:=by
 cases r with
 |cons d e=>cases e;exact%[_,rfl|d]
def JQ:iC X (.builtin "ord") (λe H Q=>X1 λx=>A3 (e=[.str x]) (x.length=1) (Q (.int (x.cps.getD 0 0:Nat)) H)):=by intro d s σ H e g Q I r h;obtain⟨x,rfl,f,q⟩:=h;obtain⟨u,rfl,t,rfl⟩:=vals1 r;exact ord_of_one f %[.int _,H,I.tok _,%[_|rfl]|q]
structure pT(h:ax)(x a C:ae)(b:Str->Option Value):Prop where
 obj:h.get? x=some (wo C a)
 ns:h.Ns1 a b
 ne:a≠x
def Sq(n:h.Ns1 a r):∃d,h.get? a=some d/\∀name,HD name d=some (r name):=by?
 obtain⟨o,f,l,g,hd,i,m,k⟩:=n;refine%[o,g|λname=>?_];have e:=k name;unfold nsFind findBy at e;rw[<-Array.find?_toList]at e;unfold HD;rw[hd];dsimp only;split
 .grind
 .have b:f.toList.any (·.refKey)=false:=by rw[ac6];intro y j;obtain⟨z,t,c⟩:=i y (Array.mem_toList_iff.mp j);simp[DictEntry.refKey,c]
  grind
def pT.look{f:ae}(I:pT h a f D r):∃b,PySem.W.InstAt h a (wo D f) D (some b)/\∀name,HD name b=some (r name):=
 let%[b,c|d]:=Sq I.ns
 %[b,%[I.obj,rfl,rfl|c]|d]
def get_map{l:ae}{Η:Bool}(X:K.In s.heap)(I:pT s.heap a D l r)(c:Af K l m=true)(d:HE K l=true)
  (e:lU K (.ref l) m=some none)(g:r m=some η)(b:ac7 η=true)(h:Q η {s with toks:=s.toks+1}):
  wpAny (model P w) A (getAttr (.ref a) m Η) Q E s:=by
 obtain⟨j,J,i⟩:=I.look;exact PySem.W.get_value X J (PQ c).1 (PySem.W.findObj_own d e rfl (by rw[i,g])) b h
def Sr{f l:ae}{pl:Sem Bool}{Q:Value×List Value->aj->Prop}(X:K.In s.heap)(I:pT s.heap a D l r)(b:Af K l m=true)
  (i:lU K (.ref l) m=some (some (.ref f)))(c:Ag K (.ref f)=true)(d:r m=none)(h:Q (.ref f,[.ref a]) s):
  wpAny (model P w) A (getMethod (.ref a) m pl) Q E s:=by
 obtain⟨e,J,g⟩:=I.look;exact PySem.W.method_fn X J (PQ b).1 (PQ b).2 i (beq_iff_eq.mp c) (by show(HD m e).map _=some false;rw[g,d];rfl) h
def Ss{l:ae}{ν:List Str}{Q:Unit->aj->Prop}(X:K.In s.heap)(I:pT s.heap a D l r)
  (j:lU K (.ref l) "__setattr__"=some (some (.builtin "object.__setattr__")))(hp:PU K l=true)(k:PV K l m=some none)(n:HE K l=true)
  (F:PL r ν)(o:ν.length<=bf)
  (h:∀e,pT e a D l (λy=>if y=m then some η else r y)->gD D s.heap e->Q () {s with heap:=e,toks:=s.toks+2}):
  wpAny (model P w) A (setAttr (.ref a) m η) Q E s:=by?
 obtain⟨G,J,H⟩:=I.look;refine PySem.W.set_plain X J j (PySem.W.osa_open X J hp k λb=>?_);obtain⟨M,p,g⟩:=PySem.W.any_some n;have q:=I.obj;refine aA (bh (aA (aA (wpAny_loadPart q (aA (PySem.W.Looks.here (PySem.W.looks_clsIn X p) ?_))))));rw[g];refine bh (aA (bh (aA ?_)));refine wpAny_nsSet1 I.ns λe c d=>?_
 obtain⟨L,t,u,i,z,B⟩:=c.count (PL.cons m η F);refine aA (wpAny_lookBehind i (by grind [pastItsLine_dict]) ?_);exact bh (h _ %[(d.2 _ (kP I.ne)).trans I.obj,c|I.ne] d)
def Su{f:ae}{R:Result->aj->Prop}{b:List (Str×Value)}(X:K.In s.heap)(i:PX K a=true)
  (c:lU K (.ref a) "__init__"=some (some (.ref f)))(e:PySem.W.typeIn K (.ref f)=some (.type "function"))
  (h:codeAny (model P w) (A.under (.builtin "type.__call__" %[.ref a::Φ|b])) (.call (.ref f) %[.ref (↥s+1)::Φ|b]) (PySem.W.InitBack (↥s+1) R)
   {s with heap:=(s.heap.push tS).push (wo a ↥s)}):
  codeAny (model P w) A (.call (.ref a) %[Φ|b]) R s:=by
 obtain⟨j,g,d,t,os⟩:=s;exact PySem.W.make_core (PySem.W.makes_of X i) (PySem.W.looks_findIn X c) (λself=>PySem.W.bind_fn X self e) (.inl rfl) h
def cb(f:Str)(v:V):List (Str×V)->List (Str×V)
 |[]=>[(f,v)]
 |(g,x)::r=>if g=f then(g,v)::r else(g,x)::cb f v r
theorem mr(f g:Str)(v:V):∀fs:List (Str×V),(cb f v fs).lookup g=if g=f then some v else fs.lookup g
 |[]=>by
  show List.lookup g [(f,v)]=_
  grind
 |(k,x)::r=>by
  have a:=mr f g v r
  grind [cb]
def Be(f:Str)(v:V):∀fs:List (Str×V),f∈(cb f v fs).map (·.1)/\∀g,g∈fs.map (·.1)->g∈(cb f v fs).map (·.1):=by?
 intro fs;induction fs with
 |nil=>exact%[bQ|λg h=>nomatch h]
 |cons p r a=>
  obtain⟨k,x⟩:=p;by_cases e:k=f
  .rw[show cb f v ((k,x)::r)=(k,v)::r from aS e];exact%[e▸bQ|λg h=>h]
  .rw[show cb f v ((k,x)::r)=(k,x)::cb f v r from aE e];exact%[bG _ a.1|λg h=>(cU.mp h).elim (λz=>z▸bQ) λz=>bG _ (a.2 g z)]
theorem nj(f:Str)(v:V):∀fs:List (Str×V),(cb f v fs).length<=fs.length+1
 |[]=>by simp[cb]
 |(k,x)::r=>by
  have a:=nj f v r
  grind [cb]
def iy.some_of{o:Option Value}(r:iy (some O) o):∃u,o=some u/\RelV O u:=by
 cases o with
 |none=>exact(r).elim
 |some u=>exact%[u,rfl|r]
def iy.none_of{o:Option Value}(r:iy none o):o=none:=by
 cases o with
 |none=>rfl
 |some u=>exact(r).elim
def Sv(r:RelV O η):ac7 η=true:=by
 cases O with
 |bB=>cases(r);rfl
 |bl b=>cases(r);rfl
 |int i=>obtain⟨t,e⟩:=(r);cases e;rfl
 |str x=>obtain⟨t,e⟩:=(r);cases e;rfl
 |hW b=>obtain⟨t,e⟩:=(r);cases e;rfl
 |xr b=>obtain⟨t,e⟩:=(r);cases e;rfl
 |ref a=>cases(r);rfl
 |ty n=>cases(r);rfl
def Bf{f:ae}(aU:cZ P w H h)(e:H a=some (.ins f D fs)):X1 λc=>A5 (pT h a D f c) (∀b,iy (fs.lookup b) (c b)) (PL c (fs.map (·.1))) (fs.length<=1000) (H D=some (.own a)):=by obtain⟨d,z,ne,ob,c,n,r,q⟩:=(aU a _ e);exact%[c,%[ob,n|ne],r,q,z|d]
structure gJ(K:ah)(C:ae):Prop where
 pg:Af K C jI=true
 hd:HE K C=true
 po:PU K C=true
 sa:lU K (.ref C) "__setattr__"=some (some (.builtin "object.__setattr__"))
def gJ.get(c:gJ K a)(f:Str):Af K a f=true:=c.pg
def eS(K:ah)(C:ae)(f:Str):Prop:=lU K (.ref C) f=some none
def eS.Sw(n:eS K a x):PV K a x=some none:=by unfold PV;rw[n];rfl
structure Meth(K:ah)(C:ae)(m:Str)(f:ae):Prop where
 at_:lU K (.ref C) m=some (some (.ref f))
 fn:Ag K (.ref f)=true
 kp:mT K (.ref f)=true
def Sx{l:ae}{Η:Bool}(I:Inv X δ σ H s)(e:H a=some (.ins D l fs))(c:gJ X.K D)(n:eS X.K D x)(d:fs.lookup x=some O)
  (h:∀u i,Inv X δ σ H i->RelV O u->Q u i):wpAny (model X.prog X.w) A (getAttr (.ref a) x Η) Q E s:=by
 obtain⟨m,g,r,b,b,b⟩:=Bf I.aU e;obtain⟨u,k,j⟩:=iy.some_of (by rw[<-d];exact r x);exact get_map I.h_ g (c.get x) c.hd n k (Sv j) (h u _ (I.tok _) j)
def JR{g l:ae}{pl:Sem Bool}{Q:Value×List Value->aj->Prop}(I:Inv X δ σ H s)(e:H a=some (.ins D l fs))(c:gJ X.K D)(k:Meth X.K D m g)(b:fs.lookup m=none)
  (h:Q (.ref g,[.ref a]) s):wpAny (model X.prog X.w) A (getMethod (.ref a) m pl) Q E s:=by
 obtain⟨i,O,r,f,f,f⟩:=Bf I.aU e;have d:=iy.none_of (by rw[<-b];exact r m);exact Sr I.h_ O (c.get m) k.at_ k.fn d h
def Sy{l:ae}{Q:Unit->aj->Prop}(I:Inv X δ σ H s)(e:H a=some (.ins D l fs))(c:gJ X.K D)(n:eS X.K D x)(L:fs.length<1000)(t:RelV O η)
  (h:∀j,Inv X δ σ (upd H a (.ins D l (cb x O fs))) j->Q () j):wpAny (model X.prog X.w) A (setAttr (.ref a) x η) Q E s:=by?
 obtain⟨k,d,r,m,f,p⟩:=Bf I.aU e;have w:(fs.map (·.1)).length<=bf:=by rw[aY,pH];omega
 refine Ss I.h_ d c.sa c.po n.Sw c.hd m w λB i F=>h _ ?_;have hd:∃o,B.get? l=some o:=let%[o,_,_,G|_]:=i.ns;%[o|G];refine I.write (x:=a) (e:=l) (by rw[e];exact wt) (.inr p) (λb q J z=>(F.2 b J).trans z) hd ?_;refine%[by rw[aB d.ne];exact p,?_,d.ne,i.obj,_,i.ns,λg=>?_|λg K=>?_]
 .have:=nj x O fs;omega
 .show iy ((cb x O fs).lookup g) (if g=x then some η else k g);rw[mr];by_cases q:g=x
  .rw[aS q,aS q];exact t
  .rw[aE q,aE q];exact r g
 .by_cases q:g=x
  .rw[q];exact(Be x O fs).1
  .refine(Be x O fs).2 g (m g λz=>K ?_);show(if g=x then some η else k g)=none;rw[aE q];exact z
def Inv.made{C:ae}(I:Inv X δ σ H s):Inv X δ σ (upd (upd H ↥s (.own (↥s+1))) (↥s+1) (.ins C ↥s []))
  {s with heap:=(s.heap.push tS).push (wo C ↥s)}:=by?
 have c:(s.heap.push tS).get? ↥s=some tS:=cV s.heap rfl;have d:=by
  have:=cV (s.heap.push tS) (o:=wo C ↥s) rfl
  rwa [eG]at this
 have g:(s.heap.push tS).Ns ↥s (λa=>none):=%[tS,#[],_,c,rfl,(λe j=>aT j (by simp))|λa=>rfl];have h:=I.laid (o:=.own (↥s+1)) (t':=s.toks) (λb u q=>bL _ q) (bx _) %[_|c];refine h.laid (λb u q=>bL _ q) (qZ (eG _ _)) ?_;have ne:↥s≠↥s+1:=dn (wu _);refine%[by rw[aB ne,ak],bM _,ne,d,λa=>none,(Heap.Ns1.of_empty g).at λo q=>bL _ q,λa=>wt|λy i=>aT rfl i]
def SA{Ι:Env}(b:oA e x Ι (eval e Ι)=eval e Ι)
  (h:wpAny (model P w) A (eval e Ι) (λo c=>wpAny (model P w) A (getAttr o x true) Q E c) E s):wpAny (model P w) A (eval (.Attribute e x p) Ι) Q E s:=
 Attribute_any_ h (by rw[arm_eval_Attribute,b])
inductive JS(Q:VK)(K:ah)(f:Str)(b:Hp):V->Prop
 |mk{a:_}{C:_}{c:_}{fs:_}{v:_}(d:b a=some (.ins C c fs))(d:gJ K C)(d:eS K C f)(d:fs.lookup f=some v)(d:Q v b):JS Q K f b (.ref a)
def fL(K:ah)(a:TE)(f:Str):TE:=λσ H Q=>a σ H λx b=>JS Q K f b x
inductive JT(D:Ends)(σ:St)(K:ah)(f:Str)(y:V)(b:Hp):V->Prop
 |mk{a:_}{C:_}{c:_}{fs:_}(d:b a=some (.ins C c fs))(d:gJ K C)(d:eS K C f)(d:fs.length<1000)(d:D.nx σ (upd b a (.ins C c (cb f y fs)))):JT D σ K f y b (.ref a)
def SD(K:ah)(a b:TE)(f:Str):TS:=λD σ H=>b σ H λy d=>a σ d λx c=>JT D σ K f y c x
def SE(w:PE X e ι)(g:oA e x X.env (eval e X.env)=eval e X.env):PE X (.Attribute e x p) (fL X.K ι x):=by? intro d s σ H Q I h;refine SA g (aZ (w d s σ H _ I h) λu B %[b,t,i,j|k]=>?_);obtain @⟨a,C,y,fs,v,ea,c,n,l,q⟩:=k;obtain rfl:u=iO a:=j;exact Sx i ea c n l λz A m r=>%[v,t,m,r|q]
def fR{M:Pos}{o:Expr}(i:PE X o ι)(j:PE X b Ο)(k:rD b (some (.Attribute o x M)) p.line X.env=pure false):PS X (.Assign [.Attribute o x M] b p) (SD X.K ι Ο x):=by? intro g s σ H D I h;refine plainObj_wpAny_Assign_Attribute (aZ (j g s σ H _ I h) λu F %[y,E,m,r|q]=>aZ (i g F σ E _ m q) λt L %[d,G,v,w|z]=>?_) k;obtain @⟨a,C,J,fs,ea,c,n,l,A⟩:=z;obtain rfl:t=iO a:=w;exact Sy v ea c n l r λK B=>%[σ,_,B|A]
structure cY(k:Nat)(A:Around):Prop where
 hd:A.handled=none
 dp:A.depth+3*k+5<recursionLimit
 un:A.units+16*k+200<cLine
def cY.mono{j:Nat}(r:cY n A)(h:j<=n):cY j A:=%[r.hd,by have:=r.dp;omega|by have:=r.un;omega]
theorem cY.deeper(r:cY (n+1) A)(env:Env):cY n (A.deeper env):=
 %[r.hd,by have:=r.dp;show A.depth+1+3*n+5<_;omega|by have:=r.un;show A.units+3+16*n+200<_;omega]
def SF{b:List (Str×Value)}:(A.under (.builtin "type.__call__" %[.ref a::Φ|b])).depth=A.depth+1:=by rfl
def SG{b:List (Str×Value)}:(A.under (.builtin "type.__call__" %[.ref a::Φ|b])).units=A.units+1:=by rfl
def cY.make(r:cY (n+1) A)(C:ae)(a:List Value)(b:List (Str×Value)):cY n (A.under (.builtin "type.__call__" %[.ref C::a|b])):=
 %[r.hd,by have:=r.dp;rw[SF];omega|by have:=r.un;rw[SG];omega]
theorem cY.depth(r:cY n A):A.depth<recursionLimit:=by have:=r.dp;omega
theorem cY.units(r:cY n A):A.units+64<cLine:=by have:=r.un;omega
def cY.rQ(r:cY n A):A.units<cLine:=by have:=r.un;omega
def fS:TA:=λa H Q=>Q [] H
def e9(a:TE)(b:TA):TA:=λσ H Q=>a σ H λx d=>b σ d λe c=>Q (x::e) c
def e_:PA X [] fS:=λa a a a H Q I h=>PY %[[],H,I,.nil|h]
def ay(b:PE X e ι)(c:PA X ξ t)(d:bP (e::ξ) X.env=(false,eval e X.env)::bP ξ X.env:=by rfl):PA X (e::ξ) (e9 ι t):=by intro p a s σ H Q I h;rw[d];refine HF (aZ (b a s σ H _ I h) λu q %[x,n,f,g|i]=>?_);exact aZ (c p a q σ n _ f i) λr v %[o,j,k,l|m]=>%[x::o,j,k,.cons g l|m]
inductive SH(Q:VK)(b:List V)(a:Hp):Prop
 |mk(c:b.length<=bf)(c:∀p,a p=none->Q (.ref p) (upd a p (.tup b)))
def SI(t:TA):TE:=λσ H Q=>t σ H λb a=>SH Q b a
inductive SJ(Q:VK)(b:List V)(a:Hp):Prop
 |mk(c:b.length<=bf)(c:∀p,a p=none->Q (.ref p) (upd a p (.lst b)))
def JU(t:TA):TE:=λσ H Q=>t σ H λb a=>SJ Q b a
def mB{f}(h:PA X ξ t):PE X (.Tuple ξ f p) (SI t):=by? intro a s σ H Q I g;refine wpAny_Tuple_spliced (aZ (h p a s σ H _ I g) λk d %[l,i,c,r,z|q]=>%[by rw[<-r.length];exact z|?_]);have j:=c.aU.fresh (bx _);refine%[.ref ↥d,upd i ↥d _,c.laid (λb u e=>bL _ e) (bx _) ?_,rfl|q _ j];exact%[z,k,r|%[_,cV _ rfl,rfl,_|rfl]]
def bH(h:PA X ξ t):PE X (.List ξ p) (JU t):=by? intro a s σ H Q I f;refine wpAny_List_spliced (aZ (h p a s σ H _ I f) λj d %[k,g,c,r,z|q]=>%[by rw[<-r.length];exact z|?_]);have i:=c.aU.fresh (bx _);refine%[.ref ↥d,upd g ↥d _,c.laid (λb u e=>bL _ e) (bx _) ?_,rfl|q _ i];exact%[z,j,0,r|cV _ rfl]
end
abbrev Sp:=List V->Hp->VK->XK->Prop
abbrev kj:=List Env->Hp->aj->XK->Value->aj->Prop
structure pU(P:aC)(w:World)(K:ah)(mg:Str->Option Value)(base:ax)(A:Around)(outer:List Env)(s:aj)(H:Hp):Prop where
 frames:A.frames=some outer
 mod:Mod K mg base
 bs:∀b o,base.get? b=some o->s.heap.get? b=some o/\H b=none
 m7:base.objs.size<=↥s
 j9:s.heap.FunFrames base outer
 pN:∀b∈lh outer,H b=none
 aU:cZ P w H s.heap
 bare:AllBare s.gens
inductive CE(outer:List Env)(P:aC)(w:World)(H:Hp)(s:aj)(Q:VK)(u:Value)(a:aj):Prop
 |mk v b(c:a.os=s.os)(c:AllBare a.gens)(c:Un (lh outer) [] H b s.heap a.heap)(c:cZ P w b a.heap)(c:RelV v u)(c:Q v b)
def CR(b:kj)(outer:List Env)(P:aC)(w:World)(H:Hp)(s:aj)(Q:VK)(E:XK)(r:Result)(a:aj):Prop:=
 match r with
 |.ok (.ret u)=>CE outer P w H s Q u a
 |.ok _=>False
 |.error e=>b outer H s E e a
structure aJ(P:aC)(w:World)(K:ah)(mg:Str->Option Value)(base:ax)(g:kj)(k:Nat)(f:ae)(h:aK)(c:List Str)(e:Sp):Prop where
 len:∀b H Q E,e b H Q E->b.length=c.length
 run:∀(A:Around) (outer:List Env) (s:aj) (H:Hp) (a:Args) (d:List Value) (b:List V) (Q:VK) (E:XK),cY k A->pU P w K mg base A outer s H->BindsTo s h a (c.zip d)->Vals b d->e b H Q E->
  codeAny (model P w) A (.call (.ref f) a) (CR g outer P w H s Q E) s
section
variable{CX:kj}{E:XK}{M Β:Pos}{a f:ae}{o:Expr}{sp:Sp}{y:aK}{Ζ:List V}{μ:Scope}{ν:List Str}
def pU.make{outer:List Env}(e:pU P w K r h A outer s H)(C:ae)(b:List Value)(a:List (Str×Value)):
  pU P w K r h (A.under (.builtin "type.__call__" %[.ref C::b|a])) outer s H:=⟨by first|exact e.frames|(simpa[pushEnvs]using e.frames),e.mod,e.bs,e.m7,e.j9,e.pN,e.aU,e.bare⟩
def Inv.JV(I:Inv X δ σ H s):pU X.prog X.w X.K X.mg X.base X.A X.stack s H:=
 %[I.ok.frames,I.ok.mod,I.bs,bq I.ok.m7 I.sz,I.stack,I.Jc,I.aU|I.bare]
def Inv.after{s':aj}{Q:VK}(I:Inv X δ σ H s)(h:CE X.stack X.prog X.w H s Q η s'):EP X δ σ Q η s':=by obtain⟨v,c,os,bare,un,aU,r,q⟩:=h;obtain⟨e,g,d,t,a⟩:=s';obtain rfl:a=s.os:=os;exact%[v,c,I.call un aU bare (λb z=>aT z (by simp)),r|q]
def oI(d:Sp)(a:List V)(E:XK)(t:TA):TE:=λσ H Q=>t σ H λb c=>d (b++a) c Q E
inductive JW(σ:St)(Q:VK)(C:ae)(m:Str)(d:Sp)(b:List V)(E:XK)(t:TA)(c:Hp):V->Prop
 |mk{a:_}{e:_}{fs:_}(h:c a=some (.ins C e fs))(h:fs.lookup m=none)(h:t σ c λf g=>d ((.ref a)::(f++b)) g Q E):JW σ Q C m d b E t c (.ref a)
def uv(C:ae)(m:Str)(d:Sp)(a:List V)(E:XK)(b:TE)(t:TA):TE:=λσ H Q=>b σ H λx c=>JW σ Q C m d a E t c x
def uw(C:ae)(f:Sp)(b:List V)(E:XK)(t:TA):TE:=λσ H Q=>t σ H λd c=>∀x a,c x=none->c a=none->a≠x->
 f (.ref x::(d++b)) (upd (upd c a (.own x)) x (.ins C a [])) (λv e=>v=.bB/\Q (.ref x) e) E
def Binds(K:ah)(d:aK)(b:List Str)(c:List Value):Prop:=
 ∀(s:aj) (a:List Value),K.In s.heap->(a++c).length=b.length->BindsTo s d %[a|[]] (b.zip (a++c))
def Binds.all(h:∀a:List Value,a.length=ν.length->bindArgs y %[a|[]]=pure (ν.zip a)):Binds K y ν []:=λs a c b=>by rw[g9]at b⊢;exact .of_eq (h a b)
def Passes(c:kj)(X:Cx)(E:XK):Prop:=∀(a:List (ae×Obj)) (σ:St) (H:Hp) (s:aj) (e:Value) (b:aj),Inv X a σ H s->c X.stack H s E e b->X.xe e b
def xK{Q:VK}{b:List Value}{vs:List V}(F:aJ X.prog X.w X.K X.mg X.base CX n f y ν sp)(d:cY n X.A)(g:Binds X.K y ν Φ)(hd:Vals ζ Φ)(i:Passes CX X E)
  (I:Inv X δ σ H s)(r:Vals vs b)(h:sp (vs++ζ) H Q E):wpAny (model X.prog X.w) X.A (call (.ref f) b) (EP X δ σ Q) X.xe s:=by?
 have c:=r.append hd;have j:(b++Φ).length=ν.length:=by rw[<-c.length];exact F.len _ _ _ _ h
 refine wpAny_call (rE (F.run X.A X.stack s H _ _ _ Q E d I.JV (g s b I.h_ j) c h) λr l a=>?_);cases r with
 |error e=>exact i δ σ H s e l I a
 |ok q=>
  cases q with
  |ret u=>exact I.after a
  |next=>exact iZ a
  |brk=>exact iZ a
  |cont=>exact iZ a
def SK(F:aJ X.prog X.w X.K X.mg X.base CX n f y ν sp)(g:cY n X.A)(i:Gl X x)(w:X.mg x=some (.ref f))(j:mT X.K (.ref f)=true)(l:Binds X.K y ν Φ)(hd:Vals ζ Φ)(u:Passes CX X E)
  (v:PA X (e::ξ) t)(b:(x==("__debug__":Str))=false:=by decide)(z:bP (e::ξ) X.env=(false,eval e X.env)::bP ξ X.env:=by rfl)(c:(backTo M (bP ξ X.env)).any (·.1)=false:=by rfl):
  PE X (.Call (.Name x p) (e::ξ) [] M) (oI sp ζ E t):=by?
 intro a s σ H Q I h;refine xm (xx I i w ?_ b);refine HG (h₀:=X.base) I.ok.mod.rJ j (aZ (v M a s σ H _ I h) λD G %[A,B,d,r|q]=>%[d.h_|?_]) z c;exact xK F g l hd u d r q
def SN{pl:Sem Bool}(R:PE X o ι)(c:gJ X.K a)(z:Meth X.K a m f)(F:aJ X.prog X.w X.K X.mg X.base CX n f y ν sp)(A:cY n X.A)(B:Binds X.K y ν Φ)(hd:Vals ζ Φ)(D:Passes CX X E)(G:PA X (e::ξ) t)
  (g:bP (e::ξ) X.env=(false,eval e X.env)::bP ξ X.env:=by rfl)(i:(backTo M (bP ξ X.env)).any (·.1)=false:=by rfl)
  (J:eval (.Call (.Attribute o m Β) (e::ξ) [] M) X.env=(do
   let j<-eval o X.env
   standAt Β.atName
   let(f,first)<-holding [j] (getMethod j m pl)
   callWith M f first (backTo M (bP (e::ξ) X.env)) (kY M (kZ [] X.env))):=by rfl):
  PE X (.Call (.Attribute o m Β) (e::ξ) [] M) (uv a m sp ζ E ι t):=by?
 intro d s σ H Q I h;refine ac8 (aZ (R d s σ H _ I h) λu S %[x,P,v,K|L]=>?_) J;obtain @⟨b,T,fs,ea,l,q⟩:=L;obtain rfl:u=iO b:=K;refine JR v ea c z l ?_;refine HG I.ok.mod.rJ z.kp (aZ (G M d S σ P _ v q) λV W %[N,U,w,r|O]=>%[w.h_|?_]) g i;exact xK (vs:=.ref b::N) F A B hd D w (.cons rfl r) O
def SO{pl:Sem Bool}(D:PE X o ι)(c:gJ X.K a)(j:Meth X.K a m f)(F:aJ X.prog X.w X.K X.mg X.base CX n f y ν sp)(r:cY n X.A)(v:Binds X.K y ν Φ)(hd:Vals ζ Φ)(w:Passes CX X E)
  (z:eval (.Call (.Attribute o m Β) [] [] M) X.env=(do
   let i<-eval o X.env
   standAt Β.atName
   let(f,first)<-holding [i] (getMethod i m pl)
   callWith M f first (backTo M (bP [] X.env)) (kY M (kZ [] X.env))):=by rfl):
  PE X (.Call (.Attribute o m Β) [] [] M) (uv a m sp ζ E ι fS):=by?
 intro d s σ H Q I h;refine ac8 (aZ (D d s σ H _ I h) λu K %[x,J,g,A|B]=>?_) z;obtain @⟨b,G,fs,ea,l,q⟩:=B;obtain rfl:u=iO b:=A;refine JR g ea c j l ?_;exact ac9 g.h_ j.kp (xK (vs:=[.ref b]) F r v hd w g (.cons rfl .nil) q)
structure Mk(K:ah)(C f:ae):Prop where
 makes:PX K C=true
 init:lU K (.ref C) "__init__"=some (some (.ref f))
 fn:Ag K (.ref f)=true
 kp:mT K (.ref C)=true
def JX{Q:VK}{g:List Value}(M:Mk X.K a f)(F:aJ X.prog X.w X.K X.mg X.base CX n f y ν sp)(l:cY (n+1) X.A)(q:Binds X.K y ν Φ)(hd:Vals ζ Φ)
  (w:Passes CX X E)(I:Inv X δ σ H s)(r:Vals Ζ g)
  (h:∀x c,H x=none->H c=none->c≠x->sp (.ref x::(Ζ++ζ)) (upd (upd H c (.own x)) x (.ins a c [])) (λv z=>v=.bB/\Q (.ref x) z) E):
  wpAny (model X.prog X.w) X.A (call (.ref a) g) (EP X δ σ Q) X.xe s:=by?
 have i:=h _ ↥s (I.aU.fresh (Nat.le_succ _)) (I.aU.fresh (bx _)) (dn (wu _));have d:=Inv.made (C:=a) I;have j:Vals (V.ref (↥s+1)::(Ζ++ζ)) _:=.cons rfl (r.append hd);have A:=by have e:=j.length;rw[F.len _ _ _ _ i]at e;exact e.symm
 refine wpAny_call (Su I.h_ M.makes M.init (beq_iff_eq.mp M.fn) (rE (F.run _ X.stack _ _ _ _ _ _ E (l.make a g [])
  (d.JV.make a g []) (q _ _ d.h_ A) j i) λr B b=>?_))
 cases r with
 |error e=>exact w δ σ _ _ e B d b
 |ok D=>
  cases D with
  |ret u=>
   obtain⟨v,G,J,K,N,L⟩:=d.after b;subst N;exact%[K|%[V.ref _,G,J,rfl|L]]
  |next=>exact iZ b
  |brk=>exact iZ b
  |cont=>exact iZ b
def SQ(b:Mk X.K a f)(F:aJ X.prog X.w X.K X.mg X.base CX n f y ν sp)(j:cY (n+1) X.A)(l:Gl X x)(z:X.mg x=some (.ref a))(u:Binds X.K y ν Φ)(hd:Vals ζ Φ)(v:Passes CX X E)
  (w:PA X (e::ξ) t)(d:(x==("__debug__":Str))=false:=by decide)(A:bP (e::ξ) X.env=(false,eval e X.env)::bP ξ X.env:=by rfl)(g:(backTo M (bP ξ X.env)).any (·.1)=false:=by rfl):
  PE X (.Call (.Name x p) (e::ξ) [] M) (uw a sp ζ E t):=by?
 intro c s σ H Q I h;refine xm (xx I l z ?_ d);refine HG (h₀:=X.base) I.ok.mod.rJ b.kp (aZ (w M c s σ H _ I h) λG J %[B,D,i,r|q]=>%[i.h_|?_]) A g;exact JX b F j u hd v i r q
def SR(b:Mk X.K a f)(F:aJ X.prog X.w X.K X.mg X.base CX n f y ν sp)(g:cY (n+1) X.A)(i:Gl X x)(q:X.mg x=some (.ref a))(j:Binds X.K y ν Φ)(hd:Vals ζ Φ)(l:Passes CX X E)
  (c:(x==("__debug__":Str))=false:=by decide):PE X (.Call (.Name x p) [] [] M) (uw a sp ζ E fS):=by
 intro d s σ H Q I h;refine xm (xx I i q ?_ c);exact ac9 I.h_ b.kp (JX b F g j hd l I .nil h)
def PK(X:Cx)(b:List Keyword)(t:TA):Prop:=
 ∀(pos:Pos) (a:List (ae×Obj)) (s:aj) (σ:St) (H:Hp) (Q:List V->Hp->Prop),Inv X a σ H s->t σ H Q->wpAny (model X.prog X.w) X.A (evalAll ((kY pos (kZ b X.env)).map (·.2))) (AP X a σ Q) X.xe s
def SS:PK X [] fS:=λa a a a H Q I h=>wpAny_evalAll_nil %[[],H,I,.nil|h]
def SU{kws:List Keyword}{nm:Option Str}(b:PE X e ι)(c:PK X kws t):PK X (%[nm,e|Β]::kws) (e9 ι t):=by? intro M a s σ H Q I h;refine wpAny_evalAll_cons (aA (aZ (b a s σ H _ I h) λu w %[x,r,d,g|i]=>aA (wpAny_standAt (bh ?_))));exact aZ (c M a w σ r _ d i) λy z %[v,j,l,n|q]=>%[x::v,j,l,.cons g n|q]
structure aV(N P:List Str)(a:Scope):Prop where
 kind:a.kind=.function
 co:a.isCoroutine=false
 gen:a.isGenerator=false
 nd:N.Nodup
 pre:N.take P.length=P
 par:∀x∈P,a.names.lookup x=some .local\/a.names.lookup x=some .cell
 SV:∀y∈a.names,y.2≠.free
theorem JY{a:Str->Option jv}:∀{binds:List (Str×Value)} {m:Str->Option Value},(∀v,(x,v)∉binds)->bindL a binds m x=m x
 |[],_,_=>rfl
 |(n,v)::r,m,h=>by
  unfold bindL;rw[JY λw b=>h w _];split
  all_goals grind
theorem JZ{a:Str->Option jv}:∀{binds:List (Str×Value)} {m:Str->Option Value},(∀v,(x,v)∉binds)->bindC a binds m x=m x
 |[],_,_=>rfl
 |(n,v)::r,m,h=>by
  unfold bindC;rw[JZ λw b=>h w _];split
  all_goals grind
theorem J0{a:Str->Option jv}:∀{P:List Str} {b:List Value} {i:Nat} {m:Str->Option Value},P.Nodup->P[i]?=some x->b[i]?=some η->a x=some .local->
  bindL a (P.zip b) m x=some η
 |[],_,_,_,_,h,_,_=>by simp at h
 |_::_,[],_,_,_,_,h,_=>by simp at h
 |p::P,w::b,0,m,nd,c,d,e=>by simp at c d;subst c;subst d;show bindL a ((p,w)::P.zip b) m p=_;unfold bindL;rw[JY λη f=>(lV.mp nd).1 (Ah f).1,aS e];simp
 |p::P,w::b,i+1,m,nd,c,d,e=>by unfold bindL;exact J0 (lV.mp nd).2 (by simpa using c) (by simpa using d) e
theorem J1{a:Str->Option jv}:∀{P:List Str} {b:List Value} {i:Nat} {m:Str->Option Value},P.Nodup->P[i]?=some x->b[i]?=some η->a x≠some .local->
  bindC a (P.zip b) m x=some η
 |[],_,_,_,_,h,_,_=>by simp at h
 |_::_,[],_,_,_,_,h,_=>by simp at h
 |p::P,w::b,0,m,nd,c,d,e=>by simp at c d;subst c;subst d;show bindC a ((p,w)::P.zip b) m p=_;unfold bindC;rw[JZ λη f=>(lV.mp nd).1 (Ah f).1,aE e];simp
 |p::P,w::b,i+1,m,nd,c,d,e=>by unfold bindC;exact J1 (lV.mp nd).2 (by simpa using c) (by simpa using d) e
def start(N:List Str)(a:List V):St:=a.map some++cS (N.length-a.length) none
def pV(g:kj)(P:aC)(w:World)(K:ah)(mg:Str->Option Value)(base:ax)(N:List Str)(b:Str)(a:Scope)(f:ae)(d:Value)(A:Around)(outer:List Env)(s:aj)(H:Hp)(E:XK):Cx where
 prog:=P
 w:=w
 K:=K
 mg:=mg
 base:=base
 A:=A.deeper (envOfC b a ↥s f d)
 N:=N
 gG:=s
 pM:=H
 env:=envOfC b a ↥s f d
 outer:=outer
 stack:=envOfC b a ↥s f d::outer
 ex:=[]
 calm:=true
 fn:=λj=>true
 pn:=[]
 xe:=λe h=>wpAny (model P w) (A.deeper (envOfC b a ↥s f d)) (leaving (envOfC b a ↥s f d) e) (λj c=>g outer H s E e c) (λi c=>g outer H s E i c) h
def J2(h:μ.names.lookup x=some .cell):∃c,(gR n μ.names []).lookup x=some c:=by have q:=ac_ μ.names n [] (.inl h);exact Option.isSome_iff_exists.mp q
def SW{B:kj}{l:List Str}{outer:List Env}{G:aj}{E:XK}
  (S:aV ν l μ)(hd:A.handled=none)(j:pU P w K r h A outer s H)(M:ζ.length=l.length)(a:Vals ζ Φ)
  (d:InCallC s ↥s (bindL (envOfC x μ ↥s f η).kindOf (l.zip Φ) λR=>none) (gR (↥s+1) μ.names []) (bindC (envOfC x μ ↥s f η).kindOf (l.zip Φ) λR=>none) G):
  Inv (pV B P w K r h ν x μ f η A outer s H E) [] (start ν ζ) H G:=by?
 have I:l.length<=ν.length:=by have:=congrArg eI S.pre;grind
 obtain⟨t,tk,rfl,C⟩:=d.done;have m:∀b:ae,b∉(pV B P w K r h ν x μ f η A outer s H E).ex:=λb z=>aT (show b∈([]:List ae)from z) (by simp)
 refine%[%[j.mod,S.kind,rfl,rfl,bx _,λy z c t D=>?_,λy n=>?_,λy c R g=>?_,λR=>hd,Around.frames_deeper j.frames,.inr %[rfl|rfl],λb z=>aT z (m b),j.bs,j.m7,λb R R=>m b,λb z=>aT z (m b),j.j9|j.pN],
  rfl,j.bare,Un.kept C,%[_,d.toInCall.ns|λi y v t D O=>?_],λy c g=>%[_|d.cell y c g],j.aU.fresh (bx _),λy c g=>?_,λp hp=>aT (show p∈([]:List (ae×Obj))from hp) (by simp),j.aU.kept C|?_]
 .exact name_of_addr d.apart (jJ t) (jJ D)
 .rcases n with n|n
  .exact J2 n
  .exact aT rfl (S.SV _ (jJ n))
 .exact gC (d.above y c (jJ g))
 .have Q:i<ζ.length:=by grind [start]
  have J:ζ[i]?=some v:=by grind [start]
  obtain⟨u,F,L⟩:=a.get J;have hp:l[i]?=some y:=by rw[<-S.pre,List.getElem?_take_of_lt (by omega)];exact t
  have o:l.Nodup:=by rw[<-S.pre];exact S.nd.sublist (List.take_sublist _ _)
  refine%[u,L|?_];rcases S.par y (bO hp)with k|k
  .exact .inl %[k|J0 o hp F k]
  .obtain⟨c,e⟩:=J2 k;refine .inr %[.inl k,c,e|?_];have q:=d.cell y c e;rw[J1 o hp F (by show μ.names.lookup y≠_;rw[k];decide)]at q;exact q
 .exact j.aU.fresh (gC (d.above y c (jJ g)))
 .unfold start;show _=ν.length
  grind
def SX{M:kj}{i:Arguments}{j:List Stmt}{kV L pm g ct oc:Value}{an od:Option ae}
  {T:Array (Option Value)}{O:List Str}{sp:Sp}(lk:K.lookup f=some %[oc,od,.func (j6 x m i j μ η kV L pm an g ct)|T])(U:wA K g m=true)(S:aV ν O μ)
  (len:∀p H Q E,sp p H Q E->p.length=O.length)
  (z:∀(A:Around) (outer:List Env) (s:aj) (H:Hp) (p:List V) (Q:VK) (E:XK),cY n (A.deeper (envOfC m μ ↥s f g))->sp p H Q E->
   ∃t,jx (pV M P w K r h ν m μ f g A outer s H E) j t/\t {nx:=λ_ l=>Q .bB l,rt:=Q} (start ν p) H):
  aJ P w K r h M (n+1) f (j6 x m i j μ η kV L pm an g ct) O sp:=by?
 refine%[len|λA outer s H aa us p Q E W D hb a F=>?_];have hl:=len _ _ _ _ F;have KX:=D.mod.rJ.keeps λb o e=>(D.bs b o e).1;have Z:=D.mod.nolimit.keeps λb o e=>(D.bs b o e).1;have B:∀y∈O.zip us,μ.names.lookup y.1=some .local\/(μ.names.lookup y.1=some .cell/\((gR (↥s+1) μ.names []).lookup y.1).isSome=true):=λ%[c|v] hy=>by
  rcases S.par c (Ah hy).1 with q|q
  all_goals grind [ac_]
 refine codeAny_call_function W.depth (KX _ _ lk) rfl S.co S.gen rfl (PySem.W.codeRec_of KX U) (hb _ _ _ _ ?_);refine wpAny_newFunctionEnv_cells S.kind B λenv he s1 d=>?_;subst he;refine%[Z.keeps d.toInCall.keep|codeAny_func ?_];obtain⟨t,ht,hq⟩:=z A outer s H p Q E (W.deeper _) F;have I:Inv (pV M P w K r h ν m μ f g A outer s H E) [] _ H s1:=SW S W.hd D hl a d;refine jM (ht [] s1 _ H _ I hq) (λfl X C=>?_) λe X C=>C;have G:∀{R:St} {l:Hp} {v:V} {u:Value},Inv (pV M P w K r h ν m μ f g A outer s H E) [] R l X->RelV v u->Q v l->CE outer P w H s Q u X:=
  λ{R l v u} J Y q=>%[v,l,J.os,J.bare,J.base,J.aU,Y|q]
 cases fl with
 |ret u=>
  obtain⟨v,R,l,J,Y,q⟩:=C;exact G J Y q
 |next=>
  obtain⟨R,l,J,q⟩:=C;exact G (v:=V.bB) J rfl q
 |brk=>
  obtain⟨_,_,_,q⟩:=C;exact iZ q
 |cont=>
  obtain⟨_,_,_,q⟩:=C;exact iZ q
end
def ux(r:List V->Hp->VK->Prop)(t:TA):TE:=λσ H Q=>t σ H λa b=>r a b Q
section
variable{M:Pos}{T id:String}{r:List V->Hp->VK->Prop}
def cg(d:iC X (.builtin id) r)(f:Gl X x)(q:X.mg x=none)(g:l_ x=some (.builtin id))(i:PA X (e::ξ) t)(j:x≠"__name__":=by decide)(b:(x==("__debug__":Str))=false:=by decide)
  (u:bP (e::ξ) X.env=(false,eval e X.env)::bP ξ X.env:=by rfl)(c:(backTo M (bP ξ X.env)).any (·.1)=false:=by rfl):PE X (.Call (.Name x p) (e::ξ) [] M) (ux r t):=by
 intro a s σ H Q I h;refine xm (m9 I f q g ?_ j b);exact PyProof.Rows.callWith_builtin1 (aZ (i M a s σ H _ I h) λv w %[k,o,l,m|n]=>d a w σ o k v Q l m n) u c
def nr(d:iC X (.type T) r)(f:Gl X x)(q:X.mg x=none)(g:l_ x=some (.type T))(i:PA X (e::ξ) t)(j:x≠"__name__":=by decide)(b:(x==("__debug__":Str))=false:=by decide)
  (u:bP (e::ξ) X.env=(false,eval e X.env)::bP ξ X.env:=by rfl)(c:(backTo M (bP ξ X.env)).any (·.1)=false:=by rfl):PE X (.Call (.Name x p) (e::ξ) [] M) (ux r t):=by
 intro a s σ H Q I h;refine xm (m9 I f q g ?_ j b);exact tR (aZ (i M a s σ H _ I h) λv w %[k,o,l,m|n]=>d a w σ o k v Q l m n) u c
end
end
end L2
namespace HT
open PySem PyProof.Rows
section
open PySem.SeqAt
open PySem.AutoSeq1 (wpAny_loadPart')
open PySem.MeetsSeq PySem.MeetsSeq2 PySem.MeetsSeq3
end
def jO(n d:Nat):Option Int->Nat
 |none=>d
 |some v=>if v<0 then(v+(n:Int)).toNat else min v.toNat n
def Bg(n d:Nat):jO n d none=d:=rfl
def xM(n d k:Nat):jO n d (some (k:Int))=min k n:=by rfl
end HT
namespace L2
open PySem PySem.Spec PyProof.Rows
abbrev TO:=St->Hp->(Option Int->Hp->Prop)->Prop
def PO(X:Cx)(e:Option Expr)(t:TO):Prop:=
 ∀(a:List (ae×Obj)) (s:aj) (σ:St) (H:Hp) (Q:Option Int->Hp->Prop),Inv X a σ H s->t σ H Q->
  wpAny (model X.prog X.w) X.A (evalPart e X.env) (λu c=>X2 λo b=>A3 (Inv X a σ b c) (IsPart u o) (Q o b)) X.xe s
def Bh:TO:=λa H Q=>Q none H
inductive J3(Q:Option Int->Hp->Prop)(a:Hp):V->Prop
 |mk{i:_}(b:Q (some i) a):J3 Q a (.int i)
def uz(t:TE):TO:=λσ H Q=>t σ H λx a=>J3 Q a x
section
variable{A:Around}{E Q:Value->aj->Prop}{H:Hp}{M p:Pos}{N:Type}{O:V}{P:aC}{U:List Int}{X:Cx}{b e o:Expr}{f l:ae}{j n:Nat}{pins δ:List (ae×Obj)}{s:aj}{w:World}{x:Str}{Ε:TT}{Ι:Env}{Φ:List Value}{ζ:List V}{η:Value}{ι:TE}{μ:Scope}{ξ:List Expr}{σ:St}
def uA:PO X none Bh:=by intro a s σ H Q I h;exact bh %[none,H,I,.none|h]
def lu(h:PE X e ι):PO X (some e) (uz ι):=by
 intro a s σ H Q I g;refine aZ (h a s σ H _ I g) λu j %[x,f,b,c|d]=>?_
 obtain @⟨i,q⟩:=d;obtain⟨t,rfl⟩:=c;exact%[some i,f,b,.int i t|q]
def J4(X:Cx)(r:V->Option Int->Option Int->Hp->VK->Prop):Prop:=
 ∀(a:List (ae×Obj)) (s:aj) (σ:St) (H:Hp) (x:V) (v b c:Value) (lo hi:Option Int) (sl:ae) (Q:VK),Inv X a σ H s->RelV x v->s.heap.IsSliceOf sl b c .none->IsPart b lo->IsPart c hi->r x lo hi H Q->
  X2 λT d=>A3 (typeLookup (.type T) "__getitem__"=pure (some (.builtin d))) (s.TypeIs v T) (wpAny (model X.prog X.w) X.A (getItem v (.ref sl)) (EP X a σ Q) X.xe s)
def xN(r:V->Option Int->Option Int->Hp->VK->Prop)(te:TE)(tl th:TO):TE:=λσ H Q=>te σ H λx c=>tl σ c λl a=>th σ a λu b=>r x l u b Q
def oJ{lo hi:Option Expr}{tl th:TO}{r:V->Option Int->Option Int->Hp->VK->Prop}(i:J4 X r)(J:PE X e ι)(j:PO X lo tl)(k:PO X hi th):PE X (.Subscript e (.Slice lo hi none M) p) (xN r ι tl th):=by?
 intro a s σ H Q I h;refine Subscript_ (aZ (J a s σ H _ I h) λv L %[x,F,m,n|o]=>?_);refine wpAny_Slice (aZ (j a L σ F _ m o) λd K %[l,t,w,pl|y]=>aZ (k a K σ t _ w y) λf c %[u,g,z,G|A]=>?_);refine bh ?_;have B:Inv X a σ g {c with heap:=c.heap.push {cls:=.type "slice",data:=.fields #[d,f,.none]}}:=z.kept λb ob q=>bL _ q
 obtain⟨T,N,C,D,E⟩:=i a _ σ g x v d f l u ↥c Q B n (Heap.IsSliceOf.new ..) pl G A;exact tail_any D C E (by with_unfolding_all rfl)
def jP(a:List V)(lo hi:Option Int):List V:=(a.drop (HT.jO a.length 0 lo)).take (HT.jO a.length a.length hi-HT.jO a.length 0 lo)
def SY(a:List V)(lo hi:Option Int):(jP a lo hi).length<=a.length:=by unfold jP;rw[jK,q0];omega
def jQ(n:Nat)(i:Int):Option Nat:=if 0<=i then(if i<n then some i.toNat else none)else if -(n:Int)<=i then some (i+n).toNat else none
def lx{α:Type}(a:List α)(i:Int):Option α:=(jQ a.length i).bind λj=>a[j]?
def J5{S:Int}(h:jQ n S=some j):seqIndex? S n=some j/\j<n/\ -(n:Int)<=S/\S<n:=by?
 unfold jQ at h;by_cases b:0<=S
 .rw[aS b]at h;by_cases a:S<n
  .rw[aS a]at h;have e:S.toNat=j:=cE h;exact%[by rw[seqIndex_of b a,e],by omega,by omega|a]
  .rw[aE a]at h;cases h
 .rw[aE b]at h;by_cases a: -(n:Int)<=S
  .rw[aS a]at h;have e:(S+n).toNat=j:=cE h;exact%[by rw[seqIndex_neg (by omega) a,e],by omega,a|by omega]
  .rw[aE a]at h;cases h
def Bi{S:Int}{a:List N}{v:N}(h:lx a S=some v):X1 λj=>A5 (seqIndex? S a.length=some j) (a[j]?=some v) (j<a.length) (-(a.length:Int)<=S) (S<a.length):=by
 unfold lx at h;cases e:jQ a.length S with
 |none=>rw[e]at h;cases h
 |some j=>
  rw[e]at h;obtain⟨b,c,d,f⟩:=J5 e;exact%[j,b,h,c,d|f]
theorem bg{a:List N}{v:N}(h:a[j]?=some v):lx a (j:Int)=some v:=by?
 have b:j<a.length:=(fP.mp h).1;have e:jQ a.length (j:Int)=some j:=by unfold jQ;rw[aS (by omega),aS (by omega)];simp
 unfold lx;rw[e];exact h
def xO(a:List N)(v:N):lx (a++[v]) (-1)=some v:=by
 have e:jQ (a++[v]).length (-1)=some a.length:=by grind [jQ]
 grind [lx]
def S0(b:Expr):Prop:=∀o i,subscripted b false o i=operate [o,i] (getItem o i)
def xP(X:Cx)(r:R2):Prop:=
 ∀(c a:Expr) (b:List (ae×Obj)) (s:aj) (σ:St) (H:Hp) (x y:V) (v u:Value) (Q:VK),Inv X b σ H s->RelV x v->RelV y u->r x y H Q->
  subscripted a false v u=operate [v,u] (getItem v u)->wpAny (model X.prog X.w) X.A (subscriptTail c a v u) (EP X b σ Q) X.xe s
def rR(X:Cx)(d:String)(r:V->List V->Hp->VK->Prop):Prop:=
 ∀(a:List (ae×Obj)) (s:aj) (σ:St) (H:Hp) (x:V) (c:List V) (v:Value) (b:List Value) (Q:VK),Inv X a σ H s->RelV x v->Vals c b->r x c H Q->
  wpAny (model X.prog X.w) X.A (call (.builtin d) (v::b)) (EP X a σ Q) X.xe s
def aQ{Ο:TE}{r:R2}(d:xP X r)(f:PE X e ι)(g:PE X b Ο)(i:S0 b):PE X (.Subscript e b p) (e6 r ι Ο):=by intro c s σ H Q I h;exact Subscript_ (Bb f g I h λv u n x y j k l m q=>d e b c n σ j x y v u Q k l m q (i _ _))
inductive J6(K:ah)(H:Hp)(Q:VK):V->V->Prop
 |mk{p:_}{c:_}{i:_}{v:_}(a:af K H p c)(a:lx c i=some v)(a:Q v H):J6 K H Q (.ref p) (.int i)
def pW(K:ah):V->V->Hp->VK->Prop:=λx y H Q=>J6 K H Q x y
inductive J7(K:ah)(H:Hp)(Q:VK):V->V->Prop
 |mk{p:_}{c:_}{i:_}{v:_}(a:bN K H p c)(a:lx c i=some v)(a:Q v H):J7 K H Q (.ref p) (.int i)
def Bj(K:ah):V->V->Hp->VK->Prop:=λx y H Q=>J7 K H Q x y
inductive S_(x y:V)(H:Hp)(Q:VK):Prop
 |mk z i c(a:x=.str z)(a:y=.int i)(a:z.length<=bf)(a:lx z.cps.toList i=some c)(a:Q (.str ⟨#[c]⟩) H)
def bA:xP X (pW X.K):=by?
 intro value slice pins s σ H x y v u Q I rx ry h hs;obtain @⟨p,xs,i,z,hq,he,q⟩:=h;cases rx;obtain⟨t,rfl⟩:=ry;obtain⟨its,r,pl,hz⟩:=I.list hq;obtain⟨j,h1,h2,h3,h4,h5⟩:=Bi he;obtain⟨w,ew,rw'⟩:=r.get h2;have hl:=r.length;have hn:=pS;have fin:EP X pins σ Q w s:=⟨z,H,I,rw',q⟩;by_cases h0:0<=i
 .have hj:i.toNat=j:=by grind [seqIndex_of]
  exact item_listR pl.isList h0 (by omega) (by rw[hj];simpa using ew) fin hs
 .have hj:(i+(its.toArray.size:Int)).toNat=j:=by grind [seqIndex_neg]
  exact subscriptTail_builtinR pl.isList.typeIs slot_list_getitem.lookup
   (wpAny_getItem_list_neg pl.isList (by omega) (by grind) (by omega) (by rw[hj];simpa using ew) ⟨rfl,fin⟩) hs
def cO:xP X (Bj X.K):=by?
 intro value slice pins s σ H x y v u Q I rx ry h hs;obtain @⟨p,xs,i,z,hq,he,q⟩:=h;cases rx;obtain⟨t,rfl⟩:=ry;obtain⟨its,r,pl,hz⟩:=I.tuple hq;obtain⟨j,h1,h2,h3,h4,h5⟩:=Bi he;obtain⟨w,ew,rw'⟩:=r.get h2;have hl:=r.length;have hn:=pS;have fin:EP X pins σ Q w s:=⟨z,H,I,rw',q⟩;exact subscriptTail_builtinR pl.typeIs slot_tuple_getitem.lookup
  (getItem_tuple (j:=j) pl (by omega) (by omega) (by grind) (by simpa using ew) ⟨rfl,fin⟩) hs
def J8:xP X S_:=by?
 intro value slice pins s σ H x y v u Q I rx ry h hs;obtain⟨z,i,c,rfl,rfl,hz,he,q⟩:=h;obtain⟨t,rfl⟩:=rx;obtain⟨t',rfl⟩:=ry;obtain⟨j,h1,h2,h3,h4,h5⟩:=Bi he;have hl:z.cps.toList.length=z.length:=by simp[Str.length]
 rw[hl]at h1 h4 h5;have hn:=pS;exact tail_any (typeIs_str s z t) slot_str_getitem.lookup (getItem_str (by grind) (by rw[h1];simpa using h2) ⟨.str _,H,I.tok _,⟨_,rfl⟩,q⟩) hs
def S'(c:List Value)(n j:Nat)(u:Value):q_ (·.setIfInBounds j u) {cls:=.type "list",data:=.seq c.toArray n}={cls:=.type "list",data:=.seq (c.set j u).toArray n}:=by simp[q_]
theorem Inv.lst(I:Inv X δ σ H s)(h:H f=some (.lst ζ)):
  X2 λ(c:List Value) (n:Nat)=>A3 (Vals ζ c) (s.heap.get? f=some {cls:=.type "list",data:=.seq c.toArray n}) (ζ.length<=bf):=by
 obtain⟨z,c,n,r,e⟩:=I.aU f _ h;exact%[c,n,r,e|z]
def Inv.Ta{Ζ:List V}{d:List Value}{c:Obj->Obj}(I:Inv X δ σ H s)(h:H f=some (.lst ζ))
  (i:s.heap.get? f=some {cls:=.type "list",data:=.seq Φ.toArray n})(g:c {cls:=.type "list",data:=.seq Φ.toArray n}={cls:=.type "list",data:=.seq d.toArray j})(r:Vals Ζ d)(k:Ζ.length<=bf)(t:Nat):
  Inv X δ σ (upd H f (.lst Ζ)) {s with heap:=s.heap.update f c,toks:=t}:=by?
 have e:(s.heap.update f c).get? f=some {cls:=.type "list",data:=.seq d.toArray j}:=by rw[tT c i (by rw[g]<;>rfl),g]
 refine I.write (by rw[h];trivial) (.inl rfl) (λb u l q=>(HH _ _ (kP l)).trans q) %[_|e] ?_;exact%[k,d,j,r|e]
inductive J9(v:V)(H:Hp)(Q:Hp->Prop):V->V->Prop
 |mk{p:_}{c:_}{k:_}{j:_}(a:H p=some (.lst c))(a:jQ c.length k=some j)(a:Q (upd H p (.lst (c.set j v)))):J9 v H Q (.ref p) (.int k)
def Tb:V->V->V->Hp->(Hp->Prop)->Prop:=λo i v H Q=>J9 v H Q o i
def set_list:Jq X Tb:=by?
 intro pins s σ H o i v ov iv u Q I ro ri rv h;obtain @⟨p,xs,k,j,hp,hj,q⟩:=h;cases ro;obtain⟨t,rfl⟩:=ri;obtain⟨its,n,r,ho,hz⟩:=I.lst hp;obtain⟨h1,h2,h3,h4⟩:=J5 hj;have hl:=r.length;have hn:=pS;have I':Inv X pins σ (upd H p (.lst (xs.set j v))) {s with heap:=s.heap.update p (q_ (·.setIfInBounds j u))}:=
  I.Ta hp ho (S' its n j u) (r.set rv j) (by rw[wB];exact hz) s.toks
 by_cases h0:0<=k
 .have hk:k.toNat=j:=by rw[seqIndex_of h0 h4]at h1;exact cE h1
  exact PySem.W.ki_setAt ho h0 (by omega) (by rw[rb,<-hl];exact h4) (by rw[hk];exact⟨_,I',q⟩)
 .have hk:(k+(its.toArray.size:Int)).toNat=j:=by rw[seqIndex_neg (by omega) h3]at h1;rw[rb,<-hl];exact cE h1
  exact PySem.W.ki_setBack ho (by omega) (by rw[rb,<-hl];exact h3) (by omega) (by rw[hk];exact⟨_,I',q⟩)
def Tc(d c:Option Int)(n:Nat):(sliceBounds d c none n).1=((HT.jO n 0 d:Nat):Int)/\(sliceBounds d c none n).2.1=((HT.jO n n c:Nat):Int)/\(sliceBounds d c none n).2.2=1:=by?
 have k:∀i:Int,max 0 (min (if i<0 then i+n else i) (n:Int))=((if i<0 then(i+(n:Int)).toNat else min i.toNat n:Nat):Int):=λi=>by split<;>omega
 refine%[?_,?_|rfl]
 .cases d with
  |none=>rfl
  |some i=>exact k i
 .cases c with
  |none=>rfl
  |some i=>exact k i
def Td(c:List Value)(d e:Option Int):slicePick c.toArray d e none=((c.drop (HT.jO c.length 0 d)).take (HT.jO c.length c.length e-HT.jO c.length 0 d)).toArray:=by obtain⟨f,g,h⟩:=Tc d e c.toArray.size;unfold slicePick;rw[f,g,h];simp only[sliceRange_one,pick_run]<;>rfl
inductive J_(K:ah)(d c:Option Int)(H:Hp)(Q:VK):V->Prop
 |mk{e:_}{f:_}(a:af K H e f)(a:∀p,H p=none->Q (.ref p) (upd H p (.lst (jP f d c)))):J_ K d c H Q (.ref e)
def xQ(K:ah):V->Option Int->Option Int->Hp->VK->Prop:=λx d c H Q=>J_ K d c H Q x
def oK:J4 X (xQ X.K):=by? intro f s σ H x v p t o g sl Q I i j pl n h;obtain @⟨e,xs,k,q⟩:=h;cases i;obtain⟨l,r,d,m⟩:=I.list k;have c:=r.length;refine%["list",_,slot_list_getitem.lookup,d.isList.typeIs|?_];refine wpAny_getItem_list_slice d.isList j pl n .none (by simp) ?_ (by grind);rw[Td,<-c];refine%[.ref ↥s,_,I.laid (λb ob q=>bL _ q) (bx _) ?_,rfl|q _ (I.aU.fresh (bx _))];exact%[bq (SY xs o g) m,_,0,(r.drop _).take _|cV _ rfl]
def km:V->Bool
 |.bB=>true
 |.bl _=>true
 |.int _=>true
 |.str _=>true
 |_=>false
def lA:V->V->Bool
 |.bB,.bB=>true
 |.bl e,.bl b=>e==b
 |.bl e,.int b=>(if e then 1 else 0)==b
 |.int e,.bl b=>e==(if b then 1 else 0)
 |.int e,.int b=>e==b
 |.str e,.str b=>e==b
 |_,_=>false
def Te{x:V}{v:Value}(f:RelV O η)(c:RelV x v)(h:km O=true)(g:km x=true):SeqAt.EqAt A s η v (lA O x):=by?
 cases O with
 |bB=>
  cases f;cases x with
  |bB=>cases c;exact SeqAt.EqAt.same _
  |bl b=>cases c;exact SeqAt.EqAt.none_bool b
  |int b=>obtain⟨t,rfl⟩:=c;exact SeqAt.EqAt.none_int b t
  |str b=>obtain⟨t,rfl⟩:=c;exact SeqAt.EqAt.none_str b t
  |_=>exact aT (g) dJ
 |bl e=>
  cases f;cases x with
  |bB=>cases c;exact SeqAt.EqAt.bool_none e
  |bl b=>cases c;exact SeqAt.EqAt.bool_bool e b
  |int b=>obtain⟨t,rfl⟩:=c;exact SeqAt.EqAt.bool_int e b t
  |str b=>obtain⟨t,rfl⟩:=c;exact SeqAt.EqAt.bool_str e b t
  |_=>exact aT (g) dJ
 |int e=>
  obtain⟨d,rfl⟩:=f;cases x with
  |bB=>cases c;exact SeqAt.EqAt.int_none e d
  |bl b=>cases c;exact SeqAt.EqAt.int_bool e d b
  |int b=>obtain⟨t,rfl⟩:=c;exact SeqAt.EqAt.int_int e d b t
  |str b=>obtain⟨t,rfl⟩:=c;exact SeqAt.EqAt.int_str e d b t
  |_=>exact aT (g) dJ
 |str e=>
  obtain⟨d,rfl⟩:=f;cases x with
  |bB=>cases c;exact SeqAt.EqAt.str_none e d
  |bl b=>cases c;exact SeqAt.EqAt.str_bool e d b
  |int b=>obtain⟨t,rfl⟩:=c;exact SeqAt.EqAt.str_int e d b t
  |str b=>obtain⟨t,rfl⟩:=c;exact SeqAt.EqAt.str_str e d b t
  |_=>exact aT (g) dJ
 |_=>exact aT (h) dJ
def uC(x:V)(u:Value):Bool:=match u with
 |.none=>lA .bB x
 |.bool b=>lA (.bl b) x
 |.int i _=>lA (.int i) x
 |.str z _=>lA (.str z) x
 |_=>false
theorem xR{y:V}(r:RelV y η)(f:km y=true):uC O η=lA y O:=by
 cases y with
 |bB=>cases r;rfl
 |bl b=>cases r;rfl
 |int i=>obtain⟨t,rfl⟩:=r;rfl
 |str z=>obtain⟨t,rfl⟩:=r;rfl
 |_=>exact aT (f) dJ
def J':∀{c:List V} {d:List Value},Vals c d->c.all km=true->d.any (uC O)=c.any λy=>lA y O:=by
 intro a a h;induction h with
 |nil=>exactλa=>rfl
 |cons r _ t=>
  intro f;rw[o7,o8]at f;rw[o9,o9,xR r f.1,t f.2]
theorem xS(g:RelV O η)(h:km O=true):∀{e:List V} {d:List Value},Vals e d->e.all km=true->∀u∈d,SeqAt.EqAt A s u η (uC O u)
 |_,_,.nil,_=>λu c=>by cases c
 |y::e,u::d,.cons r t,f=>λi c=>by
  rw[o7,o8]at f;rcases cU.mp c with rfl|c
  .rw[xR r f.1];exact Te r g f.1 h
  .exact xS g h t f.2 i c
def rS(x:V)(c:List V):Bool:=c.any λy=>lA y x
inductive Bk(K:ah)(neg:Bool)(x y:V)(H:Hp)(Q:VK):Prop
 |mk p xs(a:y=.ref p)(a:af K H p xs\/bN K H p xs)(a:km x=true)(a:xs.all km=true)(a:Q (.bl (if neg then !rS x xs else rS x xs)) H)
def pX:dE X (gE .In) (Bk X.K false):=by?
 intro i s σ H x y v u Q I f j h;obtain⟨p,l,rfl,d,g,fs,q⟩:=h;cases j;rcases d with d|d
 .obtain⟨c,r,pl,k⟩:=I.list d;refine SeqAt.in_listAt _ pl.isList (λw e=>xS f g r fs w (by simpa using e)) %[.bl _,H,I,rfl|?_];rw[show c.toArray.any _=c.any (uC x)by simp,J' r fs];exact q
 .obtain⟨c,r,pl,k⟩:=I.tuple d;refine SeqAt.in_tupleAt _ pl (λw e=>xS f g r fs w (by simpa using e)) %[.bl _,H,I,rfl|?_];rw[show c.toArray.any _=c.any (uC x)by simp,J' r fs];exact q
def dG:iC X (.builtin "len") (λxs H Q=>X2 λp ys=>A3 (xs=[.ref p]) (af X.K H p ys\/bN X.K H p ys) (Q (.int ys.length) H)):=by?
 intro pins s σ H xs us Q I r h;obtain⟨p,ys,rfl,hq,q⟩:=h;obtain⟨u,rfl,rx⟩:=vals1 r;cases rx;have hn:=pS;rcases hq with hq|hq
 .obtain⟨its,r',pl,hz⟩:=I.list hq;have hlen:=r'.length;exact Calls.call_len_list pl.isList (by grind) ⟨.int ys.length,H,I.tok _,⟨s.toks+1,by grind⟩,q⟩
 .obtain⟨its,r',pl,hz⟩:=I.tuple hq;have hlen:=r'.length;exact len_tuple pl (by grind) ⟨.int ys.length,H,I.tok _,⟨s.toks+1,by grind⟩,q⟩
def Ka:iC X (.builtin "len") (λxs H Q=>X1 λz=>A3 (xs=[.str z]) (z.length<=bf) (Q (.int z.length) H)):=by intro pins s σ H xs us Q I r h;obtain⟨z,rfl,hz,q⟩:=h;obtain⟨u,rfl,t,rfl⟩:=vals1 r;have hn:=pS;exact len_str (by omega) ⟨.int z.length,H,I.tok _,⟨_,rfl⟩,q⟩
def uD:iC X (.type "list") (λz H Q=>X2 λp f=>A3 (z=[.ref p]) (af X.K H p f\/bN X.K H p f) (∀l,H l=none->Q (.ref l) (upd H l (.lst f)))):=by?
 intro t s σ H z B Q I r h;obtain⟨p,f,rfl,j,q⟩:=h;obtain⟨u,rfl,A⟩:=vals1 r;cases A;have m:∀(c:List Value),Vals f c->f.length<=bf->∀(d:ax) (g:Nat),(∀b y,s.heap.get? b=some y->d.get? b=some y)->
   d.get? ↥s=some {cls:=.type "list",dict:=none,data:=.seq c.toArray g,slots:=#[]}->EP X t σ Q (.ref ↥s) {s with heap:=d}:=λc i k d g kp e=>
  %[.ref ↥s,_,I.laid (t':=s.toks) kp (bx _) (show eB X.prog X.w _ d _ (.lst f)from%[k,c,g,i|e]),rfl|q _ (I.aU.fresh (bx _))]
 rcases j with j|j
 .obtain⟨c,i,pl,k⟩:=I.list j;have v:=i.length;obtain⟨o,w,x,n,hd⟩:=pl.isList;exact call_list_seq p (.inl rfl) w x hd (λd g kp e=>m c i k d g kp e) (by simp only[rb]<;>omega)
 .obtain⟨c,i,pl,k⟩:=I.tuple j;have v:=i.length;obtain⟨o,w,x,n,hd⟩:=pl;exact call_list_seq p (.inr rfl) w x hd (λd g kp e=>m c i k d g kp e) (by simp only[rb]<;>omega)
def Tf:iC X (.type "tuple") (λm H Q=>X2 λp c=>A2 (m=[.ref p]) ((af X.K H p c/\∀l,H l=none->Q (.ref l) (upd H l (.tup c)))\/(bN X.K H p c/\Q (.ref p) H))):=by?
 intro k s σ H m x Q I r h;obtain⟨p,c,rfl,h⟩:=h;obtain⟨u,rfl,t⟩:=vals1 r;cases t;rcases h with⟨f,q⟩|⟨f,q⟩
 .obtain⟨d,g,pl,i⟩:=I.list f;have n:=g.length;refine call_tuple_list pl.isList (λv kp=>?_) (by grind);have j:=I.kept (t':=s.toks) kp;have w:=
   j.laid (t':=s.toks) (λb o e=>bL _ e) (bx _) (show eB X.prog X.w _ _ _ (.tup c)from%[i,d,g|IsTup.new _ _])
  exact%[.ref v.objs.size,_,w,rfl|q _ (j.aU.fresh (bx _))]
 .obtain⟨d,g,pl,i⟩:=I.tuple f;exact call_tuple_same pl %[.ref p,H,I,rfl|q]
def Bl(K:ah)(T:String)(x:V)(H:Hp):Prop:=match x with
 |.str _=>T="str"
 |.int _=>T="int"
 |.ref p=>(T="list"/\∃xs,af K H p xs)\/(T="tuple"/\X1 λo=>A3 (K.lookup p=some o) (o.cls=.type "tuple") (o.dict=none))\/
   (T="dict"/\((∃c,H p=some (.dK c))\/∃c,H p=some (.dT c)))\/(T="set"/\X2 λS n=>H p=some (.set S n))
 |_=>False
def Kb{T:String}(I:Inv X δ σ H s)(r:RelV O η)(ty:Bl X.K T O H):
  s.TypeIs η T/\∀e,η=.ref e->∃ob,s.heap.get? e=some ob/\ob.dict=none:=by?
 cases O with
 |str z=>
  obtain⟨t,rfl⟩:=r;cases(ty)
  grind [typeIs_str]
 |int i=>
  obtain⟨t,rfl⟩:=r;cases(ty)
  grind [typeIs_int]
 |ref p=>
  cases r;rcases ty with⟨rfl,xs,j⟩|⟨rfl,o,f,k,hd⟩|⟨rfl,f⟩|⟨rfl,S,n,f⟩
  .obtain⟨l,a,pl,a⟩:=I.list j;refine%[pl.isList.typeIs|λe d=>?_];cases d;obtain⟨o,n,d,c,hd,a⟩:=pl;exact%[o,d|hd]
  .refine%[%[o,I.h_ p o f|k]|λe d=>?_];cases d;exact%[o,I.h_ _ o f|hd]
  .have z:∃o,s.heap.get? p=some o/\o.ExactDict:=by
    rcases f with⟨g,f⟩|⟨g,f⟩
    .obtain⟨a,a,a,a,o,a,a,d,ex,a⟩:=I.aU p _ f;exact%[o,d|ex]
    .obtain⟨a,a,a,a,o,a,a,d,ex,a⟩:=I.aU p _ f;exact%[o,d|ex]
   obtain⟨o,d,ex⟩:=z;refine%[%[o,d|ex.1]|λe h=>?_];cases h;exact%[o,d|ex.2.1]
  .obtain⟨o,a,a,a,d,ex,a⟩:=I.aU p _ f;refine%[%[o,d|ex.1]|λe h=>?_];cases h;exact%[o,d|ex.2.1]
 |_=>exact iZ ty
inductive Tg(Q:VK)(K:ah)(T:String)(r:V->List V->Hp->VK->Prop)(x:V)(c:Hp):Prop
 |mk(a:Bl K T x c)(a:r x [] c Q)
def Th(K:ah)(T:String)(r:V->List V->Hp->VK->Prop)(to:TE):TE:=λσ H Q=>to σ H λx c=>Tg Q K T r x c
inductive Ti(σ:St)(Q:VK)(K:ah)(T:String)(r:V->List V->Hp->VK->Prop)(t:TA)(x:V)(c:Hp):Prop
 |mk(a:Bl K T x c)(a:t σ c λe d=>r x e d Q)
def Kc(K:ah)(T:String)(r:V->List V->Hp->VK->Prop)(to:TE)(t:TA):TE:=λσ H Q=>to σ H λx c=>Ti σ Q K T r t x c
def Tj{X:Cx}{o:Expr}{to:TE}{name:Str}{apos cpos:Pos}{T id:String}{r:V->List V->Hp->VK->Prop}(pa:PlainAttrs T)(slot:Slot T name id)(f:typeOf (.builtin id)=pure (.type "method_descriptor"))(p:rR X id r)(j:PE X o to)
  (c:oA o name X.env (eval o X.env)=eval o X.env:=by rfl)(d:(apos.endLine==cpos.line)=true:=by rfl):PE X (.Call (.Attribute o name apos) [] [] cpos) (Th X.K T r to):=by?
 intro pins s σ H Q I h;refine wpAny_Call_method0_late c d (aZ (j pins s σ H _ I h) λv q %[x,n,g,i,ty|k]=>?_);obtain⟨l,m⟩:=Kb g i ty;exact%[T,id,pa,slot,f,l,m|HI rfl (ac' (p pins q σ n x [] v [] Q g i .nil k))]
def Bm{X:Cx}{o e:Expr}{es:List Expr}{to:TE}{t:TA}{name:Str}{apos cpos:Pos}{T id:String}{r:V->List V->Hp->VK->Prop}(pa:PlainAttrs T)(slot:Slot T name id)(i:typeOf (.builtin id)=pure (.type "method_descriptor"))(D:rR X id r)(m:PE X o to)(n:PA X (e::es) t)
  (d:oA o name X.env (eval o X.env)=eval o X.env:=by rfl)
  (g:((backTo cpos (bP (e::es) X.env)).all (λx=>!x.1)&&(kY cpos (kZ [] X.env)).all (λx=>x.1.isSome)
   &&decide ((e::es).length+([]:List Keyword).length+(if([]:List Keyword).isEmpty then 0 else 1)<30))=true:=by rfl)
  (f:(apos.endLine==cpos.line)=true:=by rfl)(p:bP (e::es) X.env=(false,eval e X.env)::bP es X.env:=by rfl)(c:(backTo cpos (bP es X.env)).any (·.1)=false:=by rfl):
  PE X (.Call (.Attribute o name apos) (e::es) [] cpos) (Kc X.K T r to t):=by?
 intro pins s σ H Q I h;refine wpAny_Call_method_late d g f rfl (aZ (m pins s σ H _ I h) λv G %[x,C,j,k,ty|q]=>?_);obtain⟨u,w⟩:=Kb j k ty;refine%[T,id,pa,slot,i,u,w|?_];have l:=n cpos pins G σ C _ j q;rw[p]at l⊢;refine HI (by show(false||(backTo cpos (bP es X.env)).any (·.1))=false;rw[c]<;>rfl) (PZ ?_);exact aZ l λE F %[vs,y,z,A|B]=>D pins F σ y x vs v E Q z k A B
def Bn(X:Cx)(d:String)(r:V->List V->Hp->VK->Prop):Prop:=
 ∀(a:List (ae×Obj)) (s:aj) (σ:St) (H:Hp) (x:V) (c:List V) (v:Value) (b:List Value) (Q:VK),Inv X a σ H s->RelV x v->Vals c b->r x c H Q->
  wpAny (model X.prog X.w) X.A (call (.builtin d) (v::b)) (EP X a σ Q) X.xe s
def Vals.one:∀{x:V} {a:List Value},Vals [x] a->∃u,a=[u]/\RelV x u:=by rintro _ _ (_|⟨r,⟨⟩⟩);exact%[_,rfl|r]
def Vals.two:∀{x y:V} {a:List Value},Vals [x,y] a->X2 λu v=>A3 (a=[u,v]) (RelV x u) (RelV y v):=by rintro _ _ _ (_|⟨r,_|⟨q,⟨⟩⟩⟩);exact%[_,_,rfl,r|q]
def Vals.zero:∀{a:List Value},Vals [] a->a=[]
 |_,.nil=>rfl
theorem Vals.dropLast(h:Vals ζ Φ):Vals ζ.dropLast Φ.dropLast:=by
 induction h with
 |nil=>exact .nil
 |cons r t a=>
  cases t with
  |nil=>exact .nil
  |cons q b=>exact .cons r a
theorem Vals.rep(h:Vals ζ Φ):∀k:Nat,Vals (cS k ζ).flatten (cS k Φ).flatten
 |0=>.nil
 |k+1=>by exact Vals.append h (Vals.rep h k)
theorem foldl_rep(a:List Value):∀(k:Nat) (b:List Value),
  HJ (λc d=>c++d) b.toArray (cS k a.toArray)=(b++(cS k a).flatten).toArray
 |0,b=>by simp
 |k+1,b=>by
  have e:b.toArray++a.toArray=(b++a).toArray:=by simp
  have f:(b++a)++(cS k a).flatten=b++(cS (k+1) a).flatten:=by grind
  rw[<-f,<-foldl_rep a k _,<-e,P8,fI]
def Inv.Bo{Ζ:List V}{a:List Value}{f:Array Value->Array Value}(I:Inv X δ σ H s)(c:H l=some (.lst ζ))
  (e:s.heap.get? l=some {cls:=.type "list",data:=.seq Φ.toArray n})(k:f Φ.toArray=a.toArray)(d:Vals Ζ a)(g:Ζ.length<=bf):
  Inv X δ σ (upd H l (.lst Ζ)) {s with heap:=s.heap.update l (q_ f),toks:=j}:=by?
 have q:=PySem.IsL.update e f;rw[k]at q;refine I.write (by rw[c];exact trivial) (.inl rfl) (λm u h i=>(HH s.heap _ (kP h)).trans i) %[_|q] ?_;exact%[g,a,_,d|q]
def Inv.Kd(I:Inv X δ σ H s)(a:Vals ζ Φ)(c:ζ.length<=bf):
  Inv X δ σ (upd H ↥s (.lst ζ)) {s with heap:=s.heap.push {cls:=.type "list",data:=.seq Φ.toArray},toks:=n}:=
 I.laid (λb b q=>bL _ q) (bx _) %[c,Φ,0,a|cV _ rfl]
theorem Inv.fresh(I:Inv X δ σ H s):H ↥s=none:=I.aU.fresh (bx _)
def Inv.pY(I:Inv X δ σ H s)(c:H l=some (.lst ζ)):ζ.length<=bf/\X2 λ(a:List Value) (n:Nat)=>A3 (Vals ζ a) (ζ.length=a.length) (s.heap.get? l=some {cls:=.type "list",data:=.seq a.toArray n}):=by obtain⟨z,a,n,r,e⟩:=I.aU l _ c;exact%[z,a,n,r,r.length|e]
theorem Ke(h:n<=bf):P9 n=false:=by exact bK (by omega)
inductive Kf(H:Hp)(Q:VK):V->List V->Prop
 |mk{l:_}{a:_}{y:_}(b:H l=some (.lst a))(b:a.length<bf)(b:Q .bB (upd H l (.lst (a++[y])))):Kf H Q (.ref l) [y]
def Kg:V->List V->Hp->VK->Prop:=λx a H Q=>Kf H Q x a
def To:Bn X "list.append" Kg:=by?
 intro c s σ H x i v m Q I d f h;obtain @⟨l,xs,y,b,j,q⟩:=h;cases d;obtain⟨u,rfl,g⟩:=f.one;obtain⟨z,a,n,r,k,e⟩:=I.pY b;refine pI ada %[_,e|rfl] F.entry_list_append (F.args_list_append_2 _ _) (PySem.list_append l a.toArray n u (by grind)) %[e|?_];refine%[.bB,_,I.Bo b e (by simp) (r.append (.cons g .nil)) ?_,rfl|q]
 grind
inductive Kh(H:Hp)(Q:VK):V->List V->Prop
 |mk{l:_}{b:_}{c:_}{a:_}(d:H l=some (.lst c))(d:H b=some (.lst a))(d:c.length+a.length<=bf)(d:Q .bB (upd H l (.lst (c++a)))):Kh H Q (.ref l) ([.ref b])
def Ki:V->List V->Hp->VK->Prop:=λx a H Q=>Kh H Q x a
def Tp:Bn X "list.extend" Ki:=by?
 intro pins s σ H x vs v us Q I rx rv h;obtain @⟨l,b,xs,zs,hH,hB,hz,q⟩:=h;cases rx;obtain⟨u,rfl,ru⟩:=rv.one;cases ru;obtain⟨z,its,n,r,hl,e⟩:=I.pY hH;obtain⟨z2,its2,n2,r2,hl2,e2⟩:=I.pY hB;have hsz:its.toArray.size+its2.toArray.size<=bf:=by grind
 have hlong:¬(!its.toArray.isEmpty&&P9 (its.toArray.size+its2.toArray.size))=true:=by grind [Ke]
 refine pI adb ⟨_,e,rfl⟩ F.entry_list_extend (F.args_list_extend_2 _ _)
  (AutoSeq1.list_extend_list_list_0 l its.toArray n b its2.toArray n2 hlong (by omega) (by omega)) ⟨e,e2,?_⟩
 refine⟨.bB,_,I.Bo hH e (by simp) (r.append r2) ?_,rfl,q⟩
 grind
inductive Kj(x:V)(a:List V)(H:Hp)(Q:VK):Prop
 |mk l xs y(b:x=.ref l)(b:a=[])(b:H l=some (.lst xs))(b:xs[xs.length-1]?=some y)(b:Q y (upd H l (.lst xs.dropLast)))
def Tq:Bn X "list.pop" Kj:=by?
 intro f s σ H x m v w Q I g i h;obtain⟨l,t,y,rfl,rfl,d,j,q⟩:=h;cases g;have b:=i.zero;subst b;obtain⟨z,a,n,r,o,e⟩:=I.pY d;obtain⟨u,p,k⟩:=r.get j;have c:a.toArray[a.toArray.size-1]?=some u:=by grind
 refine pI ade %[_,e|rfl] F.entry_list_pop (F.args_list_pop_1 _) (MeetsSeq.list_pop_last l a.toArray n u c (by grind)) %[e|?_];refine%[y,_,I.Bo d e ?_ r.dropLast ?_,k|q]
 all_goals grind
inductive Kk(H:Hp)(Q:VK):V->V->Prop
 |mk{l:_}{b:_}{c:_}{a:_}(d:H l=some (.lst c))(d:H b=some (.lst a))(d:c.length+a.length<=bf)(d:∀p,H p=none->Q (.ref p) (upd H p (.lst (c++a)))):Kk H Q (.ref l) (.ref b)
def xT:V->V->Hp->VK->Prop:=λx y H Q=>Kk H Q x y
def eT:dE X (binaryOp .Add) xT:=by?
 intro d s σ H x y v u Q I f g h;obtain @⟨l,b,xs,zs,i,j,p,q⟩:=h;cases f;cases g;obtain⟨z,c,n,r,t,e⟩:=I.pY i;obtain⟨w,a,A,k,m,o⟩:=I.pY j;refine PySem.P.add_list e o ?_ (by grind);have ea:c.toArray++a.toArray=(c++a).toArray:=by simp
 rw[ea];exact%[.ref _,_,I.Kd (r.append k) (by grind),rfl|q _ I.fresh]
inductive Kl(H:Hp)(Q:VK):V->V->Prop
 |mk{l:_}{k:_}{a:_}(b:H l=some (.lst a))(b: -(2^63)<=k)(b:k<2^63)(b:a.length*k.toNat<=bf)(b:∀p,H p=none->Q (.ref p) (upd H p (.lst (cS k.toNat a).flatten))):Kl H Q (.ref l) (.int k)
def Tr:V->V->Hp->VK->Prop:=λx y H Q=>Kl H Q x y
theorem len_rep(a:List N)(k:Nat):(cS k a).flatten.length=k*a.length:=by cbv
def Ts:dE X (binaryOp .Mult) Tr:=by?
 intro pins s σ H x y v u Q I rx ry h;obtain @⟨l,k,xs,hH,h1,h2,hz,q⟩:=h;cases rx;obtain⟨t,rfl⟩:=ry;obtain⟨z,its,n,r,hl,e⟩:=I.pY hH;have hlen:its.toArray.size*k.toNat<=bf:=by grind
 have hcap:¬its.toArray.size*k.toNat>(2^63-1)/8:=by
  have:(bf:Nat)<=(2^63-1)/8:=by decide
  omega
 have hfit:¬(!Builtin.List.listFitsIndex k)=true:=by grind [fitsIndex_both]
 have hlong:¬P9 (its.toArray.size*k.toNat)=true:=by grind [Ke]
 have hnew:HJ (λx1 x2=>x1++x2) #[] (cS (if its.toArray.isEmpty=true then 0 else k.toNat) its.toArray)=(cS k.toNat its).flatten.toArray:=by
  have f0:=λm=>by have:=foldl_rep its m [];rw[P_]at this;exact this
  rw[f0];cases its with
  |nil=>simp
  |cons a r'=>rw[aE (by simp)]
 refine wpAny_binaryOp_repeat_ref (by decide) ⟨_,e,rfl⟩ (λs'=>typeIs_int s' k t) noFill_list_mul F.fills_int_mul F.slot_int_rmul repeat_list F.slot_int_index.lookup
  (pI F.slot_int_rmul (typeIs_int s k t) F.entry_int_rmul (F.args_int_rmul_2 _ _) (int___rmul___int_list k t l its.toArray n)
   ⟨e,rfl,⟨_,e,rfl⟩,pI F.slot_list_mul ⟨_,e,rfl⟩ F.entry_list_mul (F.args_list_mul_2 _ _) (AutoListH.list___mul___list_int_3 l its.toArray n k t hfit hcap hlong) ⟨e,?_⟩⟩)
 rw[hnew];exact⟨.ref _,_,I.Kd (r.rep k.toNat) (by grind [len_rep]),rfl,q _ I.fresh⟩
theorem Vals.ints:∀{ns:List Int} {a:List Value},Vals (ns.map V.int) a->IntsAre a ns
 |[],a,h=>by cases h;exact IntsAre.nil
 |n::ns,a,h=>by
  cases h with
  |cons r t=>
   obtain⟨k,rfl⟩:=r;exact IntsAre.cons n k (Vals.ints t)
def Tt:∀{a:List Value} {ns:List Int},IntsAre a ns->Vals (ns.map V.int) a:=by
 intro b b h;induction h with
 |nil=>exact Paired.nil
 |cons n t _ h=>exact Paired.cons %[t|rfl] h
theorem Vals.Bp:∀{bs:List Bool} {a:List Value},Vals (bs.map V.bl) a->a=bs.map tQ
 |[],a,h=>by cases h;rfl
 |b::bs,a,h=>by
  cases h with
  |cons r t=>
   cases r;rw[Vals.Bp t,cx]
def Vals.uE{a:ae}(r:Vals [V.ref a] Φ):Φ=[iO a]:=by
 cases r with
 |cons r t=>
  cases t;cases r;rfl
def Tu(i:A.handled=none)(d:s.heap.IsList l Φ.toArray)(f:IntsAre Φ U)
  (h:∀a tk c,(∀b o,s.heap.get? b=some o->a.get? b=some o)->Q (.int U.sum c) {s with heap:=a,toks:=tk}):wpAny (model P w) A (call (.builtin "sum") [.ref l]) Q E s:=by?
 obtain⟨k,e⟩:=f.allInts.items;have g:numsOf (intItems k).toList=U:=by rw[<-e];exact f.numsOf
 rw[nums_intItems]at g;rw[e]at d;refine PySem.sum_intListG i d λa tk c j=>?_
 have:=h a tk c j;rw[preSum_eq,P' (by simp),g];exact this
def Tv(n:A.handled=none)(i:s.heap.IsList l Φ.toArray)(k:IntsAre Φ U)(f:0<U.length)
  (h:∀c tk M p,(∀b o,s.heap.get? b=some o->c.get? b=some o)->M∈U->(∀a,a∈U->a<=M)->Q (.int M p) {s with heap:=c,toks:=tk}):wpAny (model P w) A (call (.builtin "max") [.ref l]) Q E s:=by?
 obtain⟨d,e⟩:=k.allInts.items;have m:numsOf (intItems d).toList=U:=by rw[<-e];exact k.numsOf
 rw[nums_intItems]at m;subst m;rw[e]at i;have g:0<d.size:=by simpa using f
 refine PySem.max_intList n i g λv c tk q r=>?_;obtain⟨t,rfl⟩:=intItems_at q;obtain⟨z,u⟩:=argBest_gt (numAt d) (d.size-1);refine h c tk _ t r ?_ λa x=>?_
 .rw[numAt_eq];exact adf (by rw[aY,wC];omega)
 .obtain⟨j,y,rfl⟩:=mem_getD x;rw[aY,wC]at y;rw[<-numAt_eq];exact u j (by omega)
def Tw(n:A.handled=none)(i:s.heap.IsList l Φ.toArray)(k:IntsAre Φ U)(f:0<U.length)
  (h:∀c tk M p,(∀b o,s.heap.get? b=some o->c.get? b=some o)->M∈U->(∀a,a∈U->M<=a)->Q (.int M p) {s with heap:=c,toks:=tk}):wpAny (model P w) A (call (.builtin "min") [.ref l]) Q E s:=by?
 obtain⟨d,e⟩:=k.allInts.items;have m:numsOf (intItems d).toList=U:=by rw[<-e];exact k.numsOf
 rw[nums_intItems]at m;subst m;rw[e]at i;have g:0<d.size:=by simpa using f
 refine PySem.min_intList n i g λv c tk q r=>?_;obtain⟨t,rfl⟩:=intItems_at q;obtain⟨z,u⟩:=argBest_lt (numAt d) (d.size-1);refine h c tk _ t r ?_ λa x=>?_
 .rw[numAt_eq];exact adf (by rw[aY,wC];omega)
 .obtain⟨j,y,rfl⟩:=mem_getD x;rw[aY,wC]at y;rw[<-numAt_eq];exact u j (by omega)
inductive Km(K:ah)(H:Hp)(Q:VK):List V->Prop
 |mk{a:ae}{ns:List Int}(b:af K H a (ns.map V.int))(b:Q (.int ns.sum) H):Km K H Q ([V.ref a])
def Tx(K:ah):List V->Hp->VK->Prop:=λa H Q=>Km K H Q a
inductive Kn(K:ah)(H:Hp)(Q:VK):List V->Prop
 |mk{a:ae}{ns:List Int}(b:af K H a (ns.map V.int))(b:0<ns.length)(b:∀m,m∈ns->(∀y,y∈ns->y<=m)->Q (.int m) H):Kn K H Q ([V.ref a])
def Tz(K:ah):List V->Hp->VK->Prop:=λa H Q=>Kn K H Q a
inductive Ko(K:ah)(H:Hp)(Q:VK):List V->Prop
 |mk{a:ae}{ns:List Int}(b:af K H a (ns.map V.int))(b:0<ns.length)(b:∀m,m∈ns->(∀y,y∈ns->m<=y)->Q (.int m) H):Ko K H Q ([V.ref a])
def TB(K:ah):List V->Hp->VK->Prop:=λa H Q=>Ko K H Q a
def Kp(c:X.calm=true):iC X (.builtin "sum") (Tx X.K):=by intro b s σ H j m Q I r h;obtain @⟨a,ns,d,q⟩:=h;obtain⟨e,f,g,n⟩:=I.list d;rw[Vals.uE r];exact Tu (I.ok.hd c) g.isList f.ints λk tk l i=>%[.int _,H,I.kept i,%[_|rfl]|q]
def TC(d:X.calm=true):iC X (.builtin "max") (Tz X.K):=by? intro c s σ H n t Q I r h;obtain @⟨a,ns,e,b,q⟩:=h;obtain⟨f,g,i,o⟩:=I.list e;rw[Vals.uE r];exact Tv (I.ok.hd d) i.isList g.ints b λo tk m p j k l=>%[.int _,H,I.kept j,%[_|rfl]|q m k l]
def TF(d:X.calm=true):iC X (.builtin "min") (TB X.K):=by? intro c s σ H n t Q I r h;obtain @⟨a,ns,e,b,q⟩:=h;obtain⟨f,g,i,o⟩:=I.list e;rw[Vals.uE r];exact Tw (I.ok.hd d) i.isList g.ints b λo tk m p j k l=>%[.int _,H,I.kept j,%[_|rfl]|q m k l]
inductive Bq(K:ah)(x:V)(d:List V)(H:Hp)(Q:VK):Prop
 |mk(a:ae)(b:List V)(y:V)(j:Nat)(z:V)(e:x=V.ref a)(e:d=[y])(e:af K H a b)(e:km y=true)(e:b.all km=true)(e:b[j]?=some z)(e:lA z y=true)(e:∀(m:Nat) (c:V),m<j->b[m]?=some c->lA c y=false)(e:Q (.int (j:Nat)) H)
set_option tactic.hygienic true in
def TH:rR X "list.index" (Bq X.K):=by?
 intro r s σ H x xs v us Q I t c h;obtain⟨a,w,y,j,z,rfl,rfl,A,B,d,C,D,E,q⟩:=h;cases t;cases c with
 |cons F rt=>
  rename_i G ut;cases rt;obtain⟨e,b,⟨⟨W,J,p,sl⟩,n,l,K,L,hd⟩,o⟩:=I.list A;subst K hd;obtain⟨u,M,Y⟩:=b.get C;obtain⟨f,N⟩:=fP.mp M;have O:=b.length;have P:=by simpa using f
  have R:=pH;refine pI adg %[_,l|rfl] PySem.F.entry_list_index (PySem.F.args_list_index_2 _ _)
   (SeqAt.list_indexAt a e.toArray n J sl G _ j P (by omega) ?_ ?_) %[l,λS g=>xS F B b d S (by simpa using g)|?_]
  .grind [xR]
  .intro m hm T;have i:m<w.length:=by omega
   have k:=cA i;obtain⟨Z,U,V⟩:=b.get k
   grind [xR]
  .exact%[.int _,H,I.tok _,%[_|rfl]|q]
def Kq{Ρ:Array Value}(b:s.heap.IsList l Ρ)
  (h:∀a:aj,a={s with heap:=s.heap.push {cls:=.type "list_iterator",data:=.fields #[.ref l,.int 0 0]}}->
   (a.heap.IsListIter ↥s l 0/\a.heap.IsList l Ρ)->l≠↥s->Q (.ref ↥s) a):wpAny (model P w) A (pyIter (.ref l)) Q E s:=by
 have c:l<↥s:=by obtain⟨d,e,d⟩:=b;exact bU e
 exact xk b (h _ rfl %[%[_,cV _ rfl,rfl|rfl]|b.push _] (dn c))
def Kr{bs:List Bool}(e:Φ=bs.map tQ):
  TruthOf P w A (λi v=>Φ.toArray[i]?=some v) (λi=>bs.getD i false):=λi v s Q E d f=>by?
 have a:Φ[i]?=some v:=by simpa using d
 rw[e,eJ]at a;obtain⟨b,g,rfl⟩:=Option.map_eq_some_iff.mp a;have h:bs.getD i false=b:=by rw[ir,g]<;>rfl
 have c:Q (bs.getD i false) s:=f;rw[h]at c;exact oz c
theorem any_range:∀bs:List Bool,(bV bs.length).any (λi=>bs.getD i false)=bs.any id
 |[]=>rfl
 |b::bs=>by
  rw[iu,HK,o9,List.any_map,o9,<-any_range bs]
  all_goals rfl
theorem all_range:∀bs:List Bool,(bV bs.length).all (λi=>bs.getD i false)=bs.all id
 |[]=>rfl
 |b::bs=>by
  rw[iu,HK,o7,nX,o7,<-all_range bs]
  all_goals rfl
inductive Ks(K:ah)(H:Hp)(Q:VK):List V->Prop
 |mk{a:ae}{bs:List Bool}(b:af K H a (bs.map V.bl))(b:Q (.bl (bs.any id)) H):Ks K H Q ([V.ref a])
def TJ(K:ah):List V->Hp->VK->Prop:=λa H Q=>Ks K H Q a
inductive Kt(K:ah)(H:Hp)(Q:VK):List V->Prop
 |mk{a:ae}{bs:List Bool}(b:af K H a (bs.map V.bl))(b:Q (.bl (bs.all id)) H):Kt K H Q ([V.ref a])
def TK(K:ah):List V->Hp->VK->Prop:=λa H Q=>Kt K H Q a
def Ku(j:X.calm=true):iC X (.builtin "any") (TJ X.K):=by?
 intro i s σ H u x Q I r h;obtain @⟨a,bs,k,q⟩:=h;obtain⟨d,l,m,y⟩:=I.list k;rw[Vals.uE r];have f:=l.Bp;refine call_any_walk (Kq m.isList λv n st e=>?_);subst n;refine%[_,_,_,_,_,_,_,rfl,HL (A:=X.A.in1) (I.ok.hd j) _ a e d.toArray,st,Kr f|λw tk p=>?_];refine%[.bl _,H,I.kept λb o g=>p b o (λc=>?_) (bL _ g),?_|q]
 .rcases cU.mp c with t|c
  .exact aT (t▸bU g) (o6 _)
  .cases c
 .show tQ _=tQ _;rw[<-any_range,f,rb,aY]
def pZ(j:X.calm=true):iC X (.builtin "all") (TK X.K):=by?
 intro i s σ H u x Q I r h;obtain @⟨a,bs,k,q⟩:=h;obtain⟨d,l,m,y⟩:=I.list k;rw[Vals.uE r];have f:=l.Bp;refine call_all_walk (Kq m.isList λv n st e=>?_);subst n;refine%[_,_,_,_,_,_,_,rfl,HL (A:=X.A.in1) (I.ok.hd j) _ a e d.toArray,st,Kr f|λw tk p=>?_];refine%[.bl _,H,I.kept λb o g=>p b o (λc=>?_) (bL _ g),?_|q]
 .rcases cU.mp c with t|c
  .exact aT (t▸bU g) (o6 _)
  .cases c
 .show tQ _=tQ _;rw[<-all_range,f,rb,aY]
mutual
inductive Dp (K:ah) (H:Hp):V->PyData->Prop
 |bB:Dp K H .bB .none
 |bl (b:Bool):Dp K H (.bl b) (.bool b)
 |int (i:Int):Dp K H (.int i) (.int i)
 |str (x:Str):Dp K H (.str x) (.str x)
 |lst {a:ae} {xs:List V} {ds:List PyData}:af K H a xs->rT K H xs ds->Dp K H (.ref a) (.list ds)
 |tup {a:ae} {xs:List V} {ds:List PyData}:bN K H a xs->rT K H xs ds->Dp K H (.ref a) (.tuple ds)
inductive rT (K:ah) (H:Hp):List V->List PyData->Prop
 |nil:rT K H [] []
 |cons {v:V} {vs:List V} {d:PyData} {ds:List PyData}:Dp K H v d->rT K H vs ds->rT K H (v::vs) (d::ds)
end
mutual
theorem Dp.reads (I:Inv X pins σ H s):∀(d:PyData) (v:V) (u:Value),Dp X.K H v d->RelV v u->∃as,Reads s.heap u d as
 |.none,_,_,h,r=>by cases h;cases r;exact%[_|Reads.none]
 |.bool b,_,_,h,r=>by cases h;cases r;exact%[_|Reads.bool b]
 |.int i,_,_,h,r=>by cases h;obtain⟨t,rfl⟩:=r;exact%[_|Reads.int i t]
 |.str x,_,_,h,r=>by cases h;obtain⟨t,rfl⟩:=r;exact%[_|Reads.str x t]
 |.list ds,_,_,h,r=>by
  cases h with
  |lst hs ha=>
   cases r;obtain⟨its,rv,⟨o,n,ho,hc,a,hd⟩,a⟩:=I.list hs;obtain⟨as,hr⟩:=Dp.readsAll I ds _ its ha rv;exact%[_|Reads.list ho hc hd hr]
 |.tuple ds,_,_,h,r=>by
  cases h with
  |tup hs ha=>
   cases r;obtain⟨its,rv,⟨o,ho,hc,n,hd⟩,a⟩:=I.tuple hs;obtain⟨as,hr⟩:=Dp.readsAll I ds _ its ha rv;exact%[_|Reads.tuple ho hc hd hr]
 |.dict _,_,_,h,_=>by cases h
theorem Dp.readsAll (I:Inv X pins σ H s):∀(ds:List PyData) (vs:List V) (us:List Value),rT X.K H vs ds->Vals vs us->∃as,ReadsAll s.heap us ds as
 |[],_,_,h,r=>by cases h;cases r;exact%[_|ReadsAll.nil]
 |d::ds,_,_,h,r=>by
  cases h with
  |cons h1 h2=>
   cases r with
   |cons r1 r2=>
    obtain⟨as,q1⟩:=Dp.reads I d _ _ h1 r1;obtain⟨bs,q2⟩:=Dp.readsAll I ds _ _ h2 r2;exact%[_|ReadsAll.cons q1 q2]
end
inductive TM(K:ah)(x y:V)(H:Hp)(Q:VK):Prop
 |mk d e(a:Dp K H x d)(a:Dp K H y e)(a:Ai d=true)(a:Ai e=true)(a:Q (.bl (HM d e)) H)
inductive Br(K:ah)(x y:V)(H:Hp)(Q:VK):Prop
 |mk d e(a:Dp K H x d)(a:Dp K H y e)(a:Ai d=true)(a:Ai e=true)(a:Q (.bl (!HM d e)) H)
def TN(b:X.A.units+64<cLine):dE X (gE .Eq) (TM X.K):=by intro a s σ H x y v u Q I c f h;obtain⟨d,e,hd,l,g,i,q⟩:=h;obtain⟨m,j⟩:=Dp.reads I d x v hd c;obtain⟨bs,k⟩:=Dp.reads I e y u l f;exact SeqAt.compareEq_shaped j k g i b %[.bl _,H,I,rfl|q]
def Kv(b:X.A.units+64<cLine):dE X (gE .NotEq) (Br X.K):=by intro a s σ H x y v u Q I c f h;obtain⟨d,e,hd,l,g,i,q⟩:=h;obtain⟨m,j⟩:=Dp.reads I d x v hd c;obtain⟨bs,k⟩:=Dp.reads I e y u l f;exact SeqAt.compareNe_shaped j k g i b %[.bl _,H,I,rfl|q]
abbrev Kw(h:ax)(c:ae)(v:Option Value):Prop:=h.IsCell c v
def TQ(a b:Scope):Scope:=
 {a with names:=a.names.map λ(n,k)=>if(k==.free&&b.kind==.function&&b.names.lookup n==some .cell)then(n,.cell)else(n,k)}
def gw(a:List (Str×ae)):List (Str×jv)->List (Str×ae)->List (Str×ae)
 |[],acc=>acc
 |(n,k)::r,acc=>if k==.free then gw a r ((n,(a.lookup n).getD 0)::acc)else gw a r acc
theorem Kx(env:Env)(f:Str×jv->List (Str×ae)->Sem (ForInStep (List (Str×ae))))
  (l:∀n k c,f (n,k) c=if k==.free then(do let a<-cellOf env n;pure (.yield ((n,a)::c)))else pure (.yield c)):
  ∀(b:List (Str×jv)) (d:List (Str×ae)),(∀y∈b,y.2=.free->∃c,env.cells.lookup y.1=some c)->forIn b d f=pure (gw env.cells b d)
 |[],d,_=>by? rw[adh];rfl
 |(n,k)::r,d,h=>by?
  rw[adi,l];have i:=λd=>Kx env f l r d λy m=>h y (bG _ m)
  unfold gw;by_cases g:(k==Qa)=true
  .rw[aS g,aS g];obtain⟨c,j⟩:=h (n,k) bQ (by simpa using g);have e:cellOf env n=pure c:=by unfold cellOf;rw[j]
   rw[e];have o:(env.cells.lookup n).getD 0=c:=by rw[j];rfl
   rw[o];exact i _
  .rw[aE g,aE g];exact i _
def TR(h:∀y∈μ.names,y.2=.free->∃c,Ι.cells.lookup y.1=some c):closureFor μ Ι=pure (gw Ι.cells μ.names []):=by simp only[closureFor];rw[Kx Ι _ (λn k c=>rfl) μ.names [] h];rfl
theorem mem_lookup:∀{l:List (Str×N)} {n:Str} {c:N},(n,c)∈l->∃a,l.lookup n=some a
 |(k,v)::r,n,c,h=>by
  rw[List.lookup_cons];cases b:n==k with
  |true=>exact%[_|rfl]
  |false=>
   rcases cU.mp h with e|h
   .cases e;simp at b
   .exact mem_lookup h
theorem xU{b:List (Str×ae)}:∀{a:List (Str×jv)} {d:List (Str×ae)} {n:Str} {c:ae},(n,c)∈gw b a d->(n,c)∈d\/((n,.free)∈a/\c=(b.lookup n).getD 0)
 |[],_,_,_,h=>.inl h
 |(m,k)::r,d,n,c,h=>by
  unfold gw at h;split at h
  .rcases xU h with h|⟨e,f⟩
   all_goals grind
  .rcases xU h with h|⟨e,f⟩
   all_goals grind
theorem Bs{c:List (Str×ae)}:∀{b:List (Str×jv)} {a:List (Str×ae)} {p:Str×ae},p∈a->p∈gw c b a
 |[],_,_,h=>h
 |(m,k)::r,a,p,h=>by
  unfold gw;split
  .exact Bs (bG _ h)
  .exact Bs h
theorem Bt{cells:List (Str×ae)}:∀{a:List (Str×jv)} {acc:List (Str×ae)} {n:Str},(n,.free)∈a->(n,(cells.lookup n).getD 0)∈gw cells a acc
 |(m,k)::r,acc,n,h=>by
  unfold gw;rcases cU.mp h with e|h
  .grind [Bs]
  .split
   .exact Bt h
   .exact Bt h
theorem uF:∀{a:List (Str×jv)} {h:ax} {b:List (Str×ae)} {x:Str} {c:ae},(x,c)∈gR h.objs.size a b->
  (x,c)∈b\/((x,.cell)∈a/\h.objs.size<=c/\Kw (rF h a) c none)
 |[],_,_,_,_,h=>.inl h
 |(n,k)::r,h,b,x,c,hm=>by?
  unfold gR at hm;unfold rF;split at hm
  .rename_i d;rw[aS d];have d:k=.cell:=by simpa using d
   rw[<-eG h {cls:=.type "cell",data:=.cell none}]at hm;rcases uF hm with hm|⟨g,f,i⟩
   .rcases cU.mp hm with e|hm
    .cases e;exact .inr %[d▸bQ,bx _,_,pushCells_keeps r _ _ _ (cV _ rfl)|rfl]
    .exact .inl hm
   .rw[eG]at f;exact .inr %[bG _ g,dZ f|i]
  .rename_i d;rw[aE d];rcases uF hm with hm|⟨g,f,i⟩
   .exact .inl hm
   .exact .inr %[bG _ g,f|i]
theorem xV:∀{names:List (Str×jv)} {n:Nat} {a:List (Str×ae)} {p:Str×ae},p∈a->p∈gR n names a
 |[],_,_,_,h=>h
 |(m,k)::r,n,a,p,h=>by
  unfold gR;split
  .exact xV (bG _ h)
  .exact xV h
theorem Bu:∀{a:List (Str×jv)} {n:Nat} {acc:List (Str×ae)} {x:Str},(x,.cell)∈a->∃c,(x,c)∈gR n a acc
 |(m,k)::r,n,acc,x,h=>by
  unfold gR;rcases cU.mp h with e|h
  .grind [xV]
  .split
   .exact Bu h
   .exact Bu h
theorem Bv:∀{e:List (Str×jv)} {h:ax} {d:List (Str×ae)} {x y:Str} {c:ae},(∀p∈d,p.2<h.objs.size)->(∀x y c,(x,c)∈d->(y,c)∈d->x=y)->
  (x,c)∈gR h.objs.size e d->(y,c)∈gR h.objs.size e d->x=y
 |[],_,_,_,_,_,_,i,g,f=>i _ _ _ g f
 |(n,k)::r,h,d,x,y,c,l,i,g,f=>by?
  unfold gR at g f;split at g
  .rename_i j;rw[aS j]at f;rw[<-eG h {cls:=.type "cell",data:=.cell none}]at g f;refine Bv (λp hp=>?_) (λx y c a b=>?_) g f
   all_goals grind [eG]
  .rename_i j;rw[aE j]at f;exact Bv l i g f
def TU{a:ae}{M:Model}{b:List (Str×ae)}{d:Option ae}{Q:Env->aj->Prop}
  (h:Q (newEnv μ ↥s a (gR (↥s+1) μ.names b) x d η (some Ι) f)
   {s with heap:=rF (s.heap.push {cls:=.type "dict",data:=.dict #[]}) μ.names}):
  wpAny M A (newFunctionEnv μ a b [] x d η (some Ι) f) Q E s:=by
 simp only[newFunctionEnv,if_true];refine aA (wpAny_alloc ?_);refine aA (wpAny_layCells _ (λn k c=>rfl) μ.names b _ _ ?_);rw[eG ..];exact aA (bh (bh h))
theorem Bw{b:Scope}:∀{names:List (Str×jv)} {x:Str} {k:jv},
  (names.map λ(n,k)=>if(k==Qa&&b.kind==.function&&b.names.lookup n==some .cell)then(n,NameKind.cell)else(n,k)).lookup x=some k->
  ∃a,names.lookup x=some a/\(k=a\/(a=.free/\k=.cell))
 |[],_,_,h=>by simp at h
 |(n,c)::r,x,k,h=>by
  have d:=@Bw b r x k
  grind
structure rV(N:List Str)(b a:Scope)(own:List (Str×Nat)):Prop where
 kind:a.kind=.function
 uniq:∀y∈a.names,a.names.lookup y.1=some y.2
 ix:∀p∈own,N[p.2]?=some p.1
 free:∀y∈a.names,y.2=.free->b.names.lookup y.1=some .cell\/b.names.lookup y.1=some .free
 own:∀y∈a.names,y.2=.local\/y.2=.cell->y.1∈own.map (·.1)\/y.1∉N
def wipe(σ:St):List Nat->St
 |[]=>σ
 |v::a=>(wipe σ a).set v none
theorem Bx(σ:St):∀a:List Nat,(wipe σ a).length=σ.length
 |[]=>rfl
 |v::a=>by unfold wipe;rw[wB,Bx σ a]
theorem By:∀{a:List Nat},(wipe σ a)[n]?=some (some O)->σ[n]?=some (some O)/\n∉a
 |[],h=>%[h|by simp]
 |v::a,h=>by?
  unfold wipe at h;by_cases b:v=n
  .subst b;by_cases c:v<(wipe σ a).length
   .rw[PM c]at h;cases h
   .rw[mU (by simpa using c)]at h;cases h
  .rw[PN b]at h;obtain⟨d,f⟩:=By h;exact%[d|by simp only[cU,not_or];exact%[λe=>b e.symm|f]]
abbrev Cx.fT(X:Cx)(s:aj)(H:Hp)(a:Scope)(b:Env)(c:List ae):Cx:={X with gG:=s,pM:=H,env:=b,outer:=X.stack,ex:=c,fn:=λx=>a.names.lookup x==some .cell,pn:=[],xe:=λd d=>False}
def TV{Μ:List ae}{own:List (Str×Nat)}(I:Inv X δ σ H s)(ok:rV X.N X.env.scope μ own)(W:X.N.Nodup)(j:∀b∈Μ,ki X δ H b/\b<↥s):
  Inv (X.fT s H μ (jw μ (gR (↥s+1) μ.names (gw X.env.cells μ.names [])) ↥s X.env) Μ) [] (wipe σ (own.map (·.2))) H {s with heap:=rF (s.heap.push {cls:=.type "dict",data:=.dict #[]}) μ.names}:=by?
 have F:∀y∈μ.names,y.2=.free->∃c,X.env.cells.lookup y.1=some c:=λy v e=>by
  rcases ok.free y v e with k|k
  .exact I.ok.has _ (.inl k)
  .exact I.ok.has _ (.inr k)
 generalize f:jw μ (gR (↥s+1) μ.names (gw X.env.cells μ.names [])) ↥s X.env=d;have kp:∀b o,s.heap.get? b=some o->(rF (s.heap.push {cls:=.type "dict",data:=.dict #[]}) μ.names).get? b=some o:=λb o e=>pushCells_keeps _ _ _ _ (bL _ e)
 have O:d.locals=↥s:=by rw[<-f];rfl
 have h:d.cells=gR (↥s+1) μ.names (gw X.env.cells μ.names []):=by rw[<-f];rfl
 have G:d.scope=TQ μ X.env.scope:=by rw[<-f];rfl
 rw[<-eG s.heap {cls:=.type "dict",data:=.dict #[]}]at h;have L:∀{y c},(y,c)∈gw X.env.cells μ.names []->X.env.cells.lookup y=some c/\c<↥s:=λ{y c} t=>by
  rcases xU t with t|⟨g,rfl⟩
  .cases t
  .obtain⟨c,U⟩:=F _ g rfl;rw[U];obtain⟨w,z⟩:=I.cell _ _ U;exact%[rfl|z.lt]
 have mem:∀{y c},d.cells.lookup y=some c->(X.env.cells.lookup y=some c/\c<↥s)\/(↥s+1<=c/\Kw (rF (s.heap.push {cls:=.type "dict",data:=.dict #[]}) μ.names) c none):=λ{y c} e=>by
  rw[h]at e;rcases uF (jJ e)with t|⟨_,x,Y⟩
  .exact .inl (L t)
  .rw[eG]at x;exact .inr %[x|Y]
 have look:∀{y},μ.names.lookup y=some .free->∃c,d.cells.lookup y=some c/\X.env.cells.lookup y=some c:=λ{y} P=>by
  have v:(y,Qa)∈μ.names:=jJ P;obtain⟨Q,l⟩:=mem_lookup (xV (names:=μ.names) (n:=(s.heap.push {cls:=.type "dict",data:=.dict #[]}).objs.size) (Bt (cells:=X.env.cells) (acc:=[]) v));rw[<-h]at l;refine%[Q,l|?_];rw[h]at l;rcases uF (jJ l)with t|⟨g,_,_⟩
  .exact(L t).1
  .have:=ok.uniq _ g;rw[P]at this;cases this
 have R:(X.fT s H μ d Μ).Ok:=by
  refine%[I.ok.mod,by show d.scope.kind=_;rw[G];exact ok.kind,by show d.globals=_;rw[<-f];exact I.ok.glob,by show d.builtins=_;rw[<-f];exact I.ok.blt,by show ↥s<=d.locals;rw[O];exact bx _,
   λy z c B C=>?_,λy v=>?_,λy c z e=>?_,I.ok.hd,I.ok.frames,.inl rfl,λb D=>%[?_|λy c e z=>?_],I.bs,bq I.ok.m7 I.sz,λb o e D=>?_,λb D z=>?_,I.stack|I.Jc]
  .have B:d.cells.lookup y=some c:=B;have C:d.cells.lookup z=some c:=C;rw[h]at B C;refine Bv (λp hp=>?_) (λy z c a b=>I.ok.inj y z c (L a).1 (L b).1) (jJ B) (jJ C);rw[eG];exact o_ (L (y:=p.1) (c:=p.2) hp).2
  .show∃c,d.cells.lookup y=some c;have n:∀k,d.kindOf y=some k->(k=.cell\/k=.free)->∃c,d.cells.lookup y=some c:=λk J K=>by
    unfold Env.kindOf at J;rw[G]at J;obtain⟨E,e,r⟩:=Bw J;have:E=.cell\/E=.free:=by
     rcases r with rfl|⟨rfl,_⟩
     .exact K
     .exact .inr rfl
    rcases this with rfl|rfl
    .obtain⟨c,t⟩:=Bu (n:=(s.heap.push {cls:=.type "dict",data:=.dict #[]}).objs.size) (acc:=gw X.env.cells μ.names []) (jJ e);obtain⟨Q,l⟩:=mem_lookup t;exact%[Q|by rw[h];exact l]
    .obtain⟨c,g,_⟩:=look e;exact%[c|g]
   rcases v with v|v
   .exact n _ v (.inl rfl)
   .exact n _ v (.inr rfl)
  .have z:(μ.names.lookup y==some NameKind.cell)=true:=z;have z:μ.names.lookup y=some .cell:=by simpa using z
   have e:d.cells.lookup y=some c:=e;rw[h]at e;rcases uF (jJ e)with t|⟨_,x,_⟩
   .rcases xU t with t|⟨g,_⟩
    .cases t
    .have q:=ok.uniq _ g;rw[z]at q;cases q
   .rw[eG]at x;exact dZ x
  .show b≠d.locals;rw[O];exact dn (j b D).2
  .have e:d.cells.lookup y=some c:=e;rcases mem e with⟨g,_⟩|⟨g,_⟩
   .exact(j b D).1.2.2.2.2.1 y c g z
   .have x:↥s+1<=b:=by rw[<-z];exact g
    exact aT (fz (j b D).2 (dZ x)) (o6 _)
  .rcases(j b D).1.2.2.2.1 with z|z
   .exact I.ok.uj b o e z
   .exact aT (fz (bU e) (bq I.ok.m7 z)) (o6 _)
  .rcases cU.mp (I.AW b z)with z|z
   .exact(j b D).1.2.1 z
   .exact(j b D).1.2.2.1 z
 refine%[R,rfl,I.bare,Un.kept kp,%[λ_=>none,?_|λi y Z B C u=>?_],λy c e=>?_,?_,λy c e=>?_,λp hp=>?_,I.aU.kept kp|by rw[Bx];exact I.len]
 .show Heap.Ns _ d.locals _;rw[O];exact Heap.Ns.keeps (Heap.Ns.new ..) λb o e=>pushCells_keeps _ _ _ _ e
 .obtain⟨C,S⟩:=By C;have A:μ.names.lookup y=some .free/\(d.kindOf y=some .cell\/d.kindOf y=some .free):=by
   have n:∀k,d.scope.names.lookup y=some k->k=.local\/k=.cell\/k=.free->μ.names.lookup y=some .free/\(d.kindOf y=some .cell\/d.kindOf y=some .free):=λk J K=>by
    have M:=J;rw[G]at J;obtain⟨E,e,r⟩:=Bw J;have V:¬(E=.local\/E=.cell):=λhh=>by
     rcases ok.own _ (jJ e) hh with l|l
     .obtain⟨p,hp,T⟩:=bF.mp l;have u:=ok.ix p hp;have:p.1=y:=T;rw[this]at u;exact S (bF.mpr %[p,hp|AX W u B])
     .exact l (bO B)
    rcases r with rfl|⟨rfl,rfl⟩
    .rcases K with rfl|rfl|rfl
     .exact aT (.inl rfl) V
     .exact aT (.inr rfl) V
     .exact%[e| .inr M]
    .exact%[e| .inl M]
   have u:rK d.scope y:=u;rcases u with u|u|u
   .exact n _ u (.inl rfl)
   .exact n _ u (.inr (.inl rfl))
   .exact n _ u (.inr (.inr rfl))
  obtain⟨m,hn,P⟩:=I.loc;have N:rK X.env.scope y:=(ok.free _ (jJ A.1) rfl).elim (λk=>.inr (.inl k)) (λk=>.inr (.inr k));obtain⟨w,r,q⟩:=P i y Z B C N;refine%[w,r| .inr %[A.2|?_]];obtain⟨c,g,x⟩:=look A.1;rcases q with⟨k,_⟩|⟨_,Q,l,z⟩
  .have k:X.env.scope.names.lookup y=some .local:=k;rcases ok.free _ (jJ A.1) rfl with E|E<;>rw[show X.env.scope.names.lookup y=_ from E]at k<;>cases k
  .rw[x]at l;cases l;exact%[c,g|z.keeps kp]
 .have e:d.cells.lookup y=some c:=e;rcases mem e with⟨g,_⟩|⟨_,z⟩
  .obtain⟨w,z⟩:=I.cell y c g;exact%[w|z.keeps kp]
  .exact%[_|z]
 .show H d.locals=none;rw[O];exact I.aU.fresh (bx _)
 .have e:d.cells.lookup y=some c:=e;rcases mem e with⟨g,_⟩|⟨g,_⟩
  .exact I.jN y c g
  .exact I.aU.fresh (dZ g)
 .exact aT (show p∈([]:List (ae×Obj))++[]from hp) (by simp)
def TX{D:ae}(I:Inv X δ σ H s)(d:H D=some (.lst ζ))(l:ζ.length<bf)(r:RelV O η)
  (h:∀f,Inv X δ σ (upd H D (.lst (ζ++[O]))) f->Q .none f):wpAny (model X.prog X.w) X.A (call (.builtin "list.append") [.ref D,η]) Q E s:=by?
 obtain⟨i,c,n,g,e⟩:=I.aU D _ d;have m:=g.length;refine append_at e λo j a=>?_
 refine h _ (I.write (by rw[d];trivial) (.inl rfl) (λb u k q=>(j.2 b k).trans q) %[_|a] %[by grind,c++[η],n+1,g.append (.cons r .nil)|?_]);rw[a];simp
def rW(X:Cx)(a:List Expr)(t:TT):Prop:=
 ∀(δ:List (ae×Obj)) (s:aj) (σ:St) (H:Hp) (Q:Bool->Hp->Prop),Inv X δ σ H s->t σ H Q->
  wpAny (model X.prog X.w) X.A (forIn a true λc r=>if r=true then do let ok<-isTrue c X.env (eval c X.env);pure (HN ok)else pure (HN r)) (TP X δ σ Q) X.xe s
def jR:TT:=λa H Q=>Q true H
def cR:rW X [] jR:=λa a a H a I h=>wpAny_tests_nil %[H,I|h]
def Ky{c:Expr}(h:PT X c Ε):rW X [c] Ε:=λδ s σ H Q I a=>wpAny_tests_one (h δ s σ H Q I a)
def rX{t:Sem N}{Q b:N->aj->Prop}{M:Model}(h:wpAny M A t Q (λd d=>False) s)(c:∀a s,Q a s->b a s):wpAny M A t b E s:=jM h c λd d z=>iZ z
def TY{R:Result->aj->Prop}{g:Value}(I:Nat->aj->Prop)
  (j:∀n s,I n s->wpAny (model P w) A (pyNext η) (λr k=>match r with
   |none=>R (.ok .next) k
   |some v=>wpAny (model P w) A (letOwnedTupleGo b η v) (λ_ i=>wpAny (model P w) A (assign b Ι v) (λ_ t=>
     wpAny (model P w) A (forIn ξ true λc r=>if r=true then do let ok<-isTrue c Ι (eval c Ι);pure (HN ok)else pure (HN r)) (λok l=>
      if ok=true then wpAny (model P w) A (eval e Ι) (λx u=>
       wpAny (model P w) A (call (.builtin "list.append") [g,x]) (λ_ y=>∃m,m<n/\I m y) (notedBy (model P w) A Ι λa d=>R (.error a) d) u) (notedBy (model P w) A Ι λa d=>R (.error a) d) l
      else∃m,m<n/\I m l) (notedBy (model P w) A Ι λa d=>R (.error a) d) t) (notedBy (model P w) A Ι λa d=>R (.error a) d) i) (notedBy (model P w) A Ι λa d=>R (.error a) d) k) (notedBy (model P w) A Ι λa d=>R (.error a) d) s)
  (n:Nat)(h:I n s):
  codeAny (model P w) A (.compLoop (.ListComp e [%[b,o,ξ|0]] μ p) 0 η g Ι) R s:=by?
 refine codeAny_loop rfl I (λn s C=>?_) n h;show wpAny _ A ((compTurn (.ListComp e [%[b,o,ξ|0]] μ p) 0 η g Ι).onRaise (λx=>do noteFrame x Ι;theTreesLotGoes x)) _ _ s;refine wpAny_noted ?_;rw[compTurn_list];refine aA (wpAny_standAt (aA (jM (j n s C) (λr k z=>?_) λ_ _ f=>f)));cases r with
 |none=>exact bh z
 |some v=>
  refine aA (jM z (λ_ i q=>?_) λ_ _ f=>f);refine aA (jM q (λ_ t D=>aA (jM D (λok l B=>?_) λ_ _ f=>f)) λ_ _ f=>f);cases ok with
  |false=>exact bh %[rfl|B]
  |true=>
   exact aA (aA (jM B (λx u E=>aA (jM E (λ_ y F=>bh (bh %[rfl|F])) λ_ _ f=>f)) λ_ _ f=>f))
def xW(l:TI)(g:TG)(p:TT)(n:TE)(c:List Nat):TE:=λσ H Q=>l σ H λJ k=>∀D,k D=none->∃W:Nat->Nat->Hp->Prop,(∃m,W 0 m (upd k D (.lst [])))/\∀i m H,W i m H->
 (J.stop i H/\Q (.ref D) H)\/(J.go i H/\∃d:Hp->Prop,(∀a,d a->∃f,f<m/\W (i+1) f a)/\∀x a,J.ic i H x a->g x (wipe σ c) a λe o=>wipe e c=wipe σ c/\p e o λb h=>
  if b=true then n e h λy j=>∃acc,j D=some (.lst acc)/\acc.length<bf/\d (upd j D (.lst (acc++[y])))else d h)
def Kz{Q:VK}{own:List (Str×Nat)}{wi:TI}{g:TG}{G:Option (Value->Sem Unit)}
  (hc:X.calm=true)(hN:X.N.Nodup)(I:Inv X δ σ H s)(hi:PI X b o wi)(ok:rV X.N X.env.scope μ own)
  (hg:∀(s:aj) (H:Hp) (C:ae) (cl:List (Str×ae)) (t:List ae),PG (X.fT s H μ (jw μ cl C X.env) t) b g)(ht:∀(s:aj) (H:Hp) (C:ae) (cl:List (Str×ae)) (t:List ae),rW (X.fT s H μ (jw μ cl C X.env) t) ξ Ε)
  (he:∀(s:aj) (H:Hp) (C:ae) (cl:List (Str×ae)) (t:List ae),PE (X.fT s H μ (jw μ cl C X.env) t) e ι)(hs:∀x,AL o X.env x=pure x)
  (h:xW wi g Ε ι (own.map (·.2)) σ H Q)
  (a8:∀D C B m A,Inv X δ σ A B->Q (.ref D) A->B.heap.Ns C m->ki X δ A C->compPost (model X.prog X.w) X.A X.xe G E (.ref D) C (.ok .next) B):
  wpAny (model X.prog X.w) X.A (comprehension (.ListComp e [%[b,o,ξ|0]] μ p) μ X.env M (newList []) false (eval o X.env) G) E X.xe s:=by?
 have P:∀y∈μ.names,y.2=.free->∃c,X.env.cells.lookup y.1=some c:=λy hy a=>by
  rcases ok.free y hy a with k|k
  .exact I.ok.has _ (.inl k)
  .exact I.ok.has _ (.inr k)
 refine wpAny_comprehension_free (use:=G) rfl hs (TR P) ok.kind (λy hy a=>by rw[ok.uniq y hy,a])
  (aZ (hi δ s σ H _ I h) λxv s1 hx=>aZ hx λcc s2 h2=>?_)
 obtain⟨it,t,tn,J,L,a,I2,T,aa,f2,q⟩:=h2;subst a;refine wpAny_newObj_type (TU ?_) (by show 0<=bf;decide);generalize hD:↥s2=D;have a9:L D=none:=I2.aU.fresh (qZ hD);obtain⟨W,⟨m0,w0⟩,a7⟩:=q D a9;generalize ao:({s2 with heap:=s2.heap.push {cls:=.type "list",data:=.seq ([]:List Value).toArray}}:aj)=s3;have I3:Inv X δ σ (upd L D (.lst [])) s3:=by rw[<-ao];refine I2.laid (t':=s2.toks) (λd f a=>bL _ a) (qZ hD) %[bM _,[],0,.nil|?_];rw[<-hD];exact cV _ rfl
 have h3:s3.heap=s2.heap.push {cls:=.type "list",data:=.seq ([]:List Value).toArray}:=by rw[<-ao]
 have sz:∀d∈t,d<↥s2:=λd w=>by obtain⟨f,a,_⟩:=T.obj _ _ aa d w;exact bU a
 have R:∀d∈t,ki X δ (upd L D (.lst [])) d/\d<↥s3:=λd w=>by have ar:=sz d w;refine%[%[?_|(f2 d w).2]|by rw[h3,eG];exact o_ ar];rw[aB (by rw[<-hD];exact dn ar)];exact(f2 d w).1
 have bb:tn 0 s3.heap:=T.keep _ _ _ aa λd _ f a=>by rw[h3];exact bL _ a
 have I4:=TV I3 ok hN R;have pg:=hg s3 (upd L D (.lst [])) ↥s3 (gR (↥s3+1) μ.names (gw X.env.cells μ.names [])) t;have pt:=ht s3 (upd L D (.lst [])) ↥s3 (gR (↥s3+1) μ.names (gw X.env.cells μ.names [])) t;have pe:=he s3 (upd L D (.lst [])) ↥s3 (gR (↥s3+1) μ.names (gw X.env.cells μ.names [])) t;show codeAny _ _ (.compStart (.ListComp e [%[b,o,ξ|0]] μ p) 0 (.ref it) (.ref D) (jw μ (gR (↥s3+1) μ.names (gw X.env.cells μ.names [])) ↥s3 X.env)) (compPost (model X.prog X.w) X.A X.xe G E (.ref D) ↥s3) {s3 with heap:=rF (s3.heap.push {cls:=.type "dict",data:=.dict #[]}) μ.names};have av:∀d∈t,(upd L D (.lst [])) d=none:=λd w=>(R d w).1.1;generalize bo:jw μ (gR (↥s3+1) μ.names (gw X.env.cells μ.names [])) ↥s3 X.env=ce at I4 pg pt pe⊢;have cL:ce.locals=↥s3:=by subst bo;rfl
 generalize ck:upd L D (.lst [])=K at I3 I4 pg pt pe w0 av R;generalize br:({s3 with heap:=rF (s3.heap.push {cls:=.type "dict",data:=.dict #[]}) μ.names}:aj)=s4 at I4⊢;have az:tn 0 s4.heap:=T.keep _ _ _ bb λd _ f a=>by rw[<-br];exact pushCells_keeps _ _ _ _ (bL _ a)
 have F:∀{σ':St} {A:Hp} {B:aj},Inv (X.fT s3 K μ ce t) [] σ' A B->(∀d∈t,A d=none)->∀d∈t,ki (X.fT s3 K μ ce t) [] A d:=λ{σ' A B} V Y d w=>
  %[Y d w,(V.ok.xw d w).1,V.ok.uk d w,.inl w,λx c a=>(V.ok.xw d w).2 x c a|λl hp=>aT (show l∈([]:List (ae×Obj))++[]from hp) (by simp)]
 have O:codeAny (model X.prog X.w) X.A (.compLoop (.ListComp e [%[b,o,ξ|0]] μ p) 0 (.ref it) (.ref D) ce) (compPost (model X.prog X.w) X.A X.xe G E (.ref D) ↥s3) s4:=by
  refine TY (λn B=>X2 λi A=>A4 (Inv (X.fT s3 K μ ce t) [] (wipe σ (own.map (·.2))) A B) (tn i B.heap) (∀d∈t,A d=none) (W i n A)) ?_ m0 %[0,K,I4,az,av|w0];rintro n s5 ⟨i,S,I5,a0,n5,w5⟩;rcases a7 i n S w5 with⟨stop,qq⟩|⟨go,Nx,bz,step⟩
  .have td:=T.done (X.fT s3 K μ ce t) rfl rfl rfl hc i [] s5 _ S (λ_ _=>False) I5 (F I5 n5) a0 stop;refine rX td λr s6 %[hr|Z]=>?_;subst hr;have I7:Inv X δ σ S s6:=I3.RB (ch:=t) Z.os Z.base Z.aU Z.bare λd w=>%[(R d w).1.2.2.2.1,(R d w).1.2.1,(R d w).1.2.2.2.2.1|(R d w).1.2.2.2.2.2];have nC:S ↥s3=none:=by have z:S ce.locals=none:=Z.free;rw[cL]at z;exact z
   obtain⟨m,Y,_⟩:=Z.loc;have Y:s6.heap.Ns ce.locals m:=Y;rw[cL]at Y;exact a8 D ↥s3 s6 m S I7 qq Y (I3.ni (bx _) nC)
  .have ti:=T.item (X.fT s3 K μ ce t) rfl rfl rfl hc i [] s5 _ S (λ_ _=>False) I5 (F I5 n5) a0 go;refine rX ti λr s6 %[u,hr|h6]=>?_;subst hr;refine rX h6 λ_ s7 %[x,H7,I7,r7,y7,U|n7]=>?_;have b6:=I7.pinned (F I7 n7) (T.obj _ _ U);refine rX (pg _ s7 _ H7 x u _ b6 r7 (step x H7 y7)) λ_ s8 %[σ8,H8,I8,a3|q8]=>?_;refine rX (pt _ s8 σ8 H8 _ I8 q8) λd s9 %[H9,I9|q9]=>?_;have a6:∀{B:aj} {A:Hp},Inv (X.fT s3 K μ ce t) ([]++xE t s7.heap) σ8 A B->Nx A->∃m,m<n/\X2 λi A=>A4 (Inv (X.fT s3 K μ ce t) [] (wipe σ (own.map (·.2))) A B) (tn i B.heap) (∀d∈t,A d=none) (W i m A):=λ{B A} V nx=>by
    obtain⟨m',hm,w'⟩:=bz A nx;have N:∀d∈t,∀f,s7.heap.get? d=some f->B.heap.get? d=some f/\A d=none:=λd w f a=>
     let z:=V.pin (d,f) (nW _ (nW _ (A_ w a)))
     %[z.1|z.2.1]
    have hl:(wipe σ (own.map (·.2))).length=σ8.length:=by rw[<-a3,Bx]
    refine%[m',hm,i+1,A,(V.xF (pins:=[])).weak hl (λj v a=>?_),T.keep _ _ _ U λd w f a=>(N d w f a).1,λd w=>?_|w']
    .rw[<-a3]at a;exact(By a).1
    .obtain⟨f,a,_⟩:=T.obj _ _ U d w;exact(N d w f a).2
   cases d with
   |false=>
    simp only[Aj,if_false]at q9⊢;exact a6 I9 q9
   |true=>
    simp only[if_true]at q9⊢;refine rX (pe _ s9 σ8 H9 _ I9 q9) λz cm %[yv,cn,b7,b8,cv,a4,a5|nx]=>?_
    exact TX (X:=X.fT s3 K μ ce t) b7 a4 a5 b8 λcp b9=>a6 b9 nx
 exact codeAny_compStart_list O (T.self X.A 0 _ _ _ az O)
def TZ{own:List (Str×Nat)}{j:TI}{g:TG}(l:X.calm=true)(n:X.N.Nodup)(r:PI X b o j)(ok:rV X.N X.env.scope μ own)
  (t:∀(s:aj) (H:Hp) (C:ae) (cl:List (Str×ae)) (i:List ae),PG (X.fT s H μ (jw μ cl C X.env) i) b g)(u:∀(s:aj) (H:Hp) (C:ae) (cl:List (Str×ae)) (i:List ae),rW (X.fT s H μ (jw μ cl C X.env) i) ξ Ε)
  (J:∀(s:aj) (H:Hp) (C:ae) (cl:List (Str×ae)) (i:List ae),PE (X.fT s H μ (jw μ cl C X.env) i) e ι)(v:∀x,AL o X.env x=pure x:=by intro R;rfl):
  PE X (.ListComp e [%[b,o,ξ|0]] μ p) (xW j g Ε ι (own.map (·.2))):=by
 intro k s σ H Q I h;refine Kz l n I r ok t u J v h λD C N m w y q z f=>%[m,z|λA B=>?_]
 obtain⟨K,L,O,E,M,F⟩:=f;exact%[.ref D,w,y.turned (λa c G d=>(B.2 a G).trans d) K L E M F,rfl|q]
def oM{Β:Pos}{i:Nat}{own:List (Str×Nat)}{v:TI}{g:TG}{tt:TT}{te:TE}(A:X.calm=true)(w:X.N.Nodup)(B:X.N[i]?=some x)(l:X.env.scope.names.lookup x=some .local)
  (r:rD (.ListComp e [%[b,o,ξ|0]] μ M) (some (.Name x p)) Β.line X.env=pure true)(E:PI X b o v)(ok:rV X.N X.env.scope μ own)
  (F:∀(s:aj) (H:Hp) (C:ae) (cl:List (Str×ae)) (n:List ae),PG (X.fT s H μ (jw μ cl C X.env) n) b g)(G:∀(s:aj) (H:Hp) (C:ae) (cl:List (Str×ae)) (n:List ae),rW (X.fT s H μ (jw μ cl C X.env) n) ξ tt)
  (Y:∀(s:aj) (H:Hp) (C:ae) (cl:List (Str×ae)) (n:List ae),PE (X.fT s H μ (jw μ cl C X.env) n) e te)(J:∀c,AL o X.env c=pure c:=by intro y;rfl):
  PS X (.Assign [.Name x p] (.ListComp e [%[b,o,ξ|0]] μ M) Β) (xB (xW v g tt te (own.map (·.2))) (gH i)):=by?
 intro z s σ H D I h;rw[exec_Assign_Name_used _ _ _ _ r];refine aA (wpAny_standAt (aA ?_));refine aA (aZ (Kz A w I E ok F G Y J h λL C K m N O q P f=>?_) λy K Q=>bh (bh Q));refine wpAny_assign_Name (Je (v:=V.ref L) O w B (.inl l) rfl (λs2 R %[a,S|ha]=>?_) (.inr l));obtain⟨Z,f1,f2,T,f4,U⟩:=f;have t:C≠a:=by grind
 refine%[m,P.sameBut S t|λh3 u=>?_];exact%[_,N,R.turned (λd j W k=>(u.2 d W).trans k) Z f1 T f4 U|q]
def oN{gs:List Comprehension}(b:Ι.scope.kind=.function)(c:Ι.scope.names.lookup x=some .local)(d:(M.line==p.line)=true)
  (f:(μ.names.any λ(a,k)=>a==x&&(k==.local||k==.cell))=false):rD (.ListComp e gs μ p) (some (.Name x M)) n Ι=pure true:=by?
 have g:Ι.kindOf x=some _:=c;have h:Ι.blockKind=.function:=by unfold Env.blockKind;rw[b];rfl
 unfold rD;simp only[h,g,f];rw[show(M.line==(Expr.ListComp e gs μ p).pos.line)=true from d];rfl
def T_{D a:ae}{K:ah}{κ:List Nat}{xs:List V}{g:TG}{Qd:Hp->Prop}(d:Nat->Hp->Prop)(w:d 0 (upd H D (.lst [])))(s:∀i c,i<=xs.length->d i c->af K c a xs)
  (t:∀i x c,xs[i]?=some x->d i c->g x (wipe σ κ) c λf n=>wipe f κ=wipe σ κ/\Ε f n λb j=>
   if b=true then ι f j λy k=>∃acc,k D=some (.lst acc)/\acc.length<bf/\d (i+1) (upd k D (.lst (acc++[y])))else d (i+1) j)(hd:∀c,d xs.length c->Qd c):
  ∃W:Nat->Nat->Hp->Prop,(∃m,W 0 m (upd H D (.lst [])))/\∀i m c,W i m c->
   ((iA K a).stop i c/\Qd c)\/((iA K a).go i c/\∃o:Hp->Prop,(∀h,o h->∃r,r<m/\W (i+1) r h)/\∀x h,(iA K a).ic i c x h->g x (wipe σ κ) h λf n=>wipe f κ=wipe σ κ/\Ε f n λb j=>
    if b=true then ι f j λy k=>∃acc,k D=some (.lst acc)/\acc.length<bf/\o (upd k D (.lst (acc++[y])))else o j):=by?
 refine%[λi m c=>m=xs.length-i/\i<=xs.length/\d i c,%[xs.length,by simp,bM _|w]|?_];rintro i m c ⟨rfl,u,p⟩;have q:=s i c u p;by_cases l:i<xs.length
 .refine .inr %[%[xs,xs[i],q|by simp[l]],d (i+1),λh v=>%[xs.length-(i+1),by omega,rfl,l|v]|λx h y=>?_];obtain⟨e,y⟩:=y;subst e;exact t i x _ (y xs q) p
 .have e:i=xs.length:=by omega
  subst e;exact .inl %[%[xs,q|bx _]|hd c p]
end
def KA(N:List Str)(b a:Scope)(own:List (Str×Nat)):Bool:=
 (match a.kind with|.function=>true|_=>false)&&(a.names.all λy=>decide (a.names.lookup y.1=some y.2))&&(own.all λp=>decide (N[p.2]?=some p.1))&&
  (a.names.all λy=>match y.2 with
   |.free=>(match b.names.lookup y.1 with|some .cell=>true|some .free=>true|_=>false)
   |.local=>decide (y.1∈own.map (·.1))||decide (y.1∉N)
   |.cell=>decide (y.1∈own.map (·.1))||decide (y.1∉N)
   |_=>true)
def nu{ν:List Str}{μ a:Scope}{own:List (Str×Nat)}(h:KA ν μ a own=true):rV ν μ a own:=by?
 unfold KA at h;simp only[o8,nY,decide_eq_true_eq]at h;obtain⟨⟨⟨c,f⟩,g⟩,d⟩:=h;refine%[?_,f,g,λy b e=>?_|λy b e=>?_]
 .split at c
  .assumption
  .cases c
 .have q:=d y b;simp only[e]at q;split at q<;>first|exact .inl (by assumption)|exact .inr (by assumption)|cases q
 .have q:=d y b;rcases e with e|e<;>(simp only[e,Bool.or_eq_true,decide_eq_true_eq]at q;exact q)
section
variable{κ:Type}[DecidableEq κ]
def dN(a:List (κ×V))(k:κ):Option V:=(a.find? λb=>decide (b.1=k)).map (·.2)
def putK(a:List (κ×V))(k:κ)(v:V):List (κ×V):=
 if(a.any λb=>decide (b.1=k))=true then a.map (λb=>if b.1=k then(b.1,v)else b)else a++[(k,v)]
theorem mC{p:κ×V}{r:List (κ×V)}{k:κ}(e:p.1=k):dN (p::r) k=some p.2:=by simp[dN,e]
theorem gS{p:κ×V}{r:List (κ×V)}{k:κ}(e:¬p.1=k):dN (p::r) k=dN r k:=by simp[dN,e]
theorem KC(k:κ):∀a:List (κ×V),(a.any λb=>decide (b.1=k))=(dN a k).isSome
 |[]=>rfl
 |p::r=>by
  rw[o9];by_cases e:p.1=k
  .grind [mC]
  .rw[gS e,bK e];exact KC k r
theorem KD(a:List (κ×V))(k:κ)(v:V):(putK a k v).length<=a.length+1:=by grind [putK]
def iy.KG{o:Option V}{u:Option Value}(r:iy o u):o.isSome=u.isSome:=by
 cases o with
 |none=>cases u with
  |none=>rfl
  |some _=>exact(r).elim
 |some _=>cases u with
  |none=>exact(r).elim
  |some _=>rfl
section
variable{O:V}{η:Value}
theorem iy.getD{o:Option V}{u:Option Value}(r:iy o u)(a:RelV O η):RelV (o.getD O) (u.getD η):=by
 cases o with
 |none=>cases u with
  |none=>exact a
  |some _=>exact(r).elim
 |some _=>cases u with
  |none=>exact(r).elim
  |some _=>exact r
def KV.val{a:List (κ×V)}{f:List (κ×Value)}(r:KV a f)(k:κ):iy (dN a k) (valueAt f k):=by?
 induction r with
 |nil=>exact wt
 |@cons p q j c h t l=>
  obtain⟨g,i⟩:=h;by_cases e:p.1=k
  .have d:=g.symm.trans e;have b:valueAt (q::c) k=some q.2:=by simp[valueAt,d]
   rw[mC e,b];exact i
  .have d:¬q.1=k:=λz=>e (g.trans z);have b:valueAt (q::c) k=valueAt c k:=by simp[valueAt,d]
   grind [gS]
theorem KV.any{a:List (κ×V)}{c:List (κ×Value)}(r:KV a c)(k:κ):(a.any λb=>decide (b.1=k))=c.any λb=>decide (b.1=k):=by
 unfold KV at r;induction r with
 |nil=>rfl
 |cons h t d=>rw[o9,o9,d,h.1]
def KV.Bz{b:List (κ×V)}{c:List (κ×Value)}(r:KV b c)(k:κ)(e:RelV O η):
  KV (b.map λa=>if a.1=k then(a.1,O)else a) (c.map λa=>if a.1=k then(a.1,η)else a):=by
 induction r with
 |nil=>exact .nil
 |@cons p q f g h t d=>
  refine .cons ?_ d
  grind
def KV.put{a:List (κ×V)}{b:List (κ×Value)}(r:KV a b)(k:κ)(c:RelV O η):KV (putK a k O) (stored b k η):=by?
 unfold putK stored;rw[r.any k];by_cases e:(b.any λd=>decide (d.1=k))=true
 .rw[aS e,aS e];exact r.Bz k c
 .rw[aE e,aE e];exact Paired.snoc r %[rfl|c]
end
theorem KV.length{a:List (κ×V)}{b:List (κ×Value)}(r:KV a b):a.length=b.length:=o5 r
end
section
variable{A:Around}{E Q:Value->aj->Prop}{H J:Hp}{K:ah}{M p Β:Pos}{O:V}{P:aC}{X:Cx}{a:ae}{b e o:Expr}{h:ax}{n:Nat}{r η:Value}{s:aj}{t:TA}{w:World}{δ:List (ae×Obj)}{ι:TE}{ξ:List Expr}{σ:St}{χ:Obj}{ψ:HO}
def uG{k:Key}(r:RelV (kV k) η):(iw P w).is k η=true:=by
 cases k with
 |inl i=>obtain⟨t,e⟩:=(r);grind [Ru]
 |inr x=>obtain⟨t,e⟩:=(r);grind [Rv]
theorem KH:∀{ks:List Key} {a:List Value},Vals (ks.map kV) a->ItemsAre (iw P w) ks a
 |[],_,r=>by cases r;exact .nil
 |k::ks,_,r=>by
  cases r with
  |cons h t=>exact .cons (uG h) (KH t)
abbrev KT(H:Hp):List (List Key×V)->List (List Key×ae×Value)->Prop:=Paired λp q=>p.1=q.1/\H q.2.1=some (.tup (p.1.map kV))/\RelV p.2 q.2.2
def KT.val{a:List (List Key×V)}{g:List (List Key×ae×Value)}(r:KT H a g)(k:List Key):iy (dN a k) ((atKey g k).map (·.2)):=by?
 induction r with
 |nil=>exact wt
 |@cons p q j c h t l=>
  obtain⟨f,m,i⟩:=h;by_cases e:p.1=k
  .have d:=f.symm.trans e;have b:atKey (q::c) k=some q.2:=by simp[atKey,d]
   rw[mC e,b];exact i
  .have d:¬q.1=k:=λz=>e (f.trans z);have b:atKey (q::c) k=atKey c k:=by simp[atKey,d]
   grind [gS]
def KT.Bz{a:List (List Key×V)}{f:List (List Key×ae×Value)}(r:KT H a f)(k:List Key)(g:RelV O η):
  KT H (a.map λc=>if c.1=k then(c.1,O)else c) (f.map (putAt k η)):=by?
 induction r with
 |nil=>exact .nil
 |@cons p q l m h t i=>
  rw[cx,cx];refine .cons ?_ i;obtain⟨b,d,j⟩:=h;unfold putAt;by_cases e:p.1=k
  .rw[aS e,aS (b.symm.trans e)];exact%[b,d|g]
  .rw[aE e,aE (λz=>e (b.trans z))];exact%[b,d|j]
def KT.put{c:List (List Key×V)}{d:List (List Key×ae×Value)}(r:KT H c d)(k:List Key)(g:H a=some (.tup (k.map kV)))(f:RelV O η):
  KT H (putK c k O) (storedH d k a η):=by?
 have e:(c.any λh=>decide (h.1=k))=(atKey d k).isSome:=by rw[KC,(r.val k).KG,Option.isSome_map]
 unfold putK storedH;rw[e];by_cases q:(atKey d k).isSome=true
 .rw[aS q,aS q];exact r.Bz k f
 .rw[aE q,aE q];exact Paired.snoc r %[rfl,g|f]
def KT.keeps{a:List (List Key×V)}{d:List (List Key×ae×Value)}(r:KT H a d)(e:∀b c,H b=some (.tup c)->J b=some (.tup c)):KT J a d:=
 Paired.AV r λf f z=>%[z.1,e _ _ z.2.1|z.2.2]
def KI(ok:cZ P w H h)(e:Rd H a ψ):eB P w H h a ψ:=e.ok ok
def BA{b:List (Key×V)}(ok:cZ P w H h)(e:Rd H a (.dK b)):b.length<=bf/\(a==iQ)=false/\∃c,KV b c/\h.DictOf (iw P w) a c:=
 KI ok e
def Ua{b:List (Key×V)}(ok:cZ P w H h)(e:H a=some (.dK b)):b.length<=bf/\(a==iQ)=false/\∃c,KV b c/\h.DictOf (iw P w) a c:=BA ok (.inl e)
theorem BB{ks:List Key}(ok:cZ P w H h)(e:H a=some (.tup (ks.map kV))):(tupleKind (iw P w)).is h ks a:=by obtain⟨i,b,r,o,c,d,n,f⟩:=(ok a _ e);exact%[o,b.toArray,n,c,d,f|by simpa using KH r]
def BC{b:List (List Key×V)}(ok:cZ P w H h)(e:Rd H a (.dT b)):b.length<=bf/\(a==iQ)=false/\
  ∃c,KT H b c/\h.DictOfH (tupleKind (iw P w)) a c:=by?
 obtain⟨z,y,c,r,o,d,f,g,i,j,k,n⟩:=(KI ok e);refine%[z,y,c,r,o,d,f,g,i,j,k,λx s=>?_|n];have all:∀{l:List _} {m:List _},KT H l m->∀x∈m,(tupleKind (iw P w)).is h x.1 x.2.1:=by
  intro l m q;induction q with
  |nil=>grind
  |@cons p q u v A t B=>
   grind [BB]
 exact all r x s
def Ub{b:List (List Key×V)}(ok:cZ P w H h)(e:H a=some (.dT b)):b.length<=bf/\(a==iQ)=false/\
  ∃xs,KT H b xs/\h.DictOfH (tupleKind (iw P w)) a xs:=BC ok (.inl e)
def rY(H:Hp)(a:ae)(y:V)(r:Option V):Prop:=
 (X2 λc k=>A3 (Rd H a (.dK c)) (y=kV k) (r=dN c k))\/X3 λc k b=>A4 (Rd H a (.dT c)) (y=.ref b) (H b=some (.tup (k.map kV))) (r=dN c k)
def rZ(H:Hp)(a:ae)(y v:V)(d:Hp):Prop:=
 (X2 λc k=>A4 (H a=some (.dK c)) (y=kV k) (c.length<bf) (d=upd H a (.dK (putK c k v))))\/
 X3 λc k b=>A5 (H a=some (.dT c)) (y=.ref b) (H b=some (.tup (k.map kV))) (c.length<bf) (d=upd H a (.dT (putK c k v)))
theorem rY.k{b:List (Key×V)}{k:Key}(e:H a=some (.dK b)):rY H a (kV k) (dN b k):=.inl %[b,k,.inl e,rfl|rfl]
theorem rZ.k{b:List (Key×V)}{k:Key}(e:H a=some (.dK b))(c:b.length<bf):rZ H a (kV k) O (upd H a (.dK (putK b k O))):=.inl %[b,k,e,rfl,c|rfl]
def Inv.big(I:Inv X δ σ H s):iQ<↥s:=by have h:=(I.mod.glob.keeps I.bk).lt;exact Nat.lt_trans (by decide) h
def KJ(I:Inv X δ σ H s)(c:oE (H a))(d:gD a s.heap h)(f:∃q,h.get? a=some q)(new:eB X.prog X.w (upd H a ψ) h a ψ):
  Inv X δ σ (upd H a ψ) {s with heap:=h,toks:=n}:=
 I.write c (.inl rfl) (λb q e z=>(d.2 b e).trans z) f new
def Uc{b:List (Key×V)}{c:List (Key×Value)}(z:b.length<=bf)(hd:(a==iQ)=false)(d:KV b c)(e:h.DictOf (iw P w) a c):
  eB P w J h a (.dK b):=%[z,hd,c,d|e]
def Ud{v:V}{Q:Unit->aj->Prop}(G:A.units+1<cLine)(I:Inv X δ σ H s)(g:rZ H a O v J)(x:RelV O η)(B:RelV v r)(h:∀C,Inv X δ σ J C->Q () C):
  wpAny (model X.prog X.w) A (setItem (.ref a) η r) Q E s:=by?
 rcases g with⟨i,k,e,m,l,n⟩|⟨i,k,b,e,m,D,l,n⟩
 .subst m n;obtain⟨z,hd,K,f,p⟩:=Ua I.aU e;have L:K.length<=bf:=by rw[<-f.length];exact z
  have t:(putK i k v).length<=bf:=by grind [KD]
  refine wpAny_setItem_pairs (uG x) p λF d w=>h _ ?_;have U:∃q,F.get? a=some q:=let%[q,_,_,j|_]:=d;%[q|j];exact KJ I (by rw[e];exact wt) w U (Uc t hd (f.put k B) d)
 .subst m n;cases(x);obtain⟨z,hd,V,f,p⟩:=Ub I.aU e;have L:V.length<=bf:=by grind [o5]
  have t:(putK i k v).length<=bf:=by grind [KD]
  refine wpAny_setItem_heap (tupleKind_room_in1 G) (BB I.aU D) p λF d w=>h _ ?_;obtain⟨q,M,N,j,P,R,S,c,T⟩:=d;refine KJ I (by rw[e];exact wt) w %[q|j] %[t,hd,_,(f.put k D B).keeps λc W Y=>?_,q,M,N,j,P,R,S|T]
  grind [aB]
def KL(i:Expr):Prop:=∀a b,subscripted i false a b=operate [a,b] (getItem a b)
def Ue{Ι:Env}{T q:String}
  (g:typeLookup (.type T) "__getitem__"=pure (some (.builtin q)))(j:KL b)
  (h:wpAny (model P w) A (eval e Ι) (λo d=>wpAny (model P w) A (eval b Ι) (λi a=>a.TypeIs o T/\wpAny (model P w) A (getItem o i) Q E a) E d) E s):
  wpAny (model P w) A (eval (.Subscript e b p) Ι) Q E s:=by?
 refine Subscript_ (jM h (λo d k=>jM k (λi a c=>?_) λt t x=>x) λt t x=>x);obtain⟨l,c⟩:=c;refine aA ?_;refine aA (wpAny_specialOf l g ?_);have n:wpAny (model P w) A (subscripted b false o i) (λr f=>wpAny (model P w) A (letTemporaryGo e o r>>=λt=>pure r) Q E f) E a:=by rw[j o i];exact wpAny_operating (jM c (λr f m=>aA (wpAny_letTemporaryGo (bh m))) λt t x=>x)
 grind [bh,aA]
inductive Ug(D:Ends)(σ:St)(v x y:V)(c:Hp):Prop
 |mk a b(d:x=.ref a)(d:rZ c a y v b)(d:D.nx σ b)
def Uh(a ty b:TE):TS:=λD σ H=>b σ H λv e=>a σ e λx c=>ty σ c λy d=>Ug D σ v x y d
def KN{i:Expr}{Ο tv:TE}(d:X.A.units+1<cLine)(f:PE X o ι)(j:PE X i Ο)(k:PE X b tv)(l:rD b (some (.Subscript o i M)) p.line X.env=pure false):
  PS X (.Assign [.Subscript o i M] b p) (Uh ι Ο tv):=by?
 intro c s σ H D I h;refine wpAny_Assign_Subscript (aZ (k c s σ H _ I h) λr L %[v,J,m,n|q]=>aZ (f c L σ J _ m q) λu K %[x,t,w,z|A]=>aZ (j c K σ t _ w A) λN P %[y,O,B,C,a,E,ex,g|F]=>?_) l;subst ex;obtain rfl:u=iO a:=z;exact Ud d B g C n λQ G=>%[σ,E,G|F]
def Ui(h:ax)(a:iQ<h.objs.size):eB P w H (h.push {cls:=.type "dict",data:=.dict #[]}) h.objs.size (.dK []):=
 %[bM _,beq_eq_false_iff_ne.mpr (kP (dn a)),[],.nil|Heap.DictOf.new h]
def Uj:TE:=λa H Q=>∀p,H p=none->Q (.ref p) (upd H p (.dK []))
def KO:PE X (.Dict [] [] p) Uj:=λa s σ H Q I h=>
 wpAny_Dict_empty %[.ref ↥s,_,I.laid (λa a q=>bL _ q) (bx _) (Ui s.heap I.big),rfl|h _ (I.aU.fresh (bx _))]
structure M2(X:Cx)(o:Expr)(m:Str)(b:Pos)(e f:Expr)(a:Pos):Prop where
 base:oA o m X.env (eval o X.env)=eval o X.env
 dH:((backTo a (bP [e,f] X.env)).all (λx=>!x.1)&&(kY a (kZ [] X.env)).all (λx=>x.1.isSome)
  &&decide (([e,f]:List Expr).length+([]:List Keyword).length+(if([]:List Keyword).isEmpty then 0 else 1)<30))=true
 line:(b.endLine==a.line)=true
 trees:backTo a (bP [e,f] X.env)=[(false,eval e X.env),(false,eval f X.env)]
def KP(H:Hp)(a:ae):Prop:=(∃b,Rd H a (.dK b))\/∃b,Rd H a (.dT b)
def Uk(I:Inv X δ σ H s)(d:KP H a):
  s.TypeIs (.ref a) "dict"/\(∀b,iO a=.ref b->∃ob,s.heap.get? b=some ob/\ob.dict=none)/\(a==iQ)=false:=by?
 rcases d with⟨f,e⟩|⟨f,e⟩
 .obtain⟨l,hd,i,l,c⟩:=BA I.aU e;refine%[c.typeIs,λb q=>?_|hd];cases q;obtain⟨ob,l,l,g,h,l⟩:=c;exact%[ob,g|h.2.1]
 .obtain⟨l,hd,j,l,c⟩:=BC I.aU e;refine%[c.typeIs,λb q=>?_|hd];cases q;obtain⟨ob,l,l,g,h,l⟩:=c;exact%[ob,g|h.2.1]
def Ul{d:V}{o:Option V}(t:A.units+1<cLine)(I:Inv X δ σ H s)(g:rY H a O o)(m:RelV O η)(n:RelV d r)(h:∀p q,Inv X δ σ H q->RelV (o.getD d) p->Q p q):
  wpAny (model X.prog X.w) A (call (.builtin "dict.get") [.ref a,η,r]) Q E s:=by?
 rcases g with⟨i,k,e,j,l⟩|⟨i,k,b,e,j,v,l⟩
 .subst j;obtain⟨z,hd,x,c,f⟩:=BA I.aU e;refine call_meetsIn Qb f.typeIs adk (adl _ _ _) (meets_dict_get_default _ a (uG m) hd r) %[_,f.mapOf|h _ _ (I.tok _) ?_];rw[l];exact(c.val k).getD n
 .subst j;cases(m);obtain⟨z,hd,w,c,f⟩:=BC I.aU e;refine call_meetsIn Qb f.typeIs adk (adl _ _ _) (meetsH_dict_get_default _ a b hd r) %[tupleKind_room_in1 t,k,w,BB I.aU v,f|h _ _ (I.tok _) ?_];rw[l];exact(c.val k).getD n
def Um(d ty e:TE):TE:=λσ H Q=>d σ H λx c=>X1 λa=>A3 (x=.ref a) (KP c a) (ty σ c λy f=>e σ f λz b=>∃o,rY b a y o/\Q (o.getD z) b)
def KQ{Ο tx:TE}(k:X.A.units+1<cLine)(l:PE X o ι)(J:PE X e Ο)(K:PE X b tx)(m:M2 X o "get" p e b M):PE X (.Call (.Attribute o "get" p) [e,b] [] M) (Um ι Ο tx):=by?
 intro c s σ H Q I h;refine wpAny_Call_method m.base m.dH m.line adm Qb PySem.F.type_dict_get (aZ (l c s σ H _ I h) λu O %[x,G,j,n,a,ex,d|q]=>?_);subst ex;obtain rfl:u=iO a:=n;obtain⟨L,r,f⟩:=Uk j d;refine%[L,r|?_];rw[m.trees];refine HI rfl (PZ (HF (aZ (J c O σ G _ j q) λP N %[y,t,v,w|A]=>
  HF (aZ (K c N σ t _ v A) λR U %[z,B,C,D,S,g|E]=>PY ?_))))
 exact Ul k C g w D λT V F i=>%[_,B,F,i|E]
def Inv.BD{t':Nat}{ch:List ae}(I:Inv X δ σ H s)(k:∀b o,b∉ch->s.heap.get? b=some o->h.get? b=some o)(d:∀b∈ch,ki X δ H b):Inv X δ σ H {s with heap:=h,toks:=t'}:=by?
 have g:∀b u,H b=some u->b∉ch:=λb u e z=>by have q:=(d b z).1;rw[q]at e;cases e
 refine I.step (λb f=>%[(d b f).2.2.2.1,(d b f).2.1,(d b f).2.2.2.2.1|(d b f).2.2.2.2.2]) (λb o m m a e m=>k b o a e) (λb o m m a e m=>%[o.slots|k b o a e])
  (λm m m m n=>n) (λb o a e=>%[o|k b o a e]) (λm m e=>e) (λm m m e=>e) (λb t e=>%[#[]|by rw[e];simp]) (λm p=>?_) (λb u e=>?_) I.bare
 .obtain⟨o,i,j,l,r⟩:=p;exact%[o,i,j,k _ o (λz=>(d _ z).2.1 rfl) l|r]
 .refine(I.aU b u e).me (λc v a q=>k c v ?_ q) (λm q=>q) λm m q=>q
  grind
def Inv.uH{t':Nat}{ch:List ae}(I:Inv X δ σ H s)(k:∀b o,b∉ch->s.heap.get? b=some o->h.get? b=some o)(g:∀b∈ch,ki X δ H b)(i:↥s<=a)
  (new:eB X.prog X.w (upd H a ψ) h a ψ):Inv X δ σ (upd H a ψ) {s with heap:=h,toks:=t'}:=by?
 have y:=I.aU.fresh i;have j:∀b u,H b=some u->b∉ch:=λb u e z=>by have q:=(g b z).1;rw[q]at e;cases e
 refine I.step (λb d=>%[(g b d).2.2.2.1,(g b d).2.1,(g b d).2.2.2.2.1|(g b d).2.2.2.2.2]) (λb o m m f e m=>k b o f e) (λb o m m f e m=>%[o.slots|k b o f e])
  (λb o m e n=>?_) (λb o f e=>%[o|k b o f e]) (λb x e=>?_) (λb o u e=>?_) (λb A e=>%[#[]|?_]) (λm w=>?_) (λb u e=>?_) I.bare
 .rw[aB (dn (fz (bU e) i))];exact n
 .grind [aB]
 .grind [aB]
 .grind [aB]
 .obtain⟨o,l,p,t,r⟩:=w;exact%[o,l,p,k _ o (λz=>(g _ z).2.1 rfl) t|r]
 .by_cases d:b=a
  .grind [ak]
  .rw[aB d]at e;refine(I.aU b u e).me (λc v f q=>k c v ?_ q) (λc q=>by grind [aB]) λc x q=>by grind [aB]
   grind
def Inv.lock(I:Inv X δ σ H s)(h:H a=some ψ)(f:oE (some ψ)):∃c,Inv X δ σ (upd H a (.dX c ψ)) s:=by?
 have x:=I.aU a ψ h;have ex:∃c,s.heap.get? a=some c:=by
  cases ψ with
  |lst i=>obtain⟨b,b,b,b,e⟩:=x;exact%[_|e]
  |dK g=>obtain⟨b,b,b,b,o,b,b,e,b⟩:=x;exact%[o|e]
  |dT g=>obtain⟨b,b,b,b,o,b,b,e,b⟩:=x;exact%[o|e]
  |set S n=>obtain⟨o,b,b,b,e,b⟩:=x;exact%[o|e]
  |ins C j fs=>obtain⟨b,b,b,e,b⟩:=x;exact%[_|e]
  |ext φ=>obtain⟨b,⟨b,e⟩,b⟩:=x;exact%[_|e]
  |_=>exact iZ f
 obtain⟨c,e⟩:=ex;have new:eB X.prog X.w (upd H a (.dX c ψ)) s.heap a (.dX c ψ):=by
  refine%[e|x.me (λb v b q=>q) (λb q=>?_) λb i q=>?_]
  .rw[aB (λz=>by rw[z,h]at q;cases q;exact f)];exact q
  .rw[aB (λz=>by rw[z,h]at q;cases q;exact f)];exact q
 exact%[c|I.write (by rw[h];exact f) (.inl rfl) (λb v b q=>q) %[c|e] new]
def Inv.Uo(I:Inv X δ σ H s)(h:H a=some ψ)(f:oE (some ψ)):∀b c,X.pM a≠some (.dX b c):=λb c e=>by have q:=I.base.k_ a b c e;rw[h]at q;cases q;exact f
def Inv.unlock(I:Inv X δ σ H s)(h:H a=some (.dX χ ψ))(A:∀g i,X.pM a≠some (.dX g i)):Inv X δ σ (upd H a ψ) s:=by?
 have t:∀b o,H b=some o->(∀g i,o≠.dX g i)->b≠a:=λb o e w z=>by grind
 have f:∀b,H b=none->b≠a:=λb e z=>by rw[z,h]at e;cases e
 refine%[I.ok,I.os,I.bare,%[I.base.keep,I.base.slot,λb o e n l=>?_,I.base.there,λb k e=>?_,λb o x e=>?_|λb y e=>?_],I.loc,I.cell,?_,λx c e=>?_,λp hp=>?_,λb o e=>?_|I.len]
 .rw[aB (f b (I.base.free b o e n l))];exact I.base.free b o e n l
 .have q:=I.base.m5 b k e
  grind [aB]
 .have q:=I.base.k_ b o x e
  grind [aB]
 .obtain⟨m,q⟩:=I.base.m6 b y e
  grind [aB]
 .rw[aB (f _ I.free)];exact I.free
 .rw[aB (f c (I.jN x c e))];exact I.jN x c e
 .obtain⟨e,n,r⟩:=I.pin p hp
  grind [aB]
 .by_cases j:b=a
  .rw[j,ak]at e;cases e;rw[j];obtain⟨d,x⟩:=I.aU a _ h;exact x.me (λc v d q=>q) (λc q=>by grind [aB]) λc k q=>by grind [aB]
  .rw[aB j]at e;exact(I.aU b o e).me (λc v d q=>q) (λc q=>by grind [aB]) λc k q=>by grind [aB]
def Up(t:TE):TE:=λσ H Q=>X2 λd u=>A3 (H d=some u) (oE (some u)) (∀a,t σ (upd H d (.dX a u)) λv b=>b d=some (.dX a u)/\Q v (upd b d u))
def Uq(h:PE X e ι):PE X e (Up ι):=by
 intro a s σ H Q I b;obtain⟨d,u,hd,c,b⟩:=b;obtain⟨f,g⟩:=I.lock hd c;refine aZ (h a s σ _ _ g (b f)) λv l %[x,k,i,r,j|q]=>?_
 exact%[x,_,i.unlock j (I.Uo hd c),r|q]
def BE{R:It->Hp->Prop}{J:It}{c:Nat->ax->Prop}(I:Inv X δ σ H s)(o:Obj)
  (T:Turn X.prog X.w X.K e J [↥s] ↥s c)(st:c 0 (s.heap.push o))(q:R J H):xC X δ σ e R (.ref ↥s) {s with heap:=s.heap.push o,toks:=n}:=by
 refine%[↥s,[↥s],c,J,H,rfl,I.kept λb ob a=>bL _ a,T,st,λb d=>?_|q];have a:=by simpa using d
 subst a;exact I.ni (bx _) (I.aU.fresh (bx _))
def uI(x:Str):It:=⟨λi b=>i<x.cps.size,λi H v a=>a=H/\∃c,x.cps[i]?=some c/\v=.str ⟨#[c]⟩,λi b=>x.cps.size<=i⟩
def KR(f:ae)(x:Str)(t:Tok)(ty:String)(g:ty="str_ascii_iterator"\/ty="str_iterator"):
  Turn P w K e (uI x) [f] f (λi h=>h.IsStrIter f ty x t i) where
 mem:=by simp
 obj:=λi h st b j=>by
  have a:b=f:=by simpa using j
  subst a;obtain⟨o,a,c,d⟩:=st;exact%[o,a|λv z=>by rw[d]at z;cases z]
 keep:=λi h m st k=>let%[o,T|r]:=st;%[o,k f (by simp) o T|r]
 item:=by?
  intro X G R J n i l s σ H E I C st L;subst G R J;obtain⟨B,D,f2,q,F,y⟩:=C f (by simp);have W:Walks X.prog X.w X.A f [f] [f] x.cps.size (SignAt x) (λi h=>h.IsStrIter f ty x t i):=by
   rcases g with a|a
   .rw[a];exact Walks.strAscii (I.ok.hd n) f x t
   .rw[a];exact Walks.strWide (I.ok.hd n) f x t
  have M:["enumerate","zip","dict_itemiterator","dict_reverseitemiterator","odict_iterator","itertools.zip_longest","itertools.pairwise"].contains ty=false:=by
   rcases g with a|a
   .rw[a];decide
   .rw[a];decide
  refine W.item i s _ _ L st λv m tk U p V=>?_;obtain⟨c,u,N,rfl⟩:=U;have Y:Inv X l σ H {s with heap:=m,toks:=tk}:=I.turned (λb o j a=>V b o (by simpa using j) a) B D q F y;obtain⟨oi,a,Z,dd⟩:=id p;exact%[_,rfl|xD (s:={s with heap:=m,toks:=tk}) a Z dd M %[.str ⟨#[c]⟩,H,Y,%[u|rfl],%[rfl,c,N|rfl],p|λb j=>(C b j).1]]
 done:=by
  intro X G R J n i l s σ H E I C st L;subst G R J;obtain⟨B,D,f2,q,F,y⟩:=C f (by simp);have S:x.cps[i]?=none:=HP L;rcases g with a|a
  .rw[a]at st;exact wpAny_pyNext_ascii_end (I.ok.hd n) st S λm O=>%[rfl|I.turned (t':=s.toks) (λb o j a=>O b o j a) B D q F y]
  .rw[a]at st;exact wpAny_pyNext_wide_end (I.ok.hd n) st S λm O=>%[rfl|I.turned (t':=s.toks) (λb o j a=>O b o j a) B D q F y]
 self:=λA i s Q E st h=>by
  rcases g with a|a
  .rw[a]at st;exact wpAny_pyIter_striter_ascii st h
  .rw[a]at st;exact wpAny_pyIter_striter_wide st h
inductive Ur(R:It->Hp->Prop)(v:V)(a:Hp):Prop
 |mk x(b:v=.str x)(b:R (uI x) a)
def Us(a:TE):TI:=λσ H R=>a σ H λv b=>Ur R v b
def BF(g:PE X e ι):PI X b e (Us ι):=by?
 intro a s σ H R I h;refine aZ (g a s σ H _ I h) λv j %[y,i,c,f,x,ex|q]=>?_
 subst ex;obtain⟨t,rfl⟩:=f;cases d:x.cps.all _
 .exact wpAny_pyIter_wide d (BE c _ (KR _ x t _ (.inr rfl)) %[_,cV _ rfl,rfl|rfl] q)
 .exact wpAny_pyIter_ascii d (BE c _ (KR _ x t _ (.inl rfl)) %[_,cV _ rfl,rfl|rfl] q)
def Ut{N:Type}{c:List (N×V)}{d:List (N×Value)}(h:KV c d):∀{i:Nat} {k:N} {v:V},c[i]?=some (k,v)->∃u,d[i]?=some (k,u)/\RelV v u:=by
 unfold KV at h;induction h with
 |nil=>intro i k v e;simp at e
 |@cons a b g l r t f=>
  intro i k v e;cases i with
  |zero=>
   simp only[HQ,adn]at e;subst e;refine%[b.2,?_|r.2];simp only[HQ];exact congrArg some (Prod.ext r.1.symm rfl)
  |succ j=>
   simp only[HR]at e⊢;exact f e
def Uu{N Ξ:Type}{G:N->Ξ->Prop}{c:List N}{d:List Ξ}(h:Paired G c d):∀{i:Nat} {a:N},c[i]?=some a->∃b,d[i]?=some b/\G a b:=by
 induction h with
 |nil=>intro i a e;simp at e
 |@cons a b c d r t f=>
  intro i g e;cases i with
  |zero=>
   simp only[HQ,adn]at e;subst e;exact%[b,rfl|r]
  |succ j=>
   simp only[HR]at e⊢;exact f e
def Inv.BG{b:List (Key×V)}(I:Inv X δ σ H s)(h:H a=some (.dX χ (.dK b))):
  (a==iQ)=false/\s.heap.get? a=some χ/\χ.ExactDict/\X3 λ(c:Array DictEntry) (f:Nat) (g:List (Key×Value))=>A4 (χ.data=.dict c f) (c.size=b.length) (KV b g) (s.heap.DictAt (iw X.prog X.w) a g f):=by?
 obtain⟨hd,z,l,g,i,m,c,f,j,k,e,r⟩:=I.aU a _ h;rw[hd]at j;cases j;refine%[l,hd,k,c,f,g,e,?_,i,χ,c,hd,k,e|r];have n:=r.2.1.length;have p:=o5 i
 grind
def BH(d:ae)(o:Obj)(a:List (Key×V)):It:=
 ⟨λi H=>H d=some (.dX o (.dK a))/\i<a.length,λi H x b=>b=H/\∃k,a[i]?=some (k,x),λi H=>H d=some (.dX o (.dK a))/\a.length<=i⟩
def KS{j:Nat}{b a:Array DictEntry}(h:χ.data=.dict b n)(c:χ.data=.dict a j):a=b/\j=n:=by grind
def Uv{es:Array DictEntry}{g:List (Key×V)}(m:ae)(q:χ.data=.dict es n):Turn P w K e (BH a χ g) [m] m (λi h=>h.IsValIter m a i g.length n) where
 mem:=by simp
 obj:=λi h st b j=>by
  have f:=by simpa using j
  obtain⟨z,f,c,Z⟩:=st
  grind
 keep:=λi h h' st k=>st.at λz f=>k m (by simp) z f
 item:=by?
  intro X B Y C hc i t s σ H E I y st D;subst B Y C;obtain⟨hd,hi⟩:=D;obtain⟨S,U,f2,F,W,G⟩:=y m (by simp);obtain⟨hs,J,hx,L,M,vs,l,N,x,T⟩:=I.BG hd;obtain⟨rfl,rfl⟩:=KS q l;obtain⟨⟨k,v⟩,r⟩:∃p,g[i]?=some p:=%[g[i]|cA hi];obtain⟨u,hu,ru⟩:=Ut x r;have O:=o5 x;rw[O]at st;refine wpAny_pyNext_values_item st T hu λh' R sb=>?_
  have I1:=I.turned (t':=s.toks) (λb ob j f=>(sb.2 b j).trans f) S U F W G;obtain⟨z,f,c,Z⟩:=id R;refine%[u,rfl|xD f c Z (by decide) %[v,H,I1,ru,%[rfl,k|r],?_|λb j=>(y b j).1]]
  grind
 done:=by intro X B Y C hc i t s σ H E I y st D;subst B Y C;obtain⟨hd,hi⟩:=D;obtain⟨S,U,f2,F,W,G⟩:=y m (by simp);obtain⟨hs,J,hx,L,M,vs,l,N,x,T⟩:=I.BG hd;obtain⟨rfl,rfl⟩:=KS q l;have O:=o5 x;rw[O]at st;exact wpAny_pyNext_values_end (I.ok.hd hc) st T (mU (by omega)) λh' eb=>%[rfl|I.turned (λb ob j f=>eb b ob j f) S U F W G]
 self:=λA i s Q E st h=>wpAny_pyIter_valiter st h
inductive Uw(R:It->Hp->Prop)(x:V)(b:Hp):Prop
 |mk d o a(c:x=.ref d)(c:b d=some (.dX o (.dK a)))(c:R (BH d o a) b)
def Ux(a:TE):TI:=λσ H R=>a σ H λx b=>Uw R x b
def Uy(D:PE X e ι)(f:oA e "values" X.env (eval e X.env)=eval e X.env:=by rfl)(g:(p.endLine==M.line)=true:=by rfl):PI X b (.Call (.Attribute e "values" p) [] [] M) (Ux ι):=by?
 intro c s σ H R I h;refine wpAny_Call_method f rfl g adm F.slot_dict_values F.type_dict_values (aZ (D c s σ H _ I h) λu j %[x,C,m,n,d,o,r,ex,hd|q]=>?_);subst ex;obtain rfl:u=iO d:=n;obtain⟨t,v,E,G,J,w,k,y,z,i⟩:=m.BG hd;have A:=o5 z;refine%[i.dictOf.typeIs,i.dictOf.mapOf.noDict|?_];have B:Inv X c σ C {j with heap:=j.heap.push {cls:=.type "dict_values",data:=.fields #[.ref d]}}:=m.kept λa ob q=>bL _ q
 have l:wpAny (model X.prog X.w) X.A (pyIter (.ref ↥j)) (xC X c σ b R) X.xe {j with heap:=j.heap.push {cls:=.type "dict_values",data:=.fields #[.ref d]}}:=by refine wpAny_pyIter_values (d:=d) %[_,cV _ rfl,rfl|rfl] (i.push _) (BE B _ (Uv _ k) %[_,cV _ rfl,rfl|?_] q);rw[A]<;>rfl
 exact method_meetsIn F.slot_dict_values F.entry_dict_values rfl (ac' %[rfl,i.dictOf.typeIs,F.args_dict_values_1 _,_,meets_dict_values _ d t,%[w|i.dictOf]|l])
def uJ(K:ah)(a:ae):It:=
 ⟨λi H=>X2 λ(b:List V) (x:V)=>A2 (af K H a b) (b[i]?=some x),λi H v c=>X2 λT x=>A4 (v=.ref T) (H T=none) (c=upd H T (.tup [.int (i:Nat),x])) (∀b,af K H a b->b[i]?=some x),λi H=>∃b:List V,af K H a b/\b.length<=i⟩
def Uz(a e j:ae):
  Turn P w K (.Tuple ξ n p) (uJ K a) [e,j] e (λi h=>(∃f,IsEnum h e j ((i:Nat):Int) f)/\h.IsListIter j a i/\e≠j) where
 mem:=by simp
 obj:=λi h st b m=>by
  obtain⟨⟨f,g⟩,⟨o,U,C,hd⟩,_⟩:=st
  grind
 keep:=λi h V st k=>let%[%[f|g],W|d]:=st;%[%[f|k e (by simp) _ g],W.at λo q=>k j (by simp) o q|d]
 item:=by?
  intro X D T F C i r s σ H E I B st G;subst D T F;obtain⟨⟨f,g⟩,l,d⟩:=st;obtain⟨xs,x,y,J⟩:=G;obtain⟨L,M,c,Y⟩:=I.list y;obtain⟨u,Z,ru⟩:=M.get J;have N:e<↥s:=bU g;have aa:j<↥s:=by obtain⟨_,q,_⟩:=l;exact bU q
  refine wpAny_pyNext_enum_item g l c.isList (x:=u) (by simpa using Z) d λV U t hT ao hk=>?_;refine%[_,rfl|wpAny_letOwnedTupleGo_enum U λv ar O=>?_];have R:=(O.2 _ (j5 N)).trans hT;have new:eB X.prog X.w (upd H ↥s (.tup [.int (i:Nat),x])) v ↥s (.tup [.int (i:Nat),x]):=
   %[by show 2<=bf;decide,[.int i s.toks,u],.cons %[_|rfl] (.cons ru .nil)|%[_,R,rfl,_|rfl]]
  have I1:Inv X r σ _ {s with heap:=v,toks:=s.toks+1}:=
   I.uH (ch:=[e,j]) (λb ob m q=>(O.2 b (λz=>m (by simp[z]))).trans (hk b ob (λz=>m (by simp[z])) (λz=>m (by simp[z])) q)) B (bx _) new
  refine%[.ref ↥s,_,I1,rfl,%[_,x,rfl,I.aU.fresh (bx _),rfl|λys hy=>by rw[I.pP hy y];exact J],%[%[u|?_],t.at λo q=>(O.2 j (kP d)).trans q|d]|λb m=>?_]
  .grind
  .have S:b<↥s:=by grind
   rw[aB (dn S)];exact(B b m).1
 done:=by intro X D T F C i r s σ H E I B st G;subst D T F;obtain⟨⟨f,g⟩,l,d⟩:=st;obtain⟨xs,y,J⟩:=G;obtain⟨L,M,c,Y⟩:=I.list y;obtain⟨f0,f1,f2,f3,f4,f5⟩:=B j (by simp);have hl:=M.length;exact wpAny_pyNext_enum_end (I.ok.hd C) g l c.isList (by simp;omega) λV eb=>%[rfl|I.turned (t':=s.toks) (λb o m q=>eb b o m q) f0 f1 f3 f4 f5]
 self:=λA i s Q E st h=>let%[%[_|g]|_]:=st;wpAny_pyIter_enum g h
inductive KU(R:It->Hp->Prop)(K:ah)(b:Hp):List V->Prop
 |mk{a:_}{c:_}(d:af K b a c)(d:R (uJ K a) b):KU R K b ([.ref a])
def UA(K:ah)(a:TA):TI:=λσ H R=>a σ H λb c=>KU R K c b
def BI(k:Gl X "enumerate")(D:X.mg "enumerate"=none)(l:PA X [e] t)(m:bP [e] X.env=[(false,eval e X.env)]:=by rfl):
  PI X (.Tuple ξ n Β) (.Call (.Name "enumerate" p) [e] [] M) (UA X.K t):=by?
 intro d s σ H R I h;refine Call_ (m9 I k D boot_enumerate (tR (aZ (l M d s σ H _ I h) λL c %[E,C,g,o|u]=>?_) m rfl));obtain @⟨a,xs,v,q⟩:=u;cases o with
 |cons r w=>
  cases w;cases r;obtain⟨x,F,y,G⟩:=g.list v;refine call_enumerate_list y.isList λJ j i z A=>wpAny_pyIter_enum j ?_
  have B:=g.kept (t':=c.toks) A;refine%[↥c+1,[↥c+1,↥c],_,_,C,rfl,B,Uz a _ ↥c,%[%[.none|j],i|adp _],λb K=>?_|q];have f:↥c<=b:=by grind
  exact g.ni f (g.aU.fresh f)
def BJ:l_ "zip"=some (.type "zip"):=by decide+kernel
def p_(K:ah)(a b:ae):It:=
 %[λi H=>X4 λ(d c:List V) (x y:V)=>A4 (af K H a d) (af K H b c) (d[i]?=some x) (c[i]?=some y),
  λi H v e=>X3 λT x y=>A5 (v=.ref T) (H T=none) (e=upd H T (.tup [x,y])) (∀d,af K H a d->d[i]?=some x) (∀c,af K H b c->c[i]?=some y)|
  λi H=>X2 λ(d c:List V)=>A3 (af K H a d) (af K H b c) (d.length<=i\/c.length<=i)]
def UB{D L f g l z:ae}(d:ZipApart z D l g L a f):
  Turn P w K (.Tuple ξ n p) (p_ K a f) [z,D,l,g,L] z (λi h=>IsZip h z D l .none/\d_ h D (.ref g) (.ref L)/\(X2 λx y=>d_ h l x y)/\h.IsListIter g a i/\h.IsListIter L f i) where
 mem:=by simp
 obj:=λi h st c Y=>by
  obtain⟨G,m,⟨x,y,t⟩,⟨o1,e1,b,d1⟩,⟨o2,e2,b,d2⟩⟩:=st
  grind
 keep:=λi h h' st k=>by obtain⟨G,m,⟨x,y,t⟩,M,N⟩:=st;exact%[k z (by simp) _ G,k D (by simp) _ m,%[x,y|k l (by simp) _ t],M.at λo q=>k g (by simp) o q|N.at λo q=>k L (by simp) o q]
 item:=by?
  intro X Z hw hK Y i U s σ H E I W st hg;subst Z hw hK;obtain⟨G,m,⟨x0,y0,t⟩,M,N⟩:=st;obtain⟨xs,ys,x,y,B,C,hx,hy⟩:=hg;obtain⟨R,rv,e,b⟩:=I.list B;obtain⟨F,J,p2,b⟩:=I.list C;obtain⟨u,hu,ru⟩:=rv.get hx;obtain⟨u2,aa,ao⟩:=J.get hy;have S:z<↥s:=bU G;refine wpAny_pyNext_zip_item d G m t M N e.isList p2.isList (x:=u) (y:=u2) (by simpa using hu) (by simpa using aa) λh' z' ar av az hT a7 V=>?_
  refine%[_,rfl|wpAny_letOwnedTupleGo_zip z' λa0 a3 O=>?_];have a4:=(O.2 _ (j5 S)).trans hT;have new:eB X.prog X.w (upd H ↥s (.tup [x,y])) a0 ↥s (.tup [x,y]):=
   %[by show 2<=bf;decide,[u,u2],.cons ru (.cons ao .nil)|%[_,a4,rfl,_|rfl]]
  have I1:=
   I.uH (t':=s.toks) (ch:=[z,D,l,g,L]) (λc o v q=>(O.2 c (λr=>v (by simp[r]))).trans (V c o (λr=>v (by simp[r])) (λr=>v (by simp[r])) (λr=>v (by simp[r])) (λr=>v (by simp[r])) q)) W (bx _) new
  refine%[.ref ↥s,_,I1,rfl,%[_,x,y,rfl,I.aU.fresh (bx _),rfl,λj hl=>by rw[I.pP hl B];exact hx|λj hl=>by rw[I.pP hl C];exact hy],%[a3,?_,%[u,u2|?_],?_|?_]|λc T=>?_]
  .exact(O.2 _ d.TIz).trans (V _ _ d.TIz d.TITO d.TIi1 d.TIi2 m)
  .exact(O.2 _ d.TOz).trans ar
  .exact av.at λo q=>(O.2 _ d.i1z).trans q
  .exact az.at λo q=>(O.2 _ d.i2z).trans q
  .have a5:c<↥s:=by
    have e':=by simpa using T
    rcases e' with q|q|q|q|q
    .rw[q];exact S
    .rw[q];exact bU m
    .rw[q];exact bU t
    .rw[q];obtain⟨b,e1,b⟩:=M;exact bU e1
    .rw[q];obtain⟨b,e2,b⟩:=N;exact bU e2
   rw[aB (dn a5)];exact(W c T).1
 done:=by
  intro X Z hw hK Y i U s σ H E I W st hg;subst Z hw hK;obtain⟨G,m,⟨x0,y0,t⟩,M,N⟩:=st;obtain⟨xs,ys,B,C,a6⟩:=hg;obtain⟨R,rv,e,b⟩:=I.list B;obtain⟨F,J,p2,b⟩:=I.list C;have l1:=rv.length;have l2:=J.length;have he:R.toArray[i]?=none\/F.toArray[i]?=none:=by grind
  exact wpAny_pyNext_zip_end (I.ok.hd Y) d G m t M N e.isList p2.isList he λh' V=>%[rfl|I.BD (t':=s.toks) (λc o v q=>
   V c o (λr=>v (by simp[r])) (λr=>v (by simp[r])) (λr=>v (by simp[r])) (λr=>v (by simp[r])) q) W]
 self:=λA i s Q E st h=>xn st.1 h
inductive KW(R:It->Hp->Prop)(K:ah)(c:Hp):List V->Prop
 |mk{a:_}{b:_}{e:_}{d:_}(f:af K c a e)(f:af K c b d)(f:R (p_ K a b) c):KW R K c ([.ref a,.ref b])
def UC(K:ah)(a:TA):TI:=λσ H R=>a σ H λb c=>KW R K c b
def BK(A:Gl X "zip")(T:X.mg "zip"=none)(B:PA X [e,b] t)
  (C:bP [e,b] X.env=(false,eval e X.env)::bP [b] X.env:=by rfl)(k:(backTo M (bP [b] X.env)).any (·.1)=false:=by rfl):
  PI X (.Tuple ξ n Β) (.Call (.Name "zip" p) [e,b] [] M) (UC X.K t):=by?
 intro j s σ H R I h;refine Call_ (m9 I A T BJ (tR (aZ (B M j s σ H _ I h) λus f %[V,U,g,D|E]=>?_) C k));obtain @⟨a,d,xs,W,l,m,q⟩:=E;cases D with
 |cons r o=>
  cases o with
  |cons F o=>
   cases o;cases r;cases F;obtain⟨G,Y,w,Z⟩:=g.list l;obtain⟨x,J,y,Z⟩:=g.list m;have la:=w.lt;have K:=y.lt;refine call_zip_2 w.isList y.isList λZ z u v L N O P=>xn z ?_
   have Q:=g.kept (t':=f.toks) P;refine%[↥f+4,[↥f+4,↥f+2,↥f+3,↥f,↥f+1],_,_,U,rfl,Q,UB (PySem.W.ktu_apart ↥f a d la K),%[z,u,%[_,_|v],L|N],λc S=>?_|q];have i:↥f<=c:=by grind
   exact g.ni i (g.aU.fresh i)
end
end L2
namespace Bits
open PySem PyProof.Rows
end Bits
namespace TL
open PySem PySem.Builtin PySem.Builtin.Str PySem.StrLaws
abbrev tl(x:Str):List Nat:=x.cps.toList
theorem gU(x:Str):x.length=(tl x).length:=by simp[Str.length]
theorem nA{x y:Str}(h:tl x=tl y):x=y:=Str.ext' (Array.toList_inj.mp h)
theorem iD(x y:Str):tl (x++y)=tl x++tl y:=by grind [Str.cps_append]
def pre(S l:List Nat):Bool:=l.take S.length==S
def fC(S:List Nat):Nat->List Nat->List Nat->List (List Nat)
 |_,acc,[]=>[acc]
 |0,acc,c::r=>if pre S (c::r)=true then acc::fC S (S.length-1) [] r else fC S 0 (acc++[c]) r
 |k+1,acc,_::r=>fC S k acc r
theorem KY(S:List Nat)(k:Nat)(a:List Nat):fC S k a []=[a]:=by cases k<;>rfl
def KZ{S a r:List Nat}{c:Nat}(h:pre S (c::r)=true):fC S 0 a (c::r)=a::fC S (S.length-1) [] r:=by show(if pre S _=true then a::fC S _ [] r else fC S 0 _ r)=_;rw[aS h]
theorem K1{S a r:List Nat}{c:Nat}(h:pre S (c::r)=false):fC S 0 a (c::r)=fC S 0 (a++[c]) r:=by
 show(if pre S _=true then a::fC S _ [] r else fC S 0 _ r)=_
 grind
theorem K2(S:List Nat):∀(k:Nat) (a l:List Nat),fC S k a l=fC S 0 a (l.drop k)
 |0,_,_=>by rw[ads]
 |k+1,a,[]=>by rfl
 |k+1,a,c::r=>by exact K2 S k a r
theorem UD{S:List Nat}(a:S≠[]):pre S []=false:=by
 cases S with
 |nil=>exact aT rfl a
 |cons s S=>rfl
def UE{L:List Nat}{a:Nat}(h:a<L.length):∃c,L.drop a=c::L.drop (a+1):=%[L[a]|tU h]
theorem BL(S L:List Nat):∀(m a:Nat) (b:List Nat),a+m<=L.length->(∀k,a<=k->k<a+m->pre S (L.drop k)=false)->
  fC S 0 b (L.drop a)=fC S 0 (b++(L.drop a).take m) (L.drop (a+m))
 |0,a,b,_,_=>by grind
 |m+1,a,b,h,f=>by
  have d:a<L.length:=by omega
  obtain⟨c,e⟩:=UE d;have g:=BL S L m (a+1) (b++[c]) (by omega) (λk i j=>f k (by omega) (by omega))
  grind [K1]
def UG(L:List Nat)(a b:Nat):(L.drop a).drop b=L.drop (a+b):=by cbv
theorem UH{S L:List Nat}(b:S≠[]){c:Nat}{a:List Nat}(h:pre S (L.drop c)=true):fC S 0 a (L.drop c)=a::fC S 0 [] (L.drop (c+S.length)):=by
 rw[<-UG];cases e:L.drop c with
 |nil=>grind [UD]
 |cons d r=>
  rw[e]at h;rw[KZ h,K2];cases S with
  |nil=>exact aT rfl b
  |cons s S=>rfl
theorem K3{x y:Str}(b:tl y≠[])(i:Nat):At x y x.length i↔pre (tl y) ((tl x).drop i)=true:=by?
 have d:=gU x;have f:=gU y;constructor
 .intro h;have a:=h.2;rw[subAt_eq]at a;exact a
 .intro h;have e:=eq_of_beq h;have c:=congrArg eI e;rw[jK,q0]at c;have g:=wD.mpr b;refine%[by omega|?_]
  grind [subAt_eq]
def K4{x y:Str}(a:tl y≠[]){i:Nat}(h:¬At x y x.length i):pre (tl y) ((tl x).drop i)=false:=by grind [K3]
theorem uK{y:Str}(a:tl y≠[]):1<=y.length:=by grind [gU]
theorem K5(x:Str)(i j:Nat):tl (strSub x i j)=((tl x).drop i).take (j-i):=strSub_toList x i j
theorem UI(x:Str)(i:Nat):tl (strSub x i x.length)=(tl x).drop i:=by grind [K5,gU,q0]
theorem K6{x y:Str}(d:tl y≠[]):∀(b:List Nat) (a f:Nat),a<=(tl x).length->ChainG x y x.length a b f->(∀k,f<=k->¬At x y x.length k)->
  (partsFrom x y.length a b).map tl=fC (tl y) 0 [] ((tl x).drop a)
 |[],a,f,j,h,g=>by?
  have e:f=a:=h;subst e;show[tl _]=_;have run:=BL (tl y) (tl x) ((tl x).length-f) f [] (by omega) (λk i z=>K4 d (g k i))
  grind [adt,KY,q0,UI]
 |c::r,a,f,j,h,g=>by?
  obtain⟨i,l,m,n⟩:=h;have p:=l.1;have q:=gU x;have s:=gU y;have t:=K6 d r _ f (by omega) n g;show tl _::(partsFrom x y.length _ r).map tl=_;have run:=BL (tl y) (tl x) (c-a) a [] (by omega) (λk o u=>K4 d (m k o (by omega)));have v:a+(c-a)=c:=by omega
  grind [UH,K3,K5]
def K7(x y:Str)(e:tl y≠[])(k:¬mV x<mV y):(mW x y).map tl=fC (tl y) 0 [] (tl x):=by?
 obtain⟨f,g,h⟩:=occ_tight x y (uK e);have b:=K6 e _ 0 f (bM _) g h;rw[ads]at b;have a:occurrences x y 0 x.length _=[]->[x].map tl=fC _ 0 [] _:=λd=>by rw[d]at b;rw[<-b];show[tl x]=[tl _];rw[sub_whole]
 unfold mW;by_cases i:(decide (x.length<y.length)||decide (mV x<mV y))=true
 .rw[aS i];have j:x.length<y.length:=by grind
  refine a ?_;cases d:occurrences x y 0 x.length _ with
  |nil=>rfl
  |cons c r=>
   rw[d]at g;have l:=g.2.1.1;omega
 grind [partsBetween_eq]
def K8{x y:Str}(h:y.cps.all (· <256)=true):¬mV x<mV y:=by
 have e:mV y=1:=by unfold mV;rw[aS h]
 rw[e];unfold mV;split
 .omega
 .split<;>omega
def dQ(S:List Nat):List (List Nat)->List Nat
 |[]=>[]
 |[p]=>p
 |p::q::r=>p++(S++dQ S (q::r))
theorem qa(y:Str):∀parts:List Str,tl (Str.join y parts)=dQ (tl y) (parts.map tl)
 |[]=>rfl
 |[_]=>rfl
 |x::z::r=>by show tl (x++y++Str.join y _)=tl x++(tl y++dQ _ ((z::r).map tl));rw[iD,iD,qa y _,lW]
def join_eq(y:Str)(parts:List Str):pd y parts=Str.join y parts:=glued_eq_join y parts
def i8(n:Nat):List Nat:=(wF 10 n).map Qc
theorem BM(n:Nat):tl (Qe (toString ((n:Nat):Int)))=i8 n:=PySem.W.KIN.signs_num n
theorem K9:∀d:Nat,d<10->(adu d).toNat=48+d:=by decide
def BN{n:Nat}(h:n<10):i8 n=[48+n]:=by
 unfold i8
 grind [adv,K9]
def BO{n:Nat}(h:10<=n):i8 n=i8 (n/10)++[48+n%10]:=by? have a:n%10<10:=tV n (by decide);have t:wF 10 (n/10)++wF 10 _=wF 10 _:=Nat.toDigits_append_toDigits (by decide) (by omega) a;rw[Nat.div_add_mod]at t;show(wF 10 n).map Qc=_;rw[<-t,cF,adv a];show(wF 10 _).map Qc++[(adu _).toNat]=_;rw[K9 _ a]<;>rfl
theorem UJ(n:Nat):NumText.AllDigits (i8 n):=by
 induction n using Qg with
 |_ n b=>
  by_cases h:n<10
  .rw[BN h];intro c a
   grind
  .rw[BO (by omega)];intro c a;rcases eF.mp a with a|a
   .exact b _ (by omega) c a
   grind
theorem UK(n:Nat):i8 n≠[]:=by
 by_cases h:n<10
 all_goals simp_all [BN,BO]
theorem UL(n:Nat):NumText.digitsVal (i8 n)=n:=PySem.W.KIN.val_back n
def UM{n k:Nat}(a:0<k)(h:n<10^k):(i8 n).length<=k:=by
 have z:=PyProof.Rows.toString_length_le (v:=(n:Int)) (by omega) a (by grind)
 grind [gU,BM]
theorem UN{n:Nat}(h:(i8 n).length<=4300):intText? (Qe (toString ((n:Nat):Int)))=some (n:Int):=by grind [intText_digits,BM,UJ,UK,gU,UL]
end TL
namespace L2
open PySem PySem.Spec PyProof.Rows
theorem uL:∀l:List (Str×Tok),Vals ((l.map (·.1)).map V.str) (strValues l)
 |[]=>.nil
 |p::r=>.cons %[p.2|rfl] (uL r)
theorem BP:∀{a:List Str} {b:List Value},Vals (a.map V.str) b->StrsAre b a
 |[],_,.nil=>.nil
 |y::a,_,.cons r t=>by obtain⟨k,rfl⟩:=r;exact .cons y k (BP t)
def BQ(a:List Str):Hp->VK->Prop:=λH Q=>∀p,H p=none->Q (.ref p) (upd H p (.lst (a.map V.str)))
section
variable{M p:Pos}{X:Cx}{e o:Expr}{Ο ι:TE}
def BR{H:Hp}{n:Nat}{s:aj}{δ:List (ae×Obj)}{ν:List Str}{σ:St}{Q:VK}{l:List (Str×Tok)}(I:Inv X δ σ H s)(e:l.map (·.1)=ν)(a:ν.length<=bf)(h:BQ ν H Q):
  EP X δ σ Q (.ref ↥s) {s with toks:=n,heap:=s.heap.push {cls:=.type "list",data:=.seq (strValues l).toArray}}:=by
 have hp:=I.aU.fresh (bx _);refine%[.ref ↥s,upd H ↥s (.lst _),I.laid (λb u q=>bL _ q) (bx _) %[by grind,strValues l,_,?_|cV _ rfl],rfl|h _ hp]
 grind [uL]
def UO:rR X "str.split" (λx i H Q=>X2 λa b=>A5 (x=.str a) (i=[.str b]) ((b.length==0)=false) (a.length+2<=bf) (BQ (mW a b) H Q)):=by?
 intro g s σ H x i v n Q I j e h;obtain⟨a,b,rfl,rfl,f,k,h⟩:=h;obtain⟨t,rfl⟩:=j;cases e with
 |cons l e=>
  cases e;obtain⟨u,rfl⟩:=l;have d:=bq (PyProof.Rows.split_le a b) k;have m:(Builtin.Str.partsBetween a (adw a b 0 a.length (a.length+1)) b.length).length<=bf:=by grind [StrLaws.occ_length_le,length_partsBetween]
  cases c:(decide (a.length<b.length)||decide (mV a<mV b))
  .cases hf:(adw a b 0 a.length _).isEmpty
   .refine pI HS (typeIs_str _ _ _) Qh (Qi _ _) (meets_str_split_sep a b t u c f hf (by omega) m) ?_;rw[strsFrom_eq];exact BR I ((numbered_texts _ _).trans ((aE (ne_true_of_eq_false c)).trans (aE (ne_true_of_eq_false hf))).symm) d h
   .refine pI HS (typeIs_str _ _ _) Qh (Qi _ _) (meets_str_split_not_found a b t u c f hf) ?_;exact BR (l:=[(a,t)]) I ((aE (ne_true_of_eq_false c)).trans (aS hf)).symm d h
  .refine pI HS (typeIs_str _ _ _) Qh (Qi _ _) (meets_str_split_cannot_occur a b t u c) ?_;exact BR (l:=[(a,t)]) I (aS c).symm d h
def UP:rR X "str.join" (λx i H Q=>X2 λa p=>X1 λ(b:List Str)=>A5 (x=.str a) (i=[.ref p]) (af X.K H p (b.map V.str)\/bN X.K H p (b.map V.str)) ((b.map (·.length)).sum+b.length*a.length<=16777216) (Q (.str (pd a b)) H)):=by?
 intro g s σ H x i v w Q I j e h;obtain⟨a,p,b,rfl,rfl,hp,f,h⟩:=h;obtain⟨t,rfl⟩:=j;cases e with
 |cons l e=>
  cases e;cases l;rcases hp with hp|hp
  .obtain⟨c,r,⟨o,n,m,q,y,hd⟩,y⟩:=I.list hp;exact PyProof.Rows.join_list %[o,m,q,n|hd] (by grind [BP]) f λd k=>%[.str _,H,I.tok k,%[d|rfl]|h]
  .obtain⟨c,r,u,y⟩:=I.tuple hp;exact PyProof.Rows.join_tuple u (by exact BP r) f λd k=>%[.str _,H,I.tok k,%[d|rfl]|h]
def UQ:iC X (.type "int") (λd H Q=>X2 λa n=>A4 (d=[.str a]) (adx a=some n) (a.length<=640) (Q (.int n) H)):=by
 intro c s σ H d i Q I b h;obtain⟨a,n,rfl,e,f,h⟩:=h;cases b with
 |cons g b=>
  cases b;obtain⟨t,rfl⟩:=g;exact PySem.W.KIN.call_text e f %[.int n,H,I.tok _,%[_|rfl]|h]
def xX(r:V->List V->Hp->VK->Prop)(to te:TE):TE:=λσ H Q=>to σ H λx c=>(∃a,x=.str a)/\te σ c λy b=>r x [y] b Q
def K_{x:Str}{j:String}{r:V->List V->Hp->VK->Prop}(slot:Slot "str" x j)(ty:typeOf (.builtin j)=pure (.type "method_descriptor"))(g:rR X j r)(l:PE X o ι)(C:PE X e Ο)
  (m:bP [e] X.env=[(false,eval e X.env)]:=by rfl)(d:oA o x X.env (eval o X.env)=eval o X.env:=by rfl)(f:(p.endLine==M.line)=true:=by rfl):
  PE X (.Call (.Attribute o x p) [e] [] M) (xX r ι Ο):=by?
 intro c s σ H Q I h;refine PySem.Call_method1 d m f (aZ (l c s σ H _ I h) λv E %[b,B,n,k|i]=>?_);obtain⟨⟨a,rfl⟩,i⟩:=i;obtain⟨t,rfl⟩:=_root_.id k;refine%["str",_,F.plainAttrs_str,slot,ty,typeIs_str _ _ _,(λJ e=>nomatch e)|HI rfl (PZ (HF ?_))];exact aZ (C c E σ B _ n i) λu D %[y,q,w,z|A]=>PY (g c D σ q _ [y] _ [u] Q w k (.cons z .nil) A)
def K'(f:PE X o ι)(h:PE X e Ο)(g:bP [e] X.env=[(false,eval e X.env)]:=by rfl)(c:oA o "split" X.env (eval o X.env)=eval o X.env:=by rfl)(d:(p.endLine==M.line)=true:=by rfl):
  PE X (.Call (.Attribute o "split" p) [e] [] M) (xX (λx i H Q=>X2 λa b=>A5 (x=.str a) (i=[.str b]) ((b.length==0)=false) (a.length+2<=bf) (BQ (mW a b) H Q)) ι Ο):=
 K_ HS F.type_str_split UO f h g c d
def xY(g:PE X o ι)(i:PE X e Ο)(h:bP [e] X.env=[(false,eval e X.env)]:=by rfl)(c:oA o "join" X.env (eval o X.env)=eval o X.env:=by rfl)(d:(p.endLine==M.line)=true:=by rfl):
  PE X (.Call (.Attribute o "join" p) [e] [] M) (xX (λx j H Q=>X2 λa b=>X1 λ(f:List Str)=>A5 (x=.str a) (j=[.ref b]) (af X.K H b (f.map V.str)\/bN X.K H b (f.map V.str)) ((f.map (·.length)).sum+f.length*a.length<=16777216) (Q (.str (pd a f)) H)) ι Ο):=
 K_ F.slot_str_join F.type_str_join UP g i h c d
def La:dE X (gE .In) (λx y H Q=>X2 λ(c:Nat) (z:Str)=>A3 (x=.str ⟨#[c]⟩) (y=.str z) (Q (.bl (decide (c∈z.cps.toList))) H)):=by intro a s σ H x y v u Q I b d h;obtain⟨c,z,rfl,rfl,q⟩:=h;obtain⟨t,rfl⟩:=b;obtain⟨e,rfl⟩:=d;exact PyProof.Rows.in_str (dF I q (PySem.StrLaws.found_one z c).symm)
end
end L2
namespace Att
open PySem PySem.W PySem.Calls PyProof.Rows
end Att
namespace L2
open PySem PySem.Spec PyProof.Rows
def inClass(s:Stmt)(j:Nat):Stmt:=match s with
 |.ClassDef _ _ _ body _ _ _ _ _ _ _=>body.getD j (.Pass %[0,0,0|0])
 |_=>.Pass %[0,0,0|0]
def ko(s:Stmt):Arguments:=match s with
 |.FunctionDef _ a _ _ _ _ _ _ _ _=>a
 |_=>{posonlyargs:=[],args:=[],vararg:=none,kwonlyargs:=[],kw_defaults:=[],kwarg:=none,defaults:=[]}
def jz(s:Stmt):List Stmt:=match s with
 |.FunctionDef _ _ b _ _ _ _ _ _ _=>b
 |_=>[]
def aM(s:Stmt):Scope:=match s with
 |.FunctionDef _ _ _ _ _ _ sc _ _ _=>sc
 |_=>{kind:=.function,names:=[],isGenerator:=false,isCoroutine:=false}
abbrev aR:kj:=λa a a a a a=>False
abbrev E0:XK:=λa a a=>False
section
variable{H J:Hp}{K:ah}{X:Cx}{a f l:ae}{j n:Nat}{m x:Str}{y:aK}{Γ:Stmt}{ν:List Str}
def r_:Passes aR X E0:=λa a a a a a a h=>h.elim
structure aH(K:ah)(x a:Str)(st:Stmt)(f:ae)(e:aK):Prop where
 ex:∃(g:Value) (h:Option ae) (kV d i:Value) (j:Option ae) (b ct:Value) (c:Array (Option Value)),
  e=j6 x a (ko st) (jz st) (aM st) .none kV d i j b ct/\K.lookup f=some %[g,h,.func e|c]/\wA K b a=true
 kp:mT K (.ref f)=true
theorem aH.ok{P:aC}{h:ax}{r:Str->Option Value}{w:World}{e:List Str}{j:Sp}(F:aH K x m Γ f y)(S:aV ν e (aM Γ))(len:∀c H Q E,j c H Q E->c.length=e.length)
  (d:∀(b:Value) (A:Around) (outer:List Env) (s:aj) (H:Hp) (c:List V) (Q:VK) (E:XK),cY n (A.deeper (envOfC m (aM Γ) ↥s f b))->j c H Q E->
   ∃t,jx (pV aR P w K r h ν m (aM Γ) f b A outer s H E).um (jz Γ) t/\t {nx:=λI l=>Q .bB l,rt:=Q} (start ν c) H):aJ P w K r h aR (n+1) f y e j:=by
 obtain⟨v,z,kV,u,B,C,b,ct,o,rfl,lk,g⟩:=F.ex;refine SX lk g S len λA outer s H c Q E p i=>?_
 obtain⟨t,a,q⟩:=d b A outer s H c Q E p i;exact%[t,a.um|q]
def aH.binds(F:aH K x m Γ f y)
  (h:∀(kV b c:Value) (d:Option ae) (a ct:Value) (e:List Value),e.length=ν.length->bindArgs (j6 x m (ko Γ) (jz Γ) (aM Γ) .none kV b c d a ct) %[e|[]]=pure (ν.zip e)):Binds K y ν []:=by
 obtain⟨j,k,kV,b,c,d,a,ct,g,rfl,lk,i⟩:=F.ex;exact .all (h kV b c d a ct)
def BS{h g:Option ae}{d:Array (Option Value)}{η kV b e a ct:Value}(l:K.lookup f=some %[η,h,.func (j6 x m (ko Γ) (jz Γ) (aM Γ) .none kV b e g a ct)|d])
  (c:wA K a m=true)(k:mT K (.ref f)=true):aH K x m Γ f (j6 x m (ko Γ) (jz Γ) (aM Γ) .none kV b e g a ct):=%[%[η,h,kV,b,e,g,a,ct,d,rfl,l|c]|k]
def Lb{A:Around}{k:Nat}(hr:cY k A):A.units+1<cLine:=iP (ady (by decide) _) hr.units
def uM(h:n<=1000):n<bf:=iP h (by decide)
def pv{p:Pos}(i:Nat)(b:X.N[i]?=some x:=by rfl)(c:rK X.env.scope x:=by first|exact Ak rfl|exact rf (Ak rfl)|exact rf (rf rfl))(hd:(x==("__debug__":Str))=false:=by decide)
  (a:(x==("__classdict__":Str))=false:=by decide):PE X (.Name x p) (cf i):=RC b c hd a
def bt{A B:Prop}(h:B):if false=true then A else B:=by grind
def a_{A B:Prop}(h:A):if true=true then A else B:=by exact h
def aD(H a:Hp):Prop:=∀b o,H b=some o->a b=some o
def aD.refl(H:Hp):aD H H:=λa a h=>h
def aD.trans{ο:Hp}(a:aD H J)(b:aD J ο):aD H ο:=λc o h=>b c o (a c o h)
def aD.free(e:aD H J)(h:J l=aq):H l=aq:=by
 cases q:H l with
 |none=>rfl
 |some o=>
  rw[e l o q]at h;cases h
def aD.seq{ζ:List V}(e:aD H J)(h:af K H a ζ):af K J a ζ:=by
 rcases h with(h|⟨o,h⟩)|h
 .exact .inl (.inl (e _ _ h))
 .exact .inl (.inr %[o|e _ _ h])
 .exact .inr h
theorem UR{N:Type}{l:List N}(c:l.Nodup){x:N}(a:l[n]?=some x)(b:l[j]?=some x):n=j:=by grind [ac4]
def aD.made{C:ae}(nx:H a=aq)(nd:H f=aq)(k:∀b o,(upd (upd H f (.own a)) a (.ins C f [])) b=some o->b≠a->J b=some o):aD H J:=λb o e=>
 k b o (by grind [aB]) (eZ e nx)
end
end L2
namespace L2
open PySem PySem.Spec PyProof.Rows
open PySem.W (WData Codec OpenSpec Well WellAll ReadsW ReadsAllW)
mutual
inductive Dw (K:ah) (H:Hp):V->fB->Prop
 |bB:Dw K H .bB .none
 |bl (b:Bool):Dw K H (.bl b) (.bool b)
 |int (i:Int):Dw K H (.int i) (.int i)
 |str (x:Str):Dw K H (.str x) (.str x)
 |hW (b:Array UInt8):Dw K H (.hW b) (.bytes b.toList)
 |lst {a:ae} {xs:List V} {ds:List fB}:af K H a xs->jS K H xs ds->Dw K H (.ref a) (.list ds)
 |tup {a:ae} {xs:List V} {ds:List fB}:bN K H a xs->jS K H xs ds->Dw K H (.ref a) (.tuple ds)
inductive jS (K:ah) (H:Hp):List V->List fB->Prop
 |nil:jS K H [] []
 |cons {v:V} {vs:List V} {d:fB} {ds:List fB}:Dw K H v d->jS K H vs ds->jS K H (v::vs) (d::ds)
end
theorem Lc{K:ah}{H:Hp}:∀ns:List Int,jS K H (ns.map V.int) (ns.map WData.int)
 |[]=>.nil
 |n::r=>.cons (.int n) (Lc r)
theorem Ld{K:ah}{H:Hp}:∀(ns:List Int) (a:List V),jS K H a (ns.map WData.int)->a=ns.map V.int
 |[],a,h=>by cases h;rfl
 |n::r,a,h=>by
  cases h with
  |cons b c=>
   cases b;rw[Ld r _ c]<;>rfl
section
variable{H:Hp}{K:ah}{P:aC}{R:adz}{cl:Str->Option ae}{h:ax}{w:World}
def US{a:ae}{d:List V}(aU:cZ P w H h)(f:K.In h)(q:af K H a d):X3 λ(b:List Value) (o:Obj) (n:Nat)=>A4 (Vals d b) (h.get? a=some o) (o.cls=.type "list") (o.data=.seq b.toArray n):=by
 rcases q with q|⟨o,b,n,e,g,_,hd,_,c⟩
 .obtain⟨i,b,n,c,e⟩:=(show eB P w H h a (.lst d)from q.ok aU);exact%[b,_,n,c,e,rfl|rfl]
 .exact%[b.toList,o,n,c,f _ _ e,g|by simp[hd]]
def UT{a:ae}{f:List V}(aU:cZ P w H h)(g:K.In h)(q:bN K H a f):X3 λ(b:List Value) (o:Obj) (n:Nat)=>A4 (Vals f b) (h.get? a=some o) (o.cls=.type "tuple") (o.data=.seq b.toArray n):=by
 rcases q with q|⟨o,b,n,e,c,hd,_,d⟩
 .obtain⟨i,b,d,o,e,c,n,hd⟩:=(show eB P w H h a (.tup f)from q.ok aU);exact%[b,o,n,d,e,c|hd]
 .exact%[b.toList,o,n,d,g _ _ e,c|by simp[hd]]
mutual
theorem Dw.reads (aU:cZ P w H h) (KX:K.In h):∀(d:fB) (v:V) (u:Value),Dw K H v d->RelV v u->∃as,ReadsW R cl h u d as
 |.none,_,_,x,r=>by cases x;cases r;exact%[_|ReadsW.none]
 |.bool b,_,_,x,r=>by cases x;cases r;exact%[_|ReadsW.bool b]
 |.int i,_,_,x,r=>by cases x;obtain⟨t,rfl⟩:=r;exact%[_|ReadsW.int i t]
 |.str s,_,_,x,r=>by cases x;obtain⟨t,rfl⟩:=r;exact%[_|ReadsW.str s t]
 |.bytes b,_,_,x,r=>by cases x;obtain⟨t,rfl⟩:=r;exact%[_|ReadsW.bytes _ t]
 |.list ds,_,_,x,r=>by
  cases x with
  |lst hs ha=>
   cases r;obtain⟨its,o,n,rv,ho,hc,hd⟩:=US aU KX hs;obtain⟨as,hr⟩:=Dw.readsAll aU KX ds _ its ha rv;exact%[_|ReadsW.list ho hc hd hr]
 |.tuple ds,_,_,x,r=>by
  cases x with
  |tup hs ha=>
   cases r;obtain⟨its,o,n,rv,ho,hc,hd⟩:=UT aU KX hs;obtain⟨as,hr⟩:=Dw.readsAll aU KX ds _ its ha rv;exact%[_|ReadsW.tuple ho hc hd hr]
 |.float _,_,_,x,_=>by cases x
 |.dict _,_,_,x,_=>by cases x
 |.bytearray _,_,_,x,_=>by cases x
 |.set _,_,_,x,_=>by cases x
 |.frozenset _,_,_,x,_=>by cases x
 |.obj _ _,_,_,x,_=>by cases x
theorem Dw.readsAll (aU:cZ P w H h) (KX:K.In h):∀(ds:List fB) (vs:List V) (us:List Value),jS K H vs ds->Vals vs us->∃as,ReadsAllW R cl h us ds as
 |[],_,_,x,r=>by cases x;cases r;exact%[_|ReadsAllW.nil]
 |d::ds,_,_,x,r=>by
  cases x with
  |cons h1 h2=>
   cases r with
   |cons r1 r2=>
    obtain⟨as,q1⟩:=Dw.reads aU KX d _ _ h1 r1;obtain⟨bs,q2⟩:=Dw.readsAll aU KX ds _ _ h2 r2;exact%[_|ReadsAllW.cons q1 q2]
end
end
mutual
def jA:fB->Bool
 |.none=>true
 |.bool _=>true
 |.int _=>true
 |.str _=>true
 |.bytes _=>true
 |.list xs=>ku xs
 |.tuple xs=>ku xs
 |_=>false
def ku:List fB->Bool
 |[]=>true
 |x::r=>jA x&&ku r
end
theorem Le{α:Type}{f:α->fB}(h:∀a,jA (f a)=true):∀l:List α,ku (l.map f)=true
 |[]=>rfl
 |x::r=>by show(jA _&&ku _)=true;rw[h x,Le h r]<;>rfl
theorem oO:∀(c:Codec) (a:c.denote),jA (c.enc a)=true
 |.unit,_=>rfl
 |.bool,_=>rfl
 |.int _ _,_=>rfl
 |.nat _ _,_=>rfl
 |.u8,_=>rfl
 |.bytes _ _,_=>rfl
 |.text _ _ _ _,_=>rfl
 |.list _ _ c,a=>Le (λx=>oO c x) a
 |.pair c d,a=>by show(jA _&&(jA _&&true))=true;rw[oO c a.1,oO d a.2]<;>rfl
 |.triple c d e,a=>by show(jA _&&(jA _&&(jA _&&true)))=true;rw[oO c a.1,oO d _,oO e _]<;>rfl
 |.option c,none=>rfl
 |.option c,some x=>oO c x
theorem Lf:∀(b:List Codec) (a:Al b),ku (wG b a)=true
 |[],_=>rfl
 |c::b,a=>by show(jA _&&ku _)=true;rw[oO c a.1,Lf b a.2]<;>rfl
theorem BU:∀{a:List fB} {d:fB},d∈a->d.weight<=HU a
 |[],d,h=>aT h (by simp)
 |x::r,d,h=>by
  show d.weight<=x.weight+1+HU r;rcases cU.mp h with e|m
  .rw[e];omega
  .have z:=BU m;omega
def toV:Value->V
 |.none=>.bB
 |.bool b=>.bl b
 |.int i _=>.int i
 |.str x _=>.str x
 |.bytes b _=>.hW b
 |.ref a=>.ref a
 |_=>.bB
def jT(A:List ae):Value->Prop
 |.none=>True
 |.bool _=>True
 |.int _ _=>True
 |.str _ _=>True
 |.bytes _ _=>True
 |.ref a=>a∈A
 |_=>False
def jT.mono{A B:List ae}(h:∀a∈A,a∈B):∀{u:Value},jT A u->jT B u:=λ{u} x=>by
 cases u with
 |ref a=>exact h a x
 |none=>trivial
 |bool b=>trivial
 |int i t=>trivial
 |str s t=>trivial
 |bytes b t=>trivial
 |_=>exact iZ x
def UU{A:List ae}{u:Value}(x:jT A u):RelV (toV u) u:=by
 cases u with
 |ref a=>rfl
 |none=>rfl
 |bool b=>rfl
 |int i t=>exact%[t|rfl]
 |str s t=>exact%[t|rfl]
 |bytes b t=>exact%[t|rfl]
 |_=>exact iZ x
theorem sk{A:List ae}:∀{a:List Value},(∀u∈a,jT A u)->Vals (a.map toV) a
 |[],_=>.nil
 |u::r,h=>.cons (UU (h u (bQ ..))) (sk λx b=>h x (bG _ b))
def kx(h:ax)(A:List ae)(a:ae):Prop:=X1 λ(b:List Value)=>A3 (b.length<=bf) (∀u∈b,jT A u) (h.get? a=some {cls:=.type "list",data:=.seq b.toArray}\/h.get? a=some {cls:=.type "tuple",data:=.seq b.toArray})
theorem kx.mono{h:ax}{A B:List ae}{a:ae}(k:∀a∈A,a∈B)(x:kx h A a):kx h B a:=by obtain⟨b,c,d,e⟩:=x;exact%[b,c,λu f=>(d u f).mono k|e]
theorem xZ{P:Params}{h:ax}:∀{a:List Value} {c:List fB},WellAll P h a c->a.length=c.length
 |_,_,.nil=>rfl
 |_,_,.cons _ b=>by show _+1=_+1;rw[xZ b]
def Lh{P:Params}{h:ax}{v:Value}{d:List fB}(x:Well P h v (.list d)):X2 λ(a:ae) (c:List Value)=>A3 (v=.ref a) (h.get? a=some {cls:=.type "list",data:=.seq c.toArray}) (WellAll P h c d):=by
 cases x with
 |list e b=>exact%[_,_,rfl,e|b]
def Li{P:Params}{h:ax}{v:Value}{d:List fB}(x:Well P h v (.tuple d)):X2 λ(a:ae) (c:List Value)=>A3 (v=.ref a) (h.get? a=some {cls:=.type "tuple",data:=.seq c.toArray}) (WellAll P h c d):=by
 cases x with
 |tuple e b=>exact%[_,_,rfl,e|b]
def Lj{P:Params}{h:ax}{f:List Value}{d:fB}{e:List fB}(x:WellAll P h f (d::e)):X2 λ(v:Value) (c:List Value)=>A3 (f=v::c) (Well P h v d) (WellAll P h c e):=by
 cases x with
 |cons a b=>exact%[_,_,rfl,a|b]
def Lk{n:Nat}(h:n<=1048576):n<=bf:=bq h (by decide)
section
variable{A:List ae}{K:ah}{P:Params}{h:ax}
mutual
theorem UW:∀(d:fB) (v:Value),Well P h v d->jA d=true->d.weight<=1048576->∃A:List ae,jT A v/\∀a∈A,kx h A a
 |.none,_,x,_,_=>by cases x;exact%[[],trivial|λa m=>aT m (by simp)]
 |.bool b,_,x,_,_=>by cases x;exact%[[],trivial|λa m=>aT m (by simp)]
 |.int i,_,x,_,_=>by cases x;exact%[[],trivial|λa m=>aT m (by simp)]
 |.str s,_,x,_,_=>by cases x;exact%[[],trivial|λa m=>aT m (by simp)]
 |.bytes b,_,x,_,_=>by cases x;exact%[[],trivial|λa m=>aT m (by simp)]
 |.list ds,_,x,p,z=>by
  obtain⟨a,vs,rfl,ho,hall⟩:=Lh x;have z2:HU ds<=1048576:=z;obtain⟨A,h1,h2⟩:=x3 ds _ hall p λd hd=>bq (BU hd) z2
  have k:∀b∈A,b∈a::A:=λb hb=>bG _ hb;refine%[a::A,bQ ..|λb hb=>?_];rcases cU.mp hb with e|m
  .rw[e];exact%[vs,Lk (by rw[xZ hall];exact bq (adA ds) z2),λu hu=>(h1 u hu).mono k| .inl ho]
  .exact(h2 b m).mono k
 |.tuple ds,_,x,p,z=>by
  obtain⟨a,vs,rfl,ho,hall⟩:=Li x;have z2:HU ds<=1048576:=z;obtain⟨A,h1,h2⟩:=x3 ds _ hall p λd hd=>bq (BU hd) z2
  have k:∀b∈A,b∈a::A:=λb hb=>bG _ hb;refine%[a::A,bQ ..|λb hb=>?_];rcases cU.mp hb with e|m
  .rw[e];exact%[vs,Lk (by rw[xZ hall];exact bq (adA ds) z2),λu hu=>(h1 u hu).mono k| .inr ho]
  .exact(h2 b m).mono k
 |.float _,_,_,p,_=>kQ (show false=true from p)
 |.dict _,_,_,p,_=>kQ (show false=true from p)
 |.bytearray _,_,_,p,_=>kQ (show false=true from p)
 |.set _,_,_,p,_=>kQ (show false=true from p)
 |.frozenset _,_,_,p,_=>kQ (show false=true from p)
 |.obj _ _,_,_,p,_=>kQ (show false=true from p)
theorem x3:∀(ds:List fB) (vs:List Value),WellAll P h vs ds->ku ds=true->(∀d∈ds,d.weight<=1048576)->∃A:List ae,(∀u∈vs,jT A u)/\∀a∈A,kx h A a
 |[],_,x,_,_=>by cases x;exact%[[],λu m=>aT m (by simp)|λa m=>aT m (by simp)]
 |d::ds,_,x,p,z=>by
  obtain⟨v,vs,rfl,x1,x2⟩:=Lj x;have q:jA d=true/\ku ds=true:=tW.mp p;obtain⟨A,a1,a2⟩:=UW d v x1 q.1 (z d (bQ ..));obtain⟨B,b1,b2⟩:=x3 ds vs x2 q.2 λe he=>z e (bG _ he)
  have kA:∀b∈A,b∈A++B:=λb hb=>eF.mpr (.inl hb);have kB:∀b∈B,b∈A++B:=λb hb=>eF.mpr (.inr hb);refine%[A++B,λu hu=>?_|λb hb=>?_]
  .rcases cU.mp hu with e|m
   .rw[e];exact a1.mono kA
   .exact(b1 u m).mono kB
  .rcases eF.mp hb with m|m
   .exact(a2 b m).mono kA
   .exact(b2 b m).mono kB
end
def x5(o:Obj):Option HO:=match o.data with
 |.seq a _=>if(o.cls==Value.type "list")=true then some (.dX o (.lst (a.toList.map toV)))else some (.dX o (.tup (a.toList.map toV)))
 |_=>none
def gW(K:ah)(h:ax)(A:List ae):Hp:=λb=>if b∈A then(if(K.lookup b).isNone=true then(h.get? b).bind x5 else none)else none
def sr(H:Hp):Prop:=∀b,H b=none\/∃o u,H b=some (.dX o u)
theorem Ll(a:List Value):x5 {cls:=.type "list",data:=.seq a.toArray}=some (.dX {cls:=.type "list",data:=.seq a.toArray} (.lst (a.map toV))):=by rfl
theorem Lm(a:List Value):x5 {cls:=.type "tuple",data:=.seq a.toArray}=some (.dX {cls:=.type "tuple",data:=.seq a.toArray} (.tup (a.map toV))):=by rfl
theorem BV{b:ae}{o:Obj}(a:b∈A)(c:K.lookup b=none)(e:h.get? b=some o):gW K h A b=x5 o:=by grind [gW]
def UX{b:ae}{u:HO}(q:gW K h A b=some u):b∈A/\K.lookup b=none:=by
 unfold gW at q;by_cases a:b∈A
 .cases c:K.lookup b with
  |none=>exact%[a|rfl]
  |some o=>
   grind
 grind
theorem x8(d:∀a∈A,kx h A a){b:ae}{u:HO}(q:gW K h A b=some u):K.lookup b=none/\∃c:List Value,c.length<=bf/\(∀u∈c,jT A u)/\
  ((h.get? b=some {cls:=.type "list",data:=.seq c.toArray}/\u=.dX {cls:=.type "list",data:=.seq c.toArray} (.lst (c.map toV)))\/
   (h.get? b=some {cls:=.type "tuple",data:=.seq c.toArray}/\u=.dX {cls:=.type "tuple",data:=.seq c.toArray} (.tup (c.map toV)))):=by
 obtain⟨e,f⟩:=UX q;obtain⟨c,g,i,j⟩:=d b e
 grind [BV,Ll,Lm]
def UY(c:∀a∈A,kx h A a):sr (gW K h A):=λb=>by
 cases q:gW K h A b with
 |none=>exact .inl rfl
 |some u=>
  obtain⟨f,d,f,f,⟨f,e⟩|⟨f,e⟩⟩:=x8 c q
  all_goals grind
def UZ{P:aC}{w:World}(f:∀a∈A,kx h A a):cZ P w (gW K h A) h:=λb u q=>by
 obtain⟨b,c,g,d,⟨e,rfl⟩|⟨e,rfl⟩⟩:=x8 f q
 .exact%[e,by grind,c,_,sk d|e]
 .exact%[e,by grind,c,sk d,_,e,rfl,_|rfl]
def U0(j:K.In h)(k:∀a∈A,kx h A a){a:ae}{b:List Value}(d:a∈A)(e:h.get? a=some {cls:=.type "list",data:=.seq b.toArray}):(∀u∈b,jT A u)/\af K (gW K h A) a (b.map toV):=by?
 obtain⟨i,m,f,n⟩:=k a d;have l:i=b:=by grind
 subst l;refine%[f|?_];cases c:K.lookup a with
 |none=>exact .inl (.inr %[_|by rw[BV d c e,Ll]])
 |some o=>
  have g:=j a o c;rw[e]at g;obtain rfl:=cE g;exact .inr %[_,i.toArray,_,c,rfl,rfl,rfl,by omega|by simpa using sk f]
def U1(j:K.In h)(k:∀a∈A,kx h A a){a:ae}{b:List Value}(d:a∈A)(e:h.get? a=some {cls:=.type "tuple",data:=.seq b.toArray}):(∀u∈b,jT A u)/\bN K (gW K h A) a (b.map toV):=by?
 obtain⟨i,m,f,n⟩:=k a d;have l:i=b:=by grind
 subst l;refine%[f|?_];cases c:K.lookup a with
 |none=>exact .inl (.inr %[_|by rw[BV d c e,Lm]])
 |some o=>
  have g:=j a o c;rw[e]at g;obtain rfl:=cE g;exact .inr %[_,i.toArray,_,c,rfl,rfl,by omega|by simpa using sk f]
mutual
theorem U2 {Pm:Params} (KX:K.In h) (ar:∀a∈A,kx h A a):∀(d:fB) (v:Value),Well Pm h v d->jA d=true->jT A v->Dw K (gW K h A) (toV v) d
 |.none,_,x,_,_=>by cases x;exact .bB
 |.bool b,_,x,_,_=>by cases x;exact .bl b
 |.int i,_,x,_,_=>by cases x;exact .int i
 |.str s,_,x,_,_=>by cases x;exact .str s
 |.bytes b,_,x,_,_=>by cases x;have z:=Dw.hW (K:=K) (H:=gW K h A) b.toArray;exact z
 |.list ds,_,x,p,hu=>by obtain⟨a,vs,rfl,ho,hall⟩:=Lh x;obtain⟨h2,hs⟩:=U0 KX ar hu ho;exact .lst hs (x9 KX ar ds _ hall p h2)
 |.tuple ds,_,x,p,hu=>by obtain⟨a,vs,rfl,ho,hall⟩:=Li x;obtain⟨h2,hs⟩:=U1 KX ar hu ho;exact .tup hs (x9 KX ar ds _ hall p h2)
 |.float _,_,_,p,_=>kQ (show false=true from p)
 |.dict _,_,_,p,_=>kQ (show false=true from p)
 |.bytearray _,_,_,p,_=>kQ (show false=true from p)
 |.set _,_,_,p,_=>kQ (show false=true from p)
 |.frozenset _,_,_,p,_=>kQ (show false=true from p)
 |.obj _ _,_,_,p,_=>kQ (show false=true from p)
theorem x9 {Pm:Params} (KX:K.In h) (ar:∀a∈A,kx h A a):∀(ds:List fB) (vs:List Value),WellAll Pm h vs ds->ku ds=true->(∀u∈vs,jT A u)->jS K (gW K h A) (vs.map toV) ds
 |[],_,x,_,_=>by cases x;exact .nil
 |d::ds,_,x,p,hu=>by obtain⟨v,vs,rfl,x1,x2⟩:=Lj x;have q:jA d=true/\ku ds=true:=tW.mp p;exact .cons (U2 KX ar d v x1 q.1 (hu _ (bQ ..))) (x9 KX ar ds vs x2 q.2 λu m=>hu u (bG _ m))
end
end
def U3{P:aC}{w:World}{K:ah}{mg mb:Str->Option Value}{Y:kj}{k:Nat}{Z:ae}{fd:aK}{t:List Str}{sp:Sp}{c:aj}{a:List Value}{p:List fB}{R:adz}{cl:Str->Option ae}{d0:fB}
  (M:K.In c.heap)(y:c.heap.Ns d7 mg)(N:c.heap.Ns builtinsNs mb)(O:∀x:Str,x≠"__name__"->mb x=l_ x)(B:c.heap.NoLimit)(hg:c.gens=#[])
  (j:WellAll w.params c.heap a p)(C:ku p=true)(Q:∀d∈p,d.weight<=1048576)(hr:cY k callerA)
  (F:∀base:ax,K.In base->base.Ns d7 mg->aJ P w K mg base Y k Z fd t sp)(l:∀(s:aj) (X:List Value),X.length=t.length->BindsTo s fd %[X|[]] (t.zip X))(G:p.length=t.length)
  (S:∀(H:Hp) (xs:List V),sr H->jS K H xs p->sp xs H (λv H'=>Dw K H' v d0) λ_ _ _=>False)
  (T:∀H e g,Y [] H c (λ_ _ _=>False) e g->False):
  codeAny (model P w) callerA (.call (.ref Z) %[a|[]]) (λr g=>∃u as,r=.ok (.ret u)/\ReadsW R cl g.heap u d0 as/\OldK c.heap g.heap/\g.os=c.os/\AllBare g.gens) c:=by?
 obtain⟨A,ho,I⟩:=x3 p a j C Q;have U:sr (gW K c.heap A):=UY I;have aU:cZ P w (gW K c.heap A) c.heap:=UZ I;have hS:=x9 M I p a j C ho;have hV:=sk ho;have hK:∀b u,gW K c.heap A b=some u->K.lookup b=none:=λb u q=>(x8 I q).1
 have D:∀{b:ae} {o:Obj} {J:Array DictEntry} {L:Nat},c.heap.get? b=some o->o.data=.dict J L->gW K c.heap A b=none:=λ{b o J L} e d=>by
  cases q:gW K c.heap A b with
  |none=>rfl
  |some u=>
   grind [x8]
 generalize gW K c.heap A=H at U aU hS hK D;have f:∀{b:ae} {o:Obj},c.heap.get? b=some o->H b=none->(rH c.heap H).get? b=some o:=λe n=>Rx e n
 have h:∀{b:ae} {m:Str->Option Value},c.heap.Ns b m->(rH c.heap H).Ns b m:=λ{b m} %[o,J,L,e,d|r]=>%[o,J,L,f e (D e d),d|r];have nK:∀b o,K.lookup b=some o->H b=none:=λb o e=>by
  cases q:H b with
  |none=>rfl
  |some u=>
   grind
 have E:=λb o e=>f (M b o e) (nK b o e);have hM:Mod K mg _:=%[E,h y,%[mb,h N|O]|let%[mc,h1|h2]:=B;%[mc,h h1|h2]];have e0:pU P w K mg _ callerA [] c H:=%[rfl,hM,λb o e=>Ry e,qZ (Rw _ _),trivial,λb N=>aT (show b∈([]:List ae)from N) (by simp),aU| .of_eq hg];have hl:a.length=t.length:=by rw[xZ j];exact G
 refine rE ((F _ E (h y)).run callerA [] c H %[a|[]] a (a.map toV) _ _ hr e0 (l c a hl) hV (S H _ U hS)) λr g x=>?_;cases r with
 |error e=>exact(T H e g x).elim
 |ok fl=>
  cases fl with
  |next=>exact iZ x
  |brk=>exact iZ x
  |cont=>exact iZ x
  |ret u=>
   obtain⟨v,H',os,bare,un,i,r',q⟩:=x;have kept:=λb o e=>by
    cases q2:H b with
    |none=>exact un.keep b o e q2 (by intro z;exact aT (show b∈([]:List ae)from z) (by simp)) (by simp)
    |some u2=>
     rcases U b with z|⟨ob,u3,z⟩
     .grind
     .have z2:=un.k_ b ob _ z;obtain⟨e1,_⟩:=aU b _ z;obtain⟨e2,_⟩:=i b _ z2
      grind
   have W:K.In g.heap:=λb o e=>kept b o (M b o e);obtain⟨as,aa⟩:=Dw.reads (R:=R) (cl:=cl) i W d0 v u q r'
   grind [OldK.of_keep]
def U4{a:List fB}(h:WData.layableAll a=true):∀d∈a,d.weight<=1048576:=λd hd=>
 (PySem.W.layableW_iff.mp (nY.mp h d hd)).2.2
theorem Ln:∀(b:List Codec) (a:Al b),(wG b a).length=b.length
 |[],_=>rfl
 |c::b,a=>by show(wG b a.2).length+1=b.length+1;rw[Ln b a.2]
def U5{r:OpenSpec}{k:Nat}{q:aC}{c:List Str}{P:(Str->Option Value)->ax->Prop}{x:World->ax->Prop}{d:DefRec}{K:Params->ah}{J:World->kj}{m:List Str}{O:World->Sp}
  (b:r.wellSaid=true)(Q:d.params.defaults=[])(M:r.args.length=m.length)(R:cY k callerA)
  (S:∀(w:World) (h:ax),x w h->(K w.params).In h)
  (F:∀(w:World) (mg:Str->Option Value) (n:ae) (h:ax),x w h->(K w.params).In h->h.Ns d7 mg->mg d.name=some (.ref n)->
   ∃E:aK,(∀(s:aj) (I:List Value),I.length=m.length->BindsTo s E %[I|[]] (m.zip I))/\
    ∀base:ax,(K w.params).In base->base.Ns d7 mg->aJ r.prog w (K w.params) mg base (J w) k n E m (O w))
  (y:∀(w:World) (H:Hp) (t:List V) (a:Al r.args),sr H->Qj r.args a=true->wH r.args r.asked a=true->jS (K w.params) H t (wG r.args a)->
   O w t H (λv T=>Dw (K w.params) T v (r.ret.enc (wH r.args r.f a))) λ_ _ _=>False)
  (A:∀(w:World) (H:Hp) (s:aj) (e:Value) (p:aj),J w [] H s (λ_ _ _=>False) e p->False):
  adB q c P x r d [] (λf U=>PySem.call f U):=by?
 intro w gG W mg mb G Y n o pm cd ar dV kV ho hd X hD B Z l N as g i aa C ao;obtain⟨a,e1,e2⟩:=PySem.W.os_pre_some g;obtain⟨e3,j⟩:=Codec.encAll_of_decAll r.args l a e1;subst e3;have L:=S w _ Y;obtain⟨E,hb,hF⟩:=F w mg n _ Y L G.T.g B;refine PySem.W.enter_call (rE (U3 (R:=[]) (cl:=classAt gG.heap) L G.T.g G.T.b G.T.builtins G.T.nolimit Z C (Lf _ _) (U4 i) R hF hb (by grind [Ln])
  (λH t hO hS=>y w H t a hO j e2 hS) λH e p=>A w H W e p) λr' p hq=>?_)
 obtain⟨u,D,rfl,h1,h2,h3,h4⟩:=hq;exact%[.inl %[u,_,D,rfl,λ_=>rfl,h1,(OpenSpec.post_iff b j _ _).mpr rfl|λz=>kQ (z)],h2,h3|h4]
def afj{r:OpenSpec}{k:Nat}{q:aC}{c:List Str}{u:(Str->Option Value)->ax->Prop}{j:World->ax->Prop}{d:DefRec}{K:Params->ah}{CX:kj}{ps:List Str}{sp:ah->Sp}
  (b:r.wellSaid=true)(l:d.params.defaults=[])(g:r.args.length=ps.length)(x:cY k callerA)
  (y:∀(w:World) (h:ax),j w h->(K w.params).In h)
  (F:∀(w:World) (mg:Str->Option Value) (t:ae) (h:ax),j w h->(K w.params).In h->h.Ns d7 mg->mg d.name=some (.ref t)->
   ∃fd:aK,(∀(s:aj) (p:List Value),p.length=ps.length->BindsTo s fd %[p|[]] (ps.zip p))/\
    ∀base:ax,(K w.params).In base->base.Ns d7 mg->aJ r.prog w (K w.params) mg base CX k t fd ps (sp (K w.params)))
  (m:∀(K:ah) (H:Hp) (i:List V) (a:Al r.args),sr H->Qj r.args a=true->wH r.args r.asked a=true->jS K H i (wG r.args a)->
   sp K i H (λv z=>Dw K z v (r.ret.enc (wH r.args r.f a))) λI I I=>False)
  (n:∀(H:Hp) (s:aj) (e:Value) (o:aj),CX [] H s (λI I I=>False) e o->False):
  adB q c u j r d [] (λf A=>PySem.call f A):=
 U5 b l g x y F (λw H i a B C D E=>m _ H i a B C D E) λI H s e o=>n H s e o
end L2
namespace GT
open PySem PySem.Spec PyProof.Rows L2
def Z7(a v:Value):checkTypeCall "enumerate" %[[a]|[("start",v)]]=pure ():=by kernel_rfl
def Z8(a v:Value):checkBuiltinCall "enumerate.__new__" %[[.type "enumerate",a]|[("start",v)]]=pure ():=by kernel_rfl
def Z9(a b v:Value):argsOk "object.__init__" %[[a,b]|[("start",v)]]:=by rfl
def a:Manifest.owners.lookup (String.ofList ['r','o','t','a','r','e','t','i','_','t','e','s'].reverse)=some Manifest.sig_set_iterator:=by kernel_rfl
def tO:Slot "set_iterator" "__next__" "set_iterator.__next__":=
 .of (owner:="set_iterator") (n:="__next__") (by rfl) (by decide+kernel) (by decide+kernel) (by decide+kernel)
  (by first|exact .inl (by decide+kernel)|exact .inr (by decide+kernel)) (by rfl)
def Pe:entryFor table "set_iterator.__next__"=some Builtin.«set_iterator.__next__»:=entryFor_of_tree (by kernel_rfl)
def Pf(a:Value):argsOk "set_iterator.__next__" %[[a]|[]]:=by rfl
def Pg:Slot "set_iterator" "__iter__" "set_iterator.__iter__":=
 .of (owner:="set_iterator") (n:="__iter__") (by rfl) (by decide+kernel) (by decide+kernel) (by decide+kernel)
  (by first|exact .inl (by decide+kernel)|exact .inr (by decide+kernel)) (by rfl)
def acp:entryFor table "set_iterator.__iter__"=some Builtin.«dict_keyiterator.__iter__»:=
 entryFor_alias (id':="dict_keyiterator.__iter__") (by kernel_rfl) rfl (by decide+kernel) (by kernel_rfl)
def acq(a:Value):argsOk "set_iterator.__iter__" %[[a]|[]]:=by rfl
def acr:entryFor table "set.__iter__"=some Builtin.«frozenset.__iter__»:=
 entryFor_alias (id':="frozenset.__iter__") (by kernel_rfl) rfl (by decide+kernel) (by kernel_rfl)
end GT
namespace GT
section
open Vbcraf
def bc(r:Rat):Q:=%[r.num|r.den]
def uN(n:Int)(d:Nat)(hd:d≠0):frac n d=bc (mkRat n d):=by
 unfold frac bc
 grind [adC,Ql]
def x_(n:Int):whole n=bc (n:Rat):=rfl
def zero_eq:zero=bc 0:=rfl
def U7:whole 1=bc 1:=rfl
theorem den_pos(r:Rat):0<r.den:=r.den_pos
def add_eq(a b:Rat):add (bc a) (bc b)=bc (a+b):=by show frac (a.num*b.den+b.num*a.den) (a.den*b.den)=_;rw[uN _ _ (HV a.den_nz b.den_nz)];simp[Rat.add_def']
def sub_eq(a b:Rat):sub (bc a) (bc b)=bc (a-b):=by show frac (a.num*b.den-b.num*a.den) (a.den*b.den)=_;rw[uN _ _ (HV a.den_nz b.den_nz)];simp[Rat.sub_def']
def mul_eq(a b:Rat):mul (bc a) (bc b)=bc (a*b):=by show frac (a.num*b.num) (a.den*b.den)=_;rw[uN _ _ (HV a.den_nz b.den_nz)];simp[Rat.mul_def']
def lt_eq(a b:Rat):lt (bc a) (bc b)=decide (a<b):=by exact decide_eq_decide.mpr (Rat.lt_iff a b).symm
theorem le_eq(a b:Rat):le (bc a) (bc b)=decide (a<=b):=by exact decide_eq_decide.mpr (Rat.le_iff a b).symm
def U8(l:List Rat):∀a:Rat,(l.map bc).foldl add (bc a)=bc (l.foldl (· +·) a):=by
 induction l with
 |nil=>intro a;rfl
 |cons x r b=>simp_all [add_eq]
def foldl_add(l:List Rat):∀a:Rat,l.foldl (· +·) a=a+l.sum:=by
 induction l with
 |nil=>intro a;simp[jj]
 |cons x r b=>intro a;simp only[fI,b,jk,HW]
def uO(l:List Rat):sum (l.map bc)=bc l.sum:=by unfold sum;rw[zero_eq,U8,foldl_add,HX]
def div_eq{Z Υ:Rat}(e:0<Υ):div (bc Z) (bc Υ)=bc (Z/Υ):=by?
 have c:0<Υ.num:=by exact nZ.mp e
 unfold div;have d:(bc Υ).num≠0:=by show Υ.num≠0;exact kP (Int.ne_of_lt c)
 have f:¬(bc Υ).num<0:=by show ¬Υ.num<0;exact Int.lt_asymm c
 have g:Υ.num.natAbs≠0:=by exact Int.natAbs_ne_zero.mpr d
 rw[aE d,aE f];show frac (Z.num*(Υ.den:Int)*1) (Z.den*Υ.num.natAbs)=_;rw[uN _ _ (HV Z.den_nz g)]
 grind [Rat.inv_def,Rat.divInt_ofNat,adF,Rat.mkRat_mul_mkRat]
def U9(a b:Rat):least (bc a) (bc b)=bc (if a<=b then a else b):=by
 unfold least
 grind [le_eq]
def Lo(a b:Rat):most (bc a) (bc b)=bc (if a<=b then b else a):=by
 unfold most
 grind [le_eq]
end
def U_(a b:Rat)(c left:Nat)(top:Int)(d:c=jo a.den b.den)
  (j:top=a.num*((b.den/c:Nat):Int)+b.num*((a.den/c:Nat):Int))(k:left=jo top.natAbs c):
  (a+b).num=top/(left:Int)/\(a+b).den=a.den/c*(b.den/left):=by?
 have f:c≠0:=by subst d;exact j5 (adG _ a.den_pos)
 have g:=d▸HY ..;have db:=d▸adH ..;have ea:=adI g;have h:=adI db;have i:=Rat.add.aux a b d rfl rfl;have e:a+b=mkRat top (a.den/c*b.den):=by
  rw[Rat.add_def'];have l:a.num*(b.den:Int)+b.num*(a.den:Int)=top*(c:Int):=by
   have m:(b.den:Int)=((b.den/c:Nat))*(c:Int):=by exact Int.neg_inj.mp (congrArg Neg.neg (congrArg Nat.cast (id (kR h))))
   have n:(a.den:Int)=((a.den/c:Nat))*(c:Int):=by exact Int.neg_inj.mp (congrArg Neg.neg (congrArg Nat.cast (id (kR ea))))
   grind
  have o:a.den*b.den=a.den/c*b.den*c:=by grind
  simp_all [Rat.mkRat_mul_right]
 have hd:a.den/c*b.den≠0:=by
  intro q;rcases Nat.mul_eq_zero.mp q with q|q
  .rw[q,Nat.zero_mul]at ea;exact a.den_nz ea.symm
  .exact b.den_nz q
 grind [adH,adC,Ql,adK]
def U'(a b:Rat):(a*b).num=(a.num/((jo a.num.natAbs b.den:Nat):Int))*(b.num/((jo b.num.natAbs a.den:Nat):Int))/\
  (a*b).den=(a.den/jo b.num.natAbs a.den)*(b.den/jo a.num.natAbs b.den):=by
 show(Qm a b).num=_/\(Qm a b).den=_;unfold Qm;trivial
def Va{Z:Rat}(a:0<Z):(Z⁻¹).num=(Z.den:Int)/\((Z⁻¹).den:Int)=Z.num:=by
 have c:0<Z.num:=by exact nZ.mp a
 grind [Rat.num_inv,Rat.den_inv]
def Vb(x y:Int)(a:0<=x)(b:0<y):n_ y (x%y)=n_ x y:=by
 rw[Int.gcd_comm x y];unfold n_
 grind [Int.natAbs_emod_of_nonneg,Nat.gcd_rec]
section
open Vbcraf
structure PR where
 kilos:Rat
 green:List Rat
def PR.q(p:PR):Part:=%[bc p.kilos|p.green.map bc]
def bw(a:List PR):Rat:=(a.map (·.kilos)).sum
def c_(a b:List Rat):List Rat:=(a.zip b).map λx=>x.1+x.2
def uP(p:PR)(a:List PR):PR:=%[bw (p::a)|a.foldl (λs p=>c_ s p.green) p.green]
def i9(k:Rat)(p:PR):PR:=%[k*p.kilos|p.green.map (k*·)]
def cz:List PR->Rat->List PR×List PR
 |[],_=>([],[])
 |p::r,k=>if k<=0 then([],p::r)else if p.kilos<=k then((p::(cz r (k-p.kilos)).1,(cz r (k-p.kilos)).2))else
  ([i9 (k/p.kilos) p],i9 (1-k/p.kilos) p::r)
def eU:List PR->List PR
 |[]=>[]
 |p::a=>[uP p a]
def fU(silo:Bool)(there a:List PR):List PR:=if silo=true then there++a else eU (there++a)
structure PR.Ok(n:Nat)(p:PR):Prop where
 pos:0<p.kilos
 len:p.green.length=n
 nn:∀g∈p.green,0<=g
 some:0<p.green.sum
def su(a:List PR):kilosOf (a.map PR.q)=bc (bw a):=by unfold kilosOf bw;rw[cC,<-uO,cC];rfl
def Lp(a b:List Rat):addRows (a.map bc) (b.map bc)=(c_ a b).map bc:=by unfold addRows c_;rw[Am,cC,cC];exact jq λx c=>add_eq x.1 x.2
section
variable{j n:Nat}
def BW{Θ b:List Rat}(c:Θ.length=n)(d:b.length=n):(c_ Θ b).length=n:=by simp_all [c_]
def Vc:∀{b:List Rat},b.length=n->c_ (cS n 0) b=b:=by?
 induction n with
 |zero=>intro b a;rw[HZ.mp a];rfl
 |succ n c=>
  intro b a
  match b,a with
  |x::r,a=>
   show(0+x)::c_ (cS n 0) r=x::r;rw[c (Qo a),HX]
def Lq(b:List PR):∀a:List Rat,(b.map PR.q).foldl (λs p=>addRows s p.green) (a.map bc)=(b.foldl (λs p=>c_ s p.green) a).map bc:=by
 induction b with
 |nil=>intro a;rfl
 |cons p r c=>
  intro a;rw[cx,fI,fI];show HJ _ (addRows _ (p.green.map bc)) _=_;rw[Lp,c]
def Vd{p:PR}(hp:p.green.length=n)(a:List PR):greenOf n ((p::a).map PR.q)=(uP p a).green.map bc:=by?
 unfold greenOf;have e:(cS n zero)=(cS n (0)).map bc:=by rw[Qp];rfl
 rw[e];show HJ _ (addRows _ (p.green.map bc)) _=_;rw[Lp,Vc hp,Lq];rfl
def BX(n:Nat)(a:List PR):List Rat:=a.foldl (λs p=>c_ s p.green) (cS n 0)
def Ve(n:Nat)(a:List PR):greenOf n (a.map PR.q)=(BX n a).map bc:=by
 unfold greenOf BX;have e:(cS n zero)=(cS n (0)).map bc:=by rw[Qp];rfl
 rw[e,Lq]
def Vf{Θ b:List Rat}(c:Θ.length=n)(d:b.length=n):(c_ Θ b).getD j 0=Θ.getD j 0+b.getD j 0:=by?
 unfold c_;by_cases h:j<n
 .simp[ir,c,d,h,List.zip]
 .have e:Θ[j]?=none:=mU (by cbv);have f:b[j]?=none:=mU (by cbv);simp[ir,e,f,c,d,h,jj]
theorem BY:∀(c:List PR) (a:List Rat),a.length=n->(∀p∈c,p.green.length=n)->
  (c.foldl (λs p=>c_ s p.green) a).getD j 0=a.getD j 0+(c.map λp=>p.green.getD j 0).sum
 |[],a,_,_=>by simp[jj]
 |p::r,a,d,hp=>by have b:=hp p (bQ ..);rw[fI,BY r _ (BW d b) (λq e=>hp q (bG _ e)),Vf d b,cx,jk,HW]
theorem BZ:∀(c:List PR) (a:List Rat),a.length=n->(∀p∈c,p.green.length=n)->(c.foldl (λs p=>c_ s p.green) a).length=n
 |[],a,b,_=>b
 |p::r,a,b,hp=>BZ r _ (BW b (hp p (bQ ..))) (λq d=>hp q (bG _ d))
def Lr(k:Rat)(p:PR):scaled (bc k) p.q=(i9 k p).q:=by unfold scaled i9 PR.q;simp[mul_eq]
theorem yc:∀(a:List PR) (k:Rat),(∀p∈a,p.Ok n)->taken (a.map PR.q) (bc k)=((cz a k).1.map PR.q,(cz a k).2.map PR.q)
 |[],k,_=>rfl
 |p::r,k,h=>by?
  have hp:=h p (bQ ..);have d:=yc r (k-p.kilos) (λq e=>h q (bG _ e));rw[cx];unfold taken cz;rw[zero_eq,le_eq];show(if decide _=true then _ else if le (bc p.kilos) _=true then _ else _)=_;rw[le_eq];by_cases b:k<=0
  .simp[b]
  .by_cases c:p.kilos<=k
   .simp only[b,c,if_false];rw[show sub _ p.q.kilos=bc _ from sub_eq k p.kilos,d];rfl
   .simp only[b,c,if_false];rw[show div _ p.q.kilos=bc _ from div_eq hp.pos,U7,sub_eq,Lr,Lr];rfl
def B0(a:List PR)(h:∀p∈a,p.green.length=n):mixed n (a.map PR.q)=(eU a).map PR.q:=by
 cases a with
 |nil=>rfl
 |cons p r=>
  unfold mixed eU;rw[su,Vd (h p (bQ ..))];rfl
end
end
section
open Vbcraf
structure WR where
 places:List (List PR)
 sold:List PR
 lost:List PR
 eV:List PR
def kC(pl:List (Text×Bool))(a:List (List PR)):List Place:=(pl.zip a).map λx=>%[x.1.1,x.1.2|x.2.map PR.q]
def WR.q(pl:List (Text×Bool))(w:WR):World:=%[kC pl w.places,w.sold.map PR.q|w.lost.map PR.q]
def mD(k:Nat):WR:=%[cS k [],[],[]|[]]
def silo(pl:List (Text×Bool))(i:Nat):Bool:=(pl[i]?.map (·.2)).getD false
def aO(w:WR)(i:Nat):List PR:=w.places.getD i []
def cI(w:WR)(i:Nat)(a:List PR):WR:={w with places:=w.places.set i a}
def qb(pl:List (Text×Bool))(w:WR)(i:Nat)(a:List PR):WR:=cI w i (fU (silo pl i) (aO w i) a)
def fe(n l k:Nat):PR:=%[(k:Int)|(cS n (0:Rat)).set l ((k:Int):Rat)]
def cJ(n:Nat)(pl:List (Text×Bool))(w:WR):Deed->Option WR
 |.come l k i=>some (qb pl w i [fe n l k])
 |.move k i j=>if bw (aO w i)<((k:Int):Rat)then none else some (qb pl (cI w i (cz (aO w i) ((k:Int):Rat)).2) j (cz (aO w i) ((k:Int):Rat)).1)
 |.weigh i k=>if bw (aO w i)<((k:Int):Rat)then none else some (cI w i ((aO w i).map λp=>%[p.kilos*(((k:Int):Rat)/bw (aO w i))|p.green]))
 |.sell k i=>if bw (aO w i)<((k:Int):Rat)then none else some {cI w i (cz (aO w i) ((k:Int):Rat)).2 with sold:=w.sold++eU (cz (aO w i) ((k:Int):Rat)).1}
 |.waste k i=>if bw (aO w i)<((k:Int):Rat)then none else some {cI w i (cz (aO w i) ((k:Int):Rat)).2 with lost:=w.lost++eU (cz (aO w i) ((k:Int):Rat)).1,eV:=w.eV++(cz (aO w i) ((k:Int):Rat)).1}
def Deed.In(n m:Nat):Deed->Prop
 |.come l k i=>l<n/\1<=k/\k<=9999/\i<m
 |.move k i j=>1<=k/\k<=9999/\i<m/\j<m
 |.weigh i k=>1<=k/\k<=9999/\i<m
 |.sell k i=>1<=k/\k<=9999/\i<m
 |.waste k i=>1<=k/\k<=9999/\i<m
structure WR.Ok(n m:Nat)(w:WR):Prop where
 len:w.places.length=m
 parts:∀a∈w.places,∀p∈a,p.Ok n
 sold:∀p∈w.sold,p.Ok n
 lost:∀p∈w.lost,p.Ok n
 eV:∀p∈w.eV,p.Ok n
 yd:∀l,(w.eV.map λp=>p.green.getD l 0).sum=(w.lost.map λp=>p.green.getD l 0).sum
section
variable{j n:Nat}
def WR.Ok.at_{w:WR}(h:w.Ok n j)(i:Nat):∀p∈aO w i,p.Ok n:=by
 intro p hp;unfold aO at hp;rw[ir]at hp;cases e:w.places[i]? with
 |none=>rw[e]at hp;cases hp
 |some a=>rw[e]at hp;exact h.parts a (bO e) p hp
def B1{pl:List (Text×Bool)}{a:List (List PR)}(i:Nat)(h:a.length=pl.length):
  (kC pl a)[i]?=(pl[i]?).map λx=>%[x.1,x.2|(a.getD i []).map PR.q]:=by?
 unfold kC;rw[eJ];by_cases b:i<pl.length
 .rw[show(pl.zip a)[i]?=some (pl[i],a[i]'(by lia))by simp[h,b],cA b];simp[h,b]
 .simp[h,og b]
def qc{pl:List (Text×Bool)}{w:WR}(i:Nat)(h:w.places.length=pl.length):partsAt (w.q pl) i=(aO w i).map PR.q:=by
 unfold partsAt WR.q;simp only[B1 i h,Option.map_map];by_cases a:i<pl.length
 .rw[cA a];rfl
 .unfold aO;simp[h,og a]
def Ls{pl:List (Text×Bool)}{c:List (List PR)}{x:Text×Bool}(new:List PR)(e:pl[n]?=some x):
  (kC pl c).set n %[x.1,x.2|new.map PR.q]=kC pl (c.set n new):=by
 unfold kC;induction pl generalizing c n with
 |nil=>simp at e
 |cons a r d=>
  cases c with
  |nil=>simp
  |cons b s=>
   cases n with
   |zero=>
    cbv
   |succ n=>
    cbv
def ye{pl:List (Text×Bool)}{w:WR}(a:List PR)(h:w.places.length=pl.length):setParts (w.q pl) n (a.map PR.q)=(cI w n a).q pl:=by?
 unfold setParts WR.q;dsimp only;rw[B1 n h];cases e:pl[n]? with
 |none=>
  unfold cI;rw[Qq (by rw[h];exact List.getElem?_eq_none_iff.mp e)];rfl
 |some x=>
  dsimp only[Q0];rw[Ls a e];rfl
def Lu{pl:List (Text×Bool)}{w:WR}(a:List PR)(h:w.Ok n pl.length)(hp:∀p∈a,p.Ok n):putAt n (w.q pl) j (a.map PR.q)=(qb pl w j a).q pl:=by?
 unfold putAt;have e:=B1 j h.len;cases q:pl[j]? with
 |none=>
  rw[q]at e;have c:(w.q pl).places[j]?=none:=e;rw[c];unfold qb cI WR.q;simp only[Qq (show w.places.length<=j by rw[h.len];cbv)]
 |some x=>
  rw[q]at e;have c:(w.q pl).places[j]?=some %[x.1,x.2|(aO w j).map PR.q]:=e;rw[c];show World.mk _ _ _=World.mk _ _ _;congr 1;have f:silo pl j=x.2:=by unfold silo;rw[q];rfl
  have b:put n %[x.1,x.2|(aO w j).map PR.q] (a.map PR.q)=%[x.1,x.2|(fU (silo pl j) (aO w j) a).map PR.q]:=by
   unfold put fU;rw[f];cases x.2 with
   |true=>simp[cF]
   |false=>
    simp only[Aj,if_false];rw[<-cF,B0];intro p d;rcases eF.mp d with z|z
    .exact(h.at_ j p z).len
    .exact(hp p z).len
  rw[b];exact Ls _ q
end
end
section
open Vbcraf
theorem yf(k:Rat):∀l:List Rat,(l.map (k*·)).sum=k*l.sum
 |[]=>by simp
 |x::r=>by rw[cx,jk,yf k r,jk,Rat.mul_add]
theorem jB:∀{l:List Rat},(∀x∈l,0<=x)->0<=l.sum
 |[],_=>by simp
 |x::r,h=>by exact Qr (h x (bQ ..)) (jB λy a=>h y (bG _ a))
theorem jU:∀{l:List Rat} {x:Rat},(∀x∈l,0<=x)->x∈l->x<=l.sum
 |[],_,_,h=>by cases h
 |y::r,x,h,a=>by
  have d:=jB λz b=>h z (bG _ b);rcases cU.mp a with rfl|a
  .grind
  .have c:=jU (λz b=>h z (bG _ b)) a
   grind [bQ]
theorem Lv:∀{a b:List Rat},a.length=b.length->(c_ a b).sum=a.sum+b.sum
 |[],[],_=>by unfold c_;simp[jj]
 |x::a,y::b,h=>by
  have c:=Lv (Qo h);show((x+y)::c_ a b).sum=_
  grind
theorem Lw:∀{a b:List Rat},(∀x∈a,0<=x)->(∀x∈b,0<=x)->∀x∈c_ a b,0<=x
 |[],_,_,_=>by unfold c_;simp
 |_::_,[],_,_=>by unfold c_;simp
 |x::a,y::b,e,f=>by
  intro z g;have c:=g;rcases cU.mp c with rfl|c
  .grind [bQ]
  .exact Lw (λq d=>e q (bG _ d)) (λq d=>f q (bG _ d)) z c
theorem B2:∀(c:List PR) (a:List Rat),(∀x∈a,0<=x)->(∀p∈c,∀x∈p.green,0<=x)->∀x∈c.foldl (λs p=>c_ s p.green) a,0<=x
 |[],_,b,_=>b
 |p::r,_,b,hp=>B2 r _ (Lw b (hp p (bQ ..))) (λq d=>hp q (bG _ d))
section
variable{G:WR}{Z Υ:Rat}{j n:Nat}{Ψ:PR}{θ:List PR}
theorem yh:∀(b:List PR) (a:List Rat),a.length=n->(∀p∈b,p.green.length=n)->(b.foldl (λs p=>c_ s p.green) a).sum=a.sum+(b.map λp=>p.green.sum).sum
 |[],a,_,_=>by simp[jj]
 |p::r,a,c,hp=>by have d:=hp p (bQ ..);rw[fI,yh r _ (BW c d) (λq e=>hp q (bG _ e)),Lv (by rw[c,d]),cx,jk,HW]
theorem nB(p:PR)(a:List PR):bw (p::a)=p.kilos+bw a:=by rfl
theorem oP:bw []=0:=rfl
theorem Lx(a b:List PR):bw (a++b)=bw a+bw b:=by unfold bw;simp
def yi(h:∀p∈θ,p.Ok n):0<=bw θ:=by refine jB λx a=>?_;obtain⟨p,hp,rfl⟩:=bF.mp a;exact d8 (h p hp).pos
def Vg(hp:Ψ.Ok n)(h:∀q∈θ,q.Ok n):(uP Ψ θ).Ok n:=by?
 have b:∀x∈(θ.map λΨ=>Ψ.green.sum),0<=x:=by intro x c;obtain⟨q,a,rfl⟩:=bF.mp c;exact d8 (h q a).some
 refine%[?_,BZ θ _ hp.len λq a=>(h q a).len,B2 θ _ hp.nn λq a=>(h q a).nn|?_]
 .show 0<bw _;rw[nB];have:=yi h;have:=hp.pos
  grind
 .show 0<(θ.foldl (λs Ψ=>c_ s Ψ.green) Ψ.green).sum;rw[yh θ _ hp.len λq a=>(h q a).len];have:=jB b;have:=hp.some
  grind
theorem uQ(h:∀q∈θ,q.Ok n):∀q∈eU θ,q.Ok n:=by
 cases θ with
 |nil=>intro q a;cases a
 |cons p r=>
  simp_all [eU,Vg,bQ]
def Vh{Η:Bool}{b:List PR}(c:∀p∈θ,p.Ok n)(d:∀p∈b,p.Ok n):∀p∈fU Η θ b,p.Ok n:=by grind [fU,uQ]
theorem Vi(a:0<Z)(h:Ψ.Ok n):(i9 Z Ψ).Ok n:=by?
 refine%[An a h.pos,by show(Ψ.green.map _).length=n;rw[aY];exact h.len,?_|?_]
 .intro g b;obtain⟨x,c,rfl⟩:=bF.mp (b);exact H_ (d8 a) (h.nn x c)
 .show 0<(Ψ.green.map _).sum;rw[yf];exact An a h.some
theorem yj(a:0<Z)(b:0<Υ):0<Z/Υ:=by exact An a (Qs.mpr b)
def Ly(a:0<Υ)(h:Z<Υ):Z/Υ<1:=by simp_all [Rat.div_lt_iff]
theorem lB:∀(a:List PR) (k:Rat),(∀p∈a,p.Ok n)->(∀p∈(cz a k).1,p.Ok n)/\∀p∈(cz a k).2,p.Ok n
 |[],_,_=>%[(by intro p hp;cases hp)|(by intro p hp;cases hp)]
 |p::r,k,h=>by?
  have hp:=h p (bQ ..);have b:=λq c=>h q (bG _ c);have g:=lB r (k-p.kilos) b;unfold cz;split
  .grind
  .rename_i d;split
   ·(simp[*];omega)
   .rename_i e;have k0:=Rat.not_le.mp d;have f:=Rat.not_le.mp e;have i:=yj k0 hp.pos;have j:=Ly hp.pos f
    grind [Vi]
theorem Lz:∀(a:List PR) (k:Rat),(∀p∈a,p.Ok n)->0<=k->k<=bw a->bw (cz a k).1=k/\bw (cz a k).2=bw a-k
 |[],k,_,h0,b=>by
  rw[oP]at b;have:k=0:=by exact kR (Rat.le_antisymm h0 b)
  subst this;exact%[rfl|by show(0)=0-0;exact kR Rat.sub_self]
 |p::r,k,h,h0,b=>by
  have c:=λq d=>h q (bG _ d);unfold cz;split
  .grind [bw]
  .split
   .have e:=Lz r (k-p.kilos) c (by grind) (by grind [nB])
    grind [nB]
   grind-order [i9,nB,oP]
theorem jV(h:1<=n):(0:Rat)<((n:Int):Rat):=by rw[nZ];simp+arith [*]
def yk{d:Nat}(i:j<n)(c:1<=d):(fe n j d).Ok n:=by?
 have a:=jV c;refine%[a,by show((cS n _).set j _).length=n;simp,?_|?_]
 .intro g e;have f:g∈(cS n _).set j _:=e
  grind
 .show 0<((cS n _).set j _).sum;have:∀(n j:Nat) (x:Rat),j<n->((cS n (0)).set j x).sum=x:=by
   intro n;induction n with
   |zero=>intro j x h;cbv
   |succ n b=>
    intro j x h;rw[P8];cases j with
    |zero=>
     rw[adL,jk];have z:(cS n (0:Rat)).sum=0:=by
      clear b h;induction n with
      |zero=>rfl
      |succ n b=>grind
     rw[z,jj]
    |succ j=>grind
  cbv
theorem oQ(h:G.Ok n j)(i:Nat)(hp:∀p∈θ,p.Ok n):(cI G i θ).Ok n j:=by?
 refine%[by show(G.places.set i θ).length=j;rw[wB];exact h.len,?_,h.sold,h.lost,h.eV|h.yd];intro a b;rcases wI (b)with z|z
 .exact h.parts a z
 .rw[z];exact hp
theorem LB{pl:List (Text×Bool)}(h:G.Ok n j)(i:Nat)(hp:∀p∈θ,p.Ok n):(qb pl G i θ).Ok n j:=oQ h i (Vh (h.at_ i) hp)
def Vj(h:∀p∈θ,p.green.length=n):((eU θ).map λp=>p.green.getD j 0).sum=(θ.map λp=>p.green.getD j 0).sum:=by?
 cases θ with
 |nil=>rfl
 |cons p r=>
  unfold eU;rw[cx,wJ,jk,List.sum_nil,jj,cx,jk];show(r.foldl (λs p=>c_ s p.green) p.green).getD j 0=_;rw[BY r p.green (h p (bQ ..)) λq a=>h q (bG _ a)]
def B3{pl:List (Text×Bool)}{v:WR}{d:Deed}(h:G.Ok n pl.length)(hd:Deed.In n pl.length d)(e:cJ n pl G d=some v):v.Ok n pl.length:=by?
 cases d with
 |come l k i=>
  have c:=e;rw[<-cE c];exact LB h i λp hp=>by rw[fJ.mp hp];exact yk hd.1 hd.2.1
 |move k i j=>
  dsimp only[cJ]at e;split at e
  .cases e
  .rw[<-cE e];have t:=lB _ ((k:Int)) (h.at_ i)
   grind [LB,oQ]
 |weigh i k=>
  dsimp only[cJ]at e;split at e
  .cases e
  .rw[<-cE e];have b:=jV hd.1;refine oQ h i λp hp=>?_
   obtain⟨q,f,rfl⟩:=bF.mp hp;have a:=h.at_ i q f;refine%[An a.pos (yj b ?_),a.len,a.nn|a.some]
   grind
 |sell k i=>
  dsimp only[cJ]at e;split at e
  .cases e
  .rw[<-cE e];have t:=lB _ ((k:Int)) (h.at_ i);have o:=oQ h i t.2;exact%[o.len,o.parts,λp hp=>(eF.mp hp).elim (h.sold p) (uQ t.1 p),o.lost,o.eV|o.yd]
 |waste k i=>
  dsimp only[cJ]at e;split at e
  .cases e
  .rw[<-cE e];have t:=lB _ ((k:Int)) (h.at_ i);have o:=oQ h i t.2;refine%[o.len,o.parts,o.sold,λp hp=>(eF.mp hp).elim (h.lost p) (uQ t.1 p),λp hp=>(eF.mp hp).elim (h.eV p) (t.1 p)|λl=>?_];rw[cF,cF,Ia,Ia,h.yd l,Vj (λp hp=>(t.1 p hp).len)]
def Vk{pl:List (Text×Bool)}{a:List (List PR)}(h:a.length=pl.length):(kC pl a).length=pl.length:=by simp_all [kC]
def Vl{pl:List (Text×Bool)}{d:Deed}(h:G.Ok n pl.length)(hd:Deed.In n pl.length d):doneIn n (G.q pl) d=(cJ n pl G d).map (·.q pl):=by?
 have g:(G.q pl).places.length=pl.length:=Vk h.len;cases d with
 |come l k i=>
  dsimp only[doneIn,cJ];rw[aS (by rw[g];exact hd.2.2.2)];have e:(%[whole k|(cS n zero).set l (whole k)]:Part)=(fe n l k).q:=by unfold fe PR.q;simp only[Qt,Qp];rfl
  rw[e];show some (putAt n (G.q pl) i ([fe n l k].map PR.q))=_;rw[Lu [fe n l k] h λp hp=>by rw[fJ.mp hp];exact yk hd.1 hd.2.1];rfl
 |move k i j=>
  dsimp only[doneIn,cJ];have t:=lB (aO G i) ((k:Int):Rat) (h.at_ i);simp only[qc i h.len,su,x_,lt_eq,yc _ _ (h.at_ i),ye _ h.len,g];rw[Lu _ (oQ h i t.2) t.1];have m:=by have:=hd.2.2.2;omega
  by_cases c:bw (aO G i)<((k:Int):Rat)<;>simp[c,m]
 |weigh i k=>
  dsimp only[doneIn,cJ];have o:=jV hd.1;simp only[qc i h.len,su,x_,lt_eq];by_cases c:bw (aO G i)<((k:Int):Rat)
  .simp[c]
  .have f:(jL PR.q (aO G i)).isEmpty=false:=by
    cases q:aO G i with
    |nil=>
     simp_all [oP]
    |cons a r=>rfl
   have b:0<bw (aO G i):=by grind
   simp only[c,f,decide_false,or_self,if_false];rw[div_eq b];have e:(jL PR.q (aO G i)).map (λp=>(%[mul p.kilos (bc (((k:Int):Rat)/bw (aO G i)))|p.green]:Part))=
     ((aO G i).map λp=>(%[p.kilos*(((k:Int):Rat)/bw (aO G i))|p.green]:PR)).map PR.q:=by
    rw[cC,cC];refine jq λp u=>?_
    show Part.mk (mul (bc p.kilos) _) _=Part.mk _ _;rw[mul_eq];rfl
   rw[e,ye _ h.len];rfl
 |sell k i=>
  dsimp only[doneIn,cJ];have t:=lB (aO G i) ((k:Int):Rat) (h.at_ i);simp only[qc i h.len,su,x_,lt_eq,yc _ _ (h.at_ i),ye _ h.len,B0 _ (λp hp=>(t.1 p hp).len)]
  grind [WR.q]
 |waste k i=>
  dsimp only[doneIn,cJ];have t:=lB (aO G i) ((k:Int):Rat) (h.at_ i);simp only[qc i h.len,su,x_,lt_eq,yc _ _ (h.at_ i),ye _ h.len,B0 _ (λp hp=>(t.1 p hp).len)]
  grind [WR.q]
end
end
section
open Vbcraf
section
variable{N Ξ:Type}{j n:Nat}
theorem LC(f:Nat->N->List Ξ):∀(l:List N) (k:Nat),
  ((wK k l.length).flatMap λc=>match l[c-k]? with
   |none=>[]
   |some d=>f c d)=(l.zipIdx k).flatMap λx=>f x.2 x.1
 |[],k=>rfl
 |a::r,k=>by
  rw[iu,adM,jr,adN,jr];have g:=LC f r (k+1);rw[<-g];have h:(a::r)[k-k]?=some a:=by simp
  rw[h];congr 1;have e:∀c∈wK (k+1) r.length,(a::r)[c-k]?=r[c-(k+1)]?:=by grind
  have gen:∀b:List Nat,(∀c∈b,(a::r)[c-k]?=r[c-(k+1)]?)->(b.flatMap λc=>match(a::r)[c-k]? with
    |none=>[]
    |some d=>f c d)=b.flatMap λc=>match r[c-(k+1)]? with
    |none=>[]
    |some d=>f c d:=by
   intro b;induction b with
   |nil=>intro _;rfl
   |cons c b i=>
    cbv
  exact gen _ e
abbrev cB:=List (List Nat×WR)
def jW(n:Nat)(pl:List (Text×Bool))(a:List Deed)(x:List Nat×WR):cB:=
 a.zipIdx.flatMap λd=>match cJ n pl x.2 d.1 with
  |none=>[]
  |some v=>[(x.1++[d.2],v)]
def eC(n:Nat)(pl:List (Text×Bool)):WR->List Entry->cB
 |w,[]=>[([],w)]
 |w,e::r=>e.ways.zipIdx.flatMap λd=>match cJ n pl w d.1 with
  |none=>[]
  |some v=>(eC n pl v r).map λx=>(d.2::x.1,x.2)
def qW(pl:List (Text×Bool))(x:List Nat×WR):List Nat×World:=(x.1,x.2.q pl)
theorem mE{f g:N->List Ξ}:∀{l:List N},(∀a∈l,f a=g a)->l.flatMap f=l.flatMap g
 |[],_=>rfl
 |a::r,h=>by rw[jr,jr,h a (bQ ..),mE λb c=>h b (bG _ c)]
theorem qd{γ:Type}(f:N->List Ξ)(g:Ξ->γ):∀l:List N,(l.flatMap f).map g=l.flatMap λa=>(f a).map g
 |[]=>rfl
 |a::r=>by rw[jr,cF,qd f g r,jr]
def B4{l:List N}{x:N×Nat}(h:x∈l.zipIdx):x.1∈l:=by obtain⟨a,i⟩:=x;exact(List.mem_zipIdx' h).2▸wL _
theorem LD{pl:List (Text×Bool)}:∀(b:List Entry) (w:WR),w.Ok n pl.length->(∀e∈b,∀d∈e.ways,Deed.In n pl.length d)->
  ways n (w.q pl) b=(eC n pl w b).map (qW pl)
 |[],w,_,_=>rfl
 |e::r,w,hw,he=>by
  have hd:=he e (bQ ..);unfold ways eC;have:=LC (λc d=>match doneIn n (w.q pl) d with
   |none=>[]
   |some v=>(ways n v r).map λx=>(c::x.1,x.2)) e.ways 0
  simp only[<-adO]at this;refine Eq.trans (Eq.trans (mE λc _=>?_) this) ?_
  .rw[Nat.sub_zero];cases e.ways[c]?<;>rfl
  rw[qd];refine mE λd f=>?_
  have a:=hd d.1 (B4 f);rw[Vl hw a];cases q:cJ n pl w d.1 with
  |none=>rfl
  |some v=>
   show(ways n _ r).map _=jL _ _;rw[LD r v (B3 hw a q) (λe g=>he e (bG _ g)),cC,cC];rfl
theorem LF{pl:List (Text×Bool)}(e:Entry):∀(a:List Entry) (w:WR),eC n pl w (a++[e])=(eC n pl w a).flatMap (jW n pl e.ways)
 |[],w=>by simp_all [eC,jW]
 |b::r,w=>by
  conv=>lhs;unfold eC
  conv=>rhs;unfold eC
  rw[List.flatMap_assoc];refine mE λd c=>?_
  cases cJ n pl w d.1 with
  |none=>rfl
  |some v=>
   show jL _ (eC n pl v (r++[e]))=List.flatMap _ _;rw[LF e r v,qd,Ao];refine mE λx c=>?_
   unfold jW;rw[qd]
   grind [mE]
theorem LG{pl:List (Text×Bool)}:∀(b:List Entry) (w:WR),w.Ok n pl.length->(∀e∈b,∀d∈e.ways,Deed.In n pl.length d)->
  ∀x∈eC n pl w b,x.2.Ok n pl.length/\x.1.length=b.length
 |[],w,hw,_,x,a=>by rw[fJ.mp (a)];exact%[hw|rfl]
 |e::r,w,hw,he,x,a=>by
  obtain⟨d,hd,a⟩:=Qu.mp a;have c:=he e (bQ ..) d.1 (B4 hd);cases q:cJ n pl w d.1 with
  |none=>rw[q]at a;cases a
  |some v=>
   rw[q]at a;obtain⟨y,g,rfl⟩:=bF.mp a;have h:=LG r v (B3 hw c q) (λe f=>he e (bG _ f)) y g
   (simp;omega)
theorem B5(f:N->List Ξ)(p:Ξ->Bool):∀l:List N,(l.flatMap f).filter p=l.flatMap λa=>(f a).filter p
 |[]=>rfl
 |a::r=>by rw[jr,List.filter_append,B5 f p r,jr]
theorem LH{pl:List (Text×Bool)}{d:Deed}:∀(s:List Entry) (i:Nat) (w:WR) (e:Entry),s[i]?=some e->e.ways[j]?=some d->
  eC n pl w (s.set i ⟨[d]⟩)=((eC n pl w s).filter λx=>x.1[i]?==some j).map λx=>(x.1.set i 0,x.2)
 |[],i,w,e,h,_=>by simp at h
 |p::r,0,w,e,h,hd=>by
  have D:p=e:=by simpa using h
  subst D;show eC n pl w (⟨[d]⟩::r)=_;unfold eC;have A:([d].zipIdx.flatMap λd=>match cJ n pl w d.1 with
    |none=>[]
    |some v=>(eC n pl v r).map λx=>(d.2::x.1,x.2))=match cJ n pl w d with
    |none=>[]
    |some v=>(eC n pl v r).map λx=>(0::x.1,x.2):=by?
   show List.flatMap _ [(d,0)]=_;rw[jr,wM,g9]
  show([d].zipIdx.flatMap _)=_;rw[A,B5,qd];have gen:∀(l:List Deed) (k:Nat),j>=k->l[j-k]?=some d->((l.zipIdx k).flatMap λa=>jL (λx:List Nat×WR=>(x.1.set 0 0,x.2)) (Ap (λx=>x.1[0]?==some j) (match cJ n pl w a.1 with
    |none=>[]
    |some v=>(eC n pl v r).map λx=>(a.2::x.1,x.2))))=match cJ n pl w d with
    |none=>[]
    |some v=>(eC n pl v r).map λx=>(0::x.1,x.2):=by
   have f:∀(l:List Deed) (k:Nat),j<k->((l.zipIdx k).flatMap λa=>jL (λx:List Nat×WR=>(x.1.set 0 0,x.2)) (Ap (λx=>x.1[0]?==some j) (match cJ n pl w a.1 with
     |none=>[]
     |some v=>(eC n pl v r).map λx=>(a.2::x.1,x.2))))=[]:=by
    intro l k t;refine List.flatMap_eq_nil_iff.mpr λa B=>?_
    have u:j<a.2:=fz t (List.le_snd_of_mem_zipIdx B);rw[Qv,Qw];intro x b;cases q:cJ n pl w a.1 with
    |none=>rw[q]at b;cases b
    |some v=>
     rw[q]at b;obtain⟨y,_,rfl⟩:=bF.mp b;simp;exact Nat.ne_of_lt' u
   intro l;induction l with
   |nil=>intro k t h;simp at h
   |cons a l C=>
    intro k t h;rw[adN,jr];by_cases m:j=k
    .subst m;have:a=d:=by simpa using h
     subst this;rw[f l (j+1) (by exact Nat.lt_add_one j),g9];cases cJ n pl w a with
     |none=>rfl
     |some v=>
      show jL _ (Ap _ (jL _ _))=jL _ _;rw[List.filter_eq_self.mpr,cC]
      .rfl
      .intro x b;obtain⟨y,_,rfl⟩:=bF.mp b;simp
    .have z:l[j-(k+1)]?=some d:=by
      have:j-k=(j-(k+1))+1:=by lia
      rw[this,HR]at h;exact h
     have o:=C (k+1) (by lia) z;rw[o];have g:jL (λx:List Nat×WR=>(x.1.set 0 0,x.2)) (Ap (λx=>x.1[0]?==some j) (match cJ n pl w a with
       |none=>[]
       |some v=>(eC n pl v r).map λx=>(k::x.1,x.2)))=[]:=by
      rw[Qv,Qw];intro x b;cases q:cJ n pl w a with
      |none=>rw[q]at b;cases b
      |some v=>
       rw[q]at b;obtain⟨y,_,rfl⟩:=bF.mp b;simp;exact Ne.intro λa↦m (id (kR a))
     rw[g,P_]
  exact(gen p.ways 0 (by exact bM j) (by simpa using hd)).symm
 |p::r,i+1,w,e,h,hd=>by
  have z:r[i]?=some e:=by simpa using h
  show eC n pl w (p::r.set i ⟨[d]⟩)=_
  conv=>lhs;unfold eC
  conv=>rhs;unfold eC
  rw[B5,qd];refine mE λa _=>?_
  cases cJ n pl w a.1 with
  |none=>rfl
  |some v=>
   show jL _ (eC n pl v (r.set i ⟨[d]⟩))=jL _ (Ap _ (jL _ _));rw[LH r i v e z hd,adQ,cC,cC];rfl
end
end
section
open Vbcraf
def Dv(D:Nat)(x:Rat):Prop:=∃z:Int,x*((D:Int):Rat)=z
section
variable{Z Υ:Rat}{j n:Nat}{Η:Bool}{θ:List PR}
def Dv.add(c:Dv n Z)(d:Dv n Υ):Dv n (Z+Υ):=by obtain⟨a,e⟩:=c;obtain⟨b,f⟩:=d;exact%[a+b|by grind]
def Dv.sub(c:Dv n Z)(d:Dv n Υ):Dv n (Z-Υ):=by obtain⟨a,e⟩:=c;obtain⟨b,f⟩:=d;exact%[a-b|by grind]
def Dv.zero(D:Nat):Dv D 0:=%[0|by rw[Rat.zero_mul];rfl]
def Dv.int(D:Nat)(z:Int):Dv D (z:Rat):=%[z*D|by rw[Ib]]
def Dv.mul(c:Dv n Z)(d:Dv j Υ):Dv (n*j) (Z*Υ):=by
 obtain⟨a,e⟩:=c;obtain⟨b,f⟩:=d;refine%[a*b|?_]
 grind
def Dv.mono(a:Dv n Z)(E:Nat):Dv (n*E) Z:=by
 have:=a.mul (Dv.int E 1)
 cbv
theorem Dv.sum:∀{l:List Rat},(∀x∈l,Dv n x)->Dv n l.sum
 |[],_=>Dv.zero n
 |x::r,h=>by exact(h x (bQ ..)).add (Dv.sum λy a=>h y (bG _ a))
theorem Dv.den(c:0<n)(h:Dv n Z):Z.den∣n:=by?
 obtain⟨z,b⟩:=h;have a:((n:Int):Rat)≠0:=by
  intro e;have:=adS.mp e
  cbv
 have e:Z=mkRat z n:=by rw[Qx];have:Z*((n:Int))/((n:Int))=Z:=Rat.mul_div_cancel a;rw[<-this,b];rfl
 grind [Ql,Nat.div_dvd_of_dvd,HY]
def B6(f:0<n)(g:0<Υ)(h:Υ<=((j:Int):Rat))(d:Dv n Z)(c:Dv n Υ):X1 λ(B:Nat)=>A3 (0<B) (B<=j*n) (Dv B (Z/Υ)):=by?
 obtain⟨a,i⟩:=d;obtain⟨b,l⟩:=c;have e:(0)<((n:Int):Rat):=by rw[nZ];simp[*]
 have b0:=by
  have:(0)<(b:Rat):=by grind [An]
  exact nZ.mp this
 have b1:=by
  have:(b:Rat)<=(((j*n:Nat):Int)):=by grind [Aq]
  have:=i5.mp this;omega
 refine%[b.toNat,by simp[*],by cbv,a|?_]
 grind
def bI(a:List PR):Rat:=(a.map λp=>p.green.sum).sum
def ie(a b:List PR):bI (a++b)=bI a+bI b:=by unfold bI;simp
def qe(p:PR)(a:List PR):bI (p::a)=p.green.sum+bI a:=by rfl
def ym(h:∀p∈θ,p.Ok n):bI (eU θ)=bI θ:=by
 cases θ with
 |nil=>rfl
 |cons p r=>
  show(r.foldl (λs p=>c_ s p.green) p.green).sum+0=_;rw[yh r _ (h p (bQ ..)).len λq a=>(h q (bG _ a)).len,jj];rfl
theorem B7(a:List PR):bw (eU a)=bw a:=by
 cases a with
 |nil=>rfl
 |cons p r=>
  unfold eU;rw[nB,oP,jj];rfl
theorem B8(a:List PR):(eU a).length<=a.length/\(eU a).length<=1:=by
 cases a with
 |nil=>exact%[bx _|bM _]
 |cons p r=>exact%[by show 1<=r.length+1;simp|bx _]
def LI{b:List PR}(c:∀p∈θ,p.Ok n)(d:∀p∈b,p.Ok n):bI (fU Η θ b)=bI θ+bI b:=by
 unfold fU;split
 .exact ie θ b
 .rw[ym λp hp=>(eF.mp hp).elim (c p) (d p),ie]
theorem yn(s:Bool)(a b:List PR):bw (fU s a b)=bw a+bw b:=by grind [fU,Lx,B7]
def LJ(s:Bool)(a b:List PR):(fU s a b).length<=a.length+b.length:=by grind [fU,B8]
theorem LK:∀(a:List PR) (k:Rat),bI (cz a k).1+bI (cz a k).2=bI a
 |[],_=>by? show(0)+0=0;exact HX 0
 |p::r,k=>by?
  have b:=LK r (k-p.kilos);unfold cz;split
  .exact HX _
  .split
   .show bI (p::_)+bI _=_;rw[qe,qe,HW];exact congrArg _ b
   .show bI [i9 _ p]+bI (i9 _ p::r)=_;rw[qe,qe,qe];show(p.green.map (k/p.kilos*·)).sum+0+((p.green.map ((1-k/p.kilos)*·)).sum+_)=_;rw[yf,yf];grind
theorem LL:∀(a:List PR) (k:Rat),(cz a k).1.length+(cz a k).2.length<=a.length+1
 |[],_=>bM _
 |p::r,k=>by
  have b:=LL r (k-p.kilos)
  grind [cz]
theorem LM{I d:Nat}(i:0<j):∀(f:List PR) (k:Rat),(∀p∈f,p.Ok n)->(∀p∈f,p.kilos<=((I:Int):Rat))->(∀p∈f,Dv j p.kilos)->(∀p∈f,∀g∈p.green,Dv d g)->Dv j k->1<=I->
  X1 λ(B:Nat)=>A3 (0<B) (B<=I*j) (∀p,p∈(cz f k).1\/p∈(cz f k).2->Dv j p.kilos/\∀g∈p.green,Dv (d*B) g)
 |[],k,_,_,_,_,_,l=>⟨1,by exact Ic,rg l i,λp hp=>by? rcases hp with hp|hp<;>cases hp⟩
 |p::r,k,s,hm,t,u,c,l=>by?
  have y:=s p (bQ ..);have k0:=t p (bQ ..);have m:=u p (bQ ..);have v:=λq a=>t q (bG _ a);have gr:=λq a=>u q (bG _ a);unfold cz;split
  .refine%[1,by exact Ic,rg l i|λq a=>?_]
   grind
  .split
   .obtain⟨B,b0,b1,h⟩:=LM i r _ (λq a=>s q (bG _ a)) (λq a=>hm q (bG _ a)) v gr (c.sub k0) l;refine%[B,b0,b1|λq a=>?_];rcases a with a|a
    .rcases cU.mp (a)with rfl|a
     .exact%[k0|λg b=>(m g b).mono B]
     .exact h q (.inl a)
    .exact h q (.inr a)
   .obtain⟨B,b0,b1,w⟩:=B6 i y.pos (hm p (bQ ..)) c k0;have e:k/p.kilos*p.kilos=k:=wN (λz=>Ie (z▸y.pos));refine%[B,b0,b1|λq a=>?_];have one:=Dv.int B 1;rcases a with a|a
    .rw[fJ.mp (a)];refine%[by show Dv j (k/p.kilos*p.kilos);rw[e];exact c|λg b=>?_];obtain⟨x,o,rfl⟩:=bF.mp (b);rw[wO];exact(m x o).mul w
    .rcases cU.mp (a)with rfl|a
     .refine%[?_|λg b=>?_]
      .have A:(1-k/p.kilos)*p.kilos=p.kilos-k:=by grind
       show Dv j ((1-k/p.kilos)*p.kilos);rw[A];exact k0.sub c
      .obtain⟨x,o,rfl⟩:=bF.mp (b);rw[wO];exact(m x o).mul (one.sub w)
     .exact%[v q a|λg b=>(gr q a g b).mono B]
theorem LN:∀{a b:List Rat},(∀x∈a,Dv n x)->(∀x∈b,Dv n x)->∀x∈c_ a b,Dv n x
 |[],_,_,_=>by unfold c_;simp
 |_::_,[],_,_=>by unfold c_;simp
 |x::a,y::b,e,f=>by
  intro z g;rcases cU.mp (g)with rfl|c
  .exact(e x (bQ ..)).add (f y (bQ ..))
  .exact LN (λq d=>e q (bG _ d)) (λq d=>f q (bG _ d)) z c
theorem B9:∀(c:List PR) (a:List Rat),(∀x∈a,Dv n x)->(∀p∈c,∀x∈p.green,Dv n x)->∀x∈c.foldl (λs p=>c_ s p.green) a,Dv n x
 |[],_,b,_=>b
 |p::r,_,b,hp=>B9 r _ (LN b (hp p (bQ ..))) (λq d=>hp q (bG _ d))
def B_(c:∀p∈θ,Dv n p.kilos)(b:∀p∈θ,∀g∈p.green,Dv j g):∀p∈eU θ,Dv n p.kilos/\∀g∈p.green,Dv j g:=by
 cases θ with
 |nil=>intro p hp;cases hp
 |cons p r=>
  intro q a;rw[fJ.mp (a)];refine%[?_|B9 r _ (b p (bQ ..)) λq a=>b q (bG _ a)];refine Dv.sum λx d=>?_
  grind
def LO{b:List PR}(c:∀p∈θ++b,Dv n p.kilos)(d:∀p∈θ++b,∀g∈p.green,Dv j g):∀p∈fU Η θ b,Dv n p.kilos/\∀g∈p.green,Dv j g:=by
 unfold fU;split
 ·(cbv;omega)
 .exact B_ c d
end
end
section
open Vbcraf
def cX(f:List PR->Rat)(l:List (List PR)):Rat:=(l.map f).sum
theorem LP(f:List PR->Rat):∀(l:List (List PR)) (i:Nat) (x:List PR),i<l.length->cX f (l.set i x)=cX f l-f (l.getD i [])+f x
 |[],i,x,h=>by simp at h
 |a::r,0,x,_=>by grind [cX]
 |a::r,i+1,x,h=>by
  have b:=LP f r i x (by simpa using h)
  grind [cX]
section
variable{G:WR}{I d j n υ:Nat}{θ:List PR}
theorem qf{f:List PR->Rat}{l:List (List PR)}(b:∀θ∈l,0<=f θ)(h:θ∈l):f θ<=cX f l:=by
 refine jU (λx a=>?_) (g_ h)
 grind
def cj(a:List PR):Rat:=((a.length:Int):Rat)
structure Sz(N:Nat)(w:WR):Prop where
 ex:∃(K D a b:Nat),0<K/\0<D/\a+b<=N/\K<=2^(19*a)/\D<=2^(19*(b*(a+1)))/\
  (∀c∈w.places,∀p∈c,Dv K p.kilos/\∀g∈p.green,Dv D g)/\(∀p∈w.sold++w.lost,Dv K p.kilos/\∀g∈p.green,Dv D g)/\(∀p∈w.eV,Dv K p.kilos/\∀g∈p.green,Dv D g)
 int:∀c∈w.places,∃z:Int,bw c=z
 yo:cX bw w.places<=((9999*N:Nat):Int)
 out:∀p∈w.sold++w.lost,p.kilos<=9999
 uR:cX bI w.places+bI (w.sold++w.lost)<=((9999*N:Nat):Int)
 cnt:cX cj w.places+cj w.eV<=((N:Nat):Int)
 gone:(w.sold++w.lost).length<=N
 qg:bI w.eV=bI w.lost
def Vm(k:Nat):Sz 0 (mD k):=by?
 have z:∀(f:List PR->Rat),f []=0->cX f (cS k [])=0:=by
  intro f d;induction k with
  |zero=>rfl
  |succ k c=>
   grind [cX]
 refine%[%[1,1,0,0,by exact Ic,by exact Ic,by simp,by simp,by exact Ig,?_,?_|λp hp=>nomatch hp],?_,?_,?_,?_,?_,?_|rfl]
 .intro b a p hp;rw[Qy a]at hp;cases hp
 .intro p hp;cases hp
 .intro b a;rw[Qy a];exact%[0|rfl]
 .show cX bw (cS k [])<=_;rw[z bw rfl];simp
 .intro p hp;cases hp
 .show cX bI (cS k [])+bI []<=_
  grind [bI]
 .show cX cj (cS k [])+cj []<=_;rw[z cj rfl];show(0)+0<=((0))
  grind
 .exact bx _
def fE(h:n<G.places.length):aO G n∈G.places:=by simp_all [aO]
def nE{ps:List PR}(h:∀p∈ps,p.Ok n):0<=bI ps:=by refine jB λx a=>?_;obtain⟨p,hp,rfl⟩:=bF.mp a;exact d8 (h p hp).some
def yp{Ψ:PR}(h:∀Ψ∈θ,Ψ.Ok n)(hp:Ψ∈θ):Ψ.kilos<=bw θ:=by refine jU (λx a=>?_) (g_ hp);obtain⟨q,b,rfl⟩:=bF.mp a;exact d8 (h q b).pos
def LQ(h:n<40):9999*(n+1)<=2^19:=by lia
def Ca(N:Nat):(((9999*(N+1):Nat):Int):Rat)=(((9999*N:Nat):Int):Rat)+9999:=by simp+arith
def LR(N:Nat):(((N+1:Nat):Int):Rat)=((N:Int):Rat)+1:=by simp
def uS(h:n<=9999):((n:Int):Rat)<=9999:=by have:((9999:Int):Rat)=9999:=rfl;rw[<-this,i5];exact Qz rfl rfl h
def LS(b:j<n):(fe n j d).green.sum=((d:Int):Rat):=by?
 have:∀(n j:Nat) (x:Rat),j<n->((cS n (0)).set j x).sum=x:=by
  intro n;induction n with
  |zero=>intro j x h;cbv
  |succ n a=>
   intro j x h;rw[P8];cases j with
   |zero=>
    rw[adL,jk];have z:(cS n (0:Rat)).sum=0:=by
     clear a h;induction n with
     |zero=>rfl
     |succ n a=>grind
    rw[z,jj]
   |succ j=>grind
 exact this _ _ _ b
def LU(a:List PR)(h:j≠n):aO (cI G n a) j=aO G j:=by grind [aO,cI]
def LV(a:List PR)(h:n<G.places.length):aO (cI G n a) n=a:=by simp_all [aO,cI]
structure LW(K D B:Nat)(a t l:List PR)(k:Nat):Prop where
 b0:0<B
 b1:B<=2^19*K
 tk:∀p∈t,Dv K p.kilos/\∀g∈p.green,Dv (D*B) g
 lk:∀p∈l,Dv K p.kilos/\∀g∈p.green,Dv (D*B) g
 kt:bw t=((k:Int):Rat)
 kl:bw l=bw a-((k:Int):Rat)
 gr:bI t+bI l=bI a
 ln:t.length+l.length<=a.length+1
def yq{i k:Nat}(h:0<I)(c:G.Ok n j)(l:i<j)(o:d<40)(q:Sz d G)(a:∀p∈aO G i,Dv I p.kilos/\∀g∈p.green,Dv υ g)
  (r:¬bw (aO G i)<((k:Int):Rat))(s:1<=k):∃B,LW I υ B (aO G i) (cz (aO G i) ((k:Int):Rat)).1 (cz (aO G i) ((k:Int):Rat)).2 k:=by?
 have b:=c.at_ i;have v:=fE (by rw[c.len];exact l);have t:∀p∈aO G i,p.kilos<=(((9999*(d+1):Nat):Int)):=by
  intro p hp;have y:=yp b hp;have z:=qf (λu a=>yi (c.parts u a)) v;have x:=q.yo
  grind
 obtain⟨B,b0,b1,e⟩:=LM h _ _ b t (λp hp=>(a p hp).1) (λp hp=>(a p hp).2) (Dv.int I k) (by simp+arith);have f:=Lz _ _ b (d8 (jV s)) (wQ.mp r);exact%[B,b0,bq b1 (adT I (LQ o)),λp hp=>e p (.inl hp),λp hp=>e p (.inr hp),f.1,f.2,LK _ _|LL _ _]
def pow_step(c:n<=2^(19*d))(f:j<=2^19*n)(g:I<=2^(19*(υ*(d+1)))):I*j<=2^(19*((υ+1)*(d+1))):=by
 have e:19*((υ+1)*(d+1))=19*(υ*(d+1))+(19+19*d):=by grind
 rw[e,Ih,Ih];exact wR g (bq f (Ii _ c))
def Sz.mono(h:Sz n G):Sz (n+1) G:=by?
 obtain⟨K,D,a,b,c,d,e,f⟩:=h.ex;have g:=Ca n;have i:=LR n;refine%[%[K,D,a,b,c,d,by exact Ar e|f],h.int,?_,h.out,?_,?_,lX h.gone|h.qg]
 .have:=h.yo;grind
 .have:=h.uR;grind
 .have:=h.cnt;grind
def kD{P:List PR->Prop}(h:∀a∈G.places,P a)(hp:P θ):∀a∈(cI G n θ).places,P a:=by
 intro a b;rcases wI (b)with z|z
 all_goals cbv
theorem i_(f:List PR->Rat)(a:List PR)(h:n<G.places.length):cX f (cI G n a).places=cX f G.places-f (aO G n)+f a:=LP f G.places n a h
theorem LX(a b:List PR):cj (a++b)=cj a+cj b:=by unfold cj;cbv
def LY{b c:List PR}(h:θ.length<=b.length+c.length):cj θ<=cj b+cj c:=by unfold cj;rw[<-tX,i5];exact Qz rfl rfl h
def Cb{l a:List PR}(h:θ.length+l.length<=a.length+1):cj θ+cj l<=cj a+1:=by unfold cj;have:((1:Int):Rat)=1:=rfl;rw[<-this,<-tX,<-tX,i5];exact Qz rfl rfl h
def Vn{pl:List (Text×Bool)}{v:WR}{d:Deed}(J:G.Ok n pl.length)(hd:Deed.In n pl.length d)(hN:j<40)(m:Sz j G)(e:cJ n pl G d=some v):Sz (j+1) v:=by?
 obtain⟨K,D,a,b,S,W,ab,V,hD,o,A,C⟩:=m.ex;have U:=Ca j;have c1:=LR j;have s1:=m.yo;have s2:=m.uR;have s3:=m.cnt;cases d with
 |come l k i=>
  obtain⟨hl,x,H,L⟩:=hd;have h:i<G.places.length:=by rw[J.len];exact L
  rw[<-cE (show some (qb pl G i [fe n l k])=some v from e)];have Q:=uS H;have hc:∀p∈[fe n l k],Dv K p.kilos/\∀g∈p.green,Dv D g:=by
   intro p hp;rw[fJ.mp hp];refine%[Dv.int K k|λg E=>?_];rcases wI (show g∈(cS n (0:Rat)).set l ((k:Int):Rat)from E)with z|z
   all_goals simp_all [Dv.zero,Dv.int]
  have aa:∀p∈[fe n l k],p.Ok n:=λp hp=>by simp_all [yk]
  have y:=o (aO G i) (fE h);have F:∀p∈aO G i++[fe n l k],Dv K p.kilos/\∀g∈p.green,Dv D g:=λp hp=>(eF.mp hp).elim (y p) (hc p);have kc:bw [fe n l k]=((k:Int):Rat):=by rw[nB,oP,jj];rfl
  have gc:bI [fe n l k]=((k:Int):Rat):=by rw[qe,LS hl];show _+(0:Rat)=_;rw[jj]
  refine%[%[K,D,a,b,S,W,by exact Ar ab,V,hD,kD o (LO (λp hp=>(F p hp).1) λp hp=>(F p hp).2),A|C],kD m.int ?_,?_,m.out,?_,?_,lX m.gone|m.qg]
  .obtain⟨z,M⟩:=m.int _ (fE h);exact%[z+k|by rw[yn,M,kc,tX]]
  .show cX bw (cI G i (fU (silo pl i) (aO G i) [fe n l k])).places<=_
   grind [i_,yn]
  .show cX bI (cI G i (fU (silo pl i) (aO G i) [fe n l k])).places+bI (G.sold++G.lost)<=_;rw[i_ bI _ h,LI (J.at_ i) aa,gc,U];grind
  .show cX cj (cI G i (fU (silo pl i) (aO G i) [fe n l k])).places+cj G.eV<=_;have q:=LY (LJ (silo pl i) (aO G i) [fe n l k]);have q1:cj [fe n l k]=1:=rfl
   grind [i_]
 |move k i f=>
  obtain⟨x,H,L,hj⟩:=hd;have h:i<G.places.length:=by rw[J.len];exact L
  dsimp only[cJ]at e;split at e
  .cases e
  .rename_i I;rw[<-cE e];have y:=o (aO G i) (fE h);obtain⟨B,T⟩:=yq S J L hN m y I x;have tok:=lB (aO G i) ((k:Int):Rat) (J.at_ i);generalize(cz (aO G i) ((k:Int):Rat)).1=t at T tok;generalize(cz (aO G i) ((k:Int):Rat)).2=lf at T tok;have X:(cI G i lf).Ok n pl.length:=oQ J i tok.2;have R:f<(cI G i lf).places.length:=by rw[X.len];exact hj
   have p1:∀u∈(cI G i lf).places,∀p∈u,Dv K p.kilos/\∀g∈p.green,Dv (D*B) g:=
    kD (λu s p hp=>%[(o u s p hp).1|λg E=>((o u s p hp).2 g E).mono B]) T.lk
   have i1:∀u∈(cI G i lf).places,∃z:Int,bw u=z:=by refine kD m.int ?_;obtain⟨z,M⟩:=m.int _ (fE h);exact%[z-k|by rw[T.kl,M,QA]]
   have Y:=p1 _ (fE R);have F:∀p∈aO (cI G i lf) f++t,Dv K p.kilos/\∀g∈p.green,Dv (D*B) g:=λp hp=>(eF.mp hp).elim (Y p) (T.tk p);refine%[%[K,D*B,a,b+1,S,rg W T.b0,by exact QB ab,V,pow_step V T.b1 hD,kD p1 (LO (λp hp=>(F p hp).1) λp hp=>(F p hp).2),λp hp=>%[(A p hp).1|λg E=>((A p hp).2 g E).mono B]|λp hp=>%[(C p hp).1|λg E=>((C p hp).2 g E).mono B]],
    kD i1 ?_,?_,m.out,?_,?_,lX m.gone|m.qg]
   .obtain⟨z,M⟩:=i1 _ (fE R);exact%[z+k|by rw[yn,M,T.kt,tX]]
   .show cX bw (cI (cI G i lf) f (fU (silo pl f) (aO (cI G i lf) f) t)).places<=_;rw[i_ bw _ R,i_ bw _ h,yn,T.kt,T.kl,U];grind
   .show cX bI (cI (cI G i lf) f (fU (silo pl f) (aO (cI G i lf) f) t)).places+bI (G.sold++G.lost)<=_;have:=T.gr;rw[i_ bI _ R,i_ bI _ h,LI (X.at_ f) tok.1,U];grind
   .show cX cj (cI (cI G i lf) f (fU (silo pl f) (aO (cI G i lf) f) t)).places+cj G.eV<=_;have q:=LY (LJ (silo pl f) (aO (cI G i lf) f) t);have q1:=Cb T.ln
    grind [i_]
 |weigh i k=>
  obtain⟨x,H,L⟩:=hd;have h:i<G.places.length:=by rw[J.len];exact L
  dsimp only[cJ]at e;split at e
  .cases e
  .rename_i I;rw[<-cE e];have y:=o (aO G i) (fE h);have av:=jV x;have a5:=wQ.mp I;have O:0<bw (aO G i):=by grind
   obtain⟨z,M⟩:=m.int _ (fE h);have z0:0<z:=by rw[M]at O;exact nZ.mp O
   have az:z<=((9999*(j+1):Nat):Int):=by
    have a2:=qf (f:=bw) (λu s=>yi (J.parts u s)) (fE h);have:(z:Rat)<=(((9999*(j+1):Nat):Int):Rat):=by rw[U,<-M];grind
    exact i5.mp this
   have a0:bw (aO G i)≠0:=λq=>Ie (q▸O);have ao:Dv z.toNat (((k:Int):Rat)/bw (aO G i)):=by
    refine%[k|?_]
    grind
   have ar:bw ((aO G i).map λp=>(%[p.kilos*(((k:Int):Rat)/bw (aO G i))|p.green]:PR))=((k:Int):Rat):=by
    have:∀(c:Rat) (u:List PR),bw (u.map λp=>(%[p.kilos*c|p.green]:PR))=bw u*c:=by
     intro c u;induction u with
     |nil=>show(0:Rat)=0*c;rw[Rat.zero_mul]
     |cons p r ih=>grind [nB]
    grind [wO,wN]
   have a3:bI ((aO G i).map λp=>(%[p.kilos*(((k:Int):Rat)/bw (aO G i))|p.green]:PR))=bI (aO G i):=by unfold bI;rw[cC];rfl
   have a4:cj ((aO G i).map λp=>(%[p.kilos*(((k:Int):Rat)/bw (aO G i))|p.green]:PR))=cj (aO G i):=by unfold cj;rw[aY]
   have zN:z.toNat<=2^19:=bq (by cbv) (LQ hN);refine%[%[K*z.toNat,D,a+1,b,rg S (by simp[*]),W,by simp+arith [*],?_,?_,?_,λp hp=>%[((A p hp).1).mono _|(A p hp).2]|λp hp=>%[((C p hp).1).mono _|(C p hp).2]],kD m.int %[k|ar],?_,m.out,?_,?_,lX m.gone|m.qg]
   .simp_all only[Nat.mul_add,Ih,wR]
   .grind [bq,gj]
   .refine kD (λu s p hp=>%[((o u s p hp).1).mono _|(o u s p hp).2]) λp hp=>?_;obtain⟨q,hq,rfl⟩:=bF.mp hp;exact%[(y q hq).1.mul ao|(y q hq).2]
   all_goals grind [i_,cI]
 |sell k i=>
  obtain⟨x,H,L⟩:=hd;have h:i<G.places.length:=by rw[J.len];exact L
  dsimp only[cJ]at e;split at e
  .cases e
  .rename_i I;rw[<-cE e];have y:=o (aO G i) (fE h);obtain⟨B,T⟩:=yq S J L hN m y I x;have tok:=lB (aO G i) ((k:Int):Rat) (J.at_ i);generalize(cz (aO G i) ((k:Int):Rat)).1=t at T tok;generalize(cz (aO G i) ((k:Int):Rat)).2=lf at T tok;have hb:=B_ (λp hp=>(T.tk p hp).1) λp hp=>(T.tk p hp).2
   have Q:=uS H;have out:∀p∈eU t,p.kilos<=9999:=by intro p hp;have:=yp (uQ tok.1) hp;rw[B7,T.kt]at this;exact d5 this Q
   have Z:∀{P:PR->Prop},(∀p∈G.sold++G.lost,P p)->(∀p∈eU t,P p)->∀p∈(G.sold++eU t)++G.lost,P p:=by grind
   refine%[%[K,D*B,a,b+1,S,rg W T.b0,by exact QB ab,V,pow_step V T.b1 hD,
     kD (λu s p hp=>%[(o u s p hp).1|λg E=>((o u s p hp).2 g E).mono B]) T.lk,Z (λp hp=>%[(A p hp).1|λg E=>((A p hp).2 g E).mono B]) hb|λp hp=>%[(C p hp).1|λg E=>((C p hp).2 g E).mono B]],
    kD m.int ?_,?_,Z m.out out,?_,?_,?_|m.qg]
   .obtain⟨z,M⟩:=m.int _ (fE h);exact%[z-k|by rw[T.kl,M,QA]]
   .show cX bw (cI G i lf).places<=_;have:=jV x;rw[i_ bw _ h,T.kl,U];grind
   .show cX bI (cI G i lf).places+bI ((G.sold++eU t)++G.lost)<=_;have:=T.gr;rw[ie]at s2;rw[i_ bI _ h,ie,ie,ym tok.1,U];grind
   .show cX cj (cI G i lf).places+cj G.eV<=_;have q1:=Cb T.ln
    grind-order [cj,mX,i_]
   .show((G.sold++eU t)++G.lost).length<=j+1;have g:=m.gone
    grind [B8]
 |waste k i=>
  obtain⟨x,H,L⟩:=hd;have h:i<G.places.length:=by rw[J.len];exact L
  dsimp only[cJ]at e;split at e
  .cases e
  .rename_i I;rw[<-cE e];have y:=o (aO G i) (fE h);obtain⟨B,T⟩:=yq S J L hN m y I x;have tok:=lB (aO G i) ((k:Int):Rat) (J.at_ i);generalize(cz (aO G i) ((k:Int):Rat)).1=t at T tok;generalize(cz (aO G i) ((k:Int):Rat)).2=lf at T tok;have hb:=B_ (λp hp=>(T.tk p hp).1) λp hp=>(T.tk p hp).2
   have Q:=uS H;have out:∀p∈eU t,p.kilos<=9999:=by intro p hp;have:=yp (uQ tok.1) hp;rw[B7,T.kt]at this;exact d5 this Q
   have Z:∀{P:PR->Prop},(∀p∈G.sold++G.lost,P p)->(∀p∈eU t,P p)->∀p∈G.sold++(G.lost++eU t),P p:=by grind
   refine%[%[K,D*B,a,b+1,S,rg W T.b0,by exact QB ab,V,pow_step V T.b1 hD,
     kD (λu s p hp=>%[(o u s p hp).1|λg E=>((o u s p hp).2 g E).mono B]) T.lk,Z (λp hp=>%[(A p hp).1|λg E=>((A p hp).2 g E).mono B]) hb|λp hp=>(eF.mp hp).elim (λhp=>%[(C p hp).1|λg E=>((C p hp).2 g E).mono B]) (T.tk p)],
    kD m.int ?_,?_,Z m.out out,?_,?_,?_|by show bI (G.eV++t)=bI (G.lost++eU t);rw[ie,ie,ym tok.1,m.qg]]
   .obtain⟨z,M⟩:=m.int _ (fE h);exact%[z-k|by rw[T.kl,M,QA]]
   .show cX bw (cI G i lf).places<=_;have:=jV x;rw[i_ bw _ h,T.kl,U];grind
   .show cX bI (cI G i lf).places+bI (G.sold++(G.lost++eU t))<=_;have:=T.gr;rw[ie]at s2;rw[i_ bI _ h,ie,ie,ym tok.1,U];grind
   .show cX cj (cI G i lf).places+cj (G.eV++t)<=_;have q1:=Cb T.ln
    grind [cj,mX,i_,LX]
   .show(G.sold++(G.lost++eU t)).length<=j+1;have g:=m.gone
    grind [B8]
theorem LZ{pl:List (Text×Bool)}:∀(c:List Entry) (w:WR) (N:Nat),w.Ok n pl.length->Sz N w->N+c.length<=40->(∀e∈c,∀d∈e.ways,Deed.In n pl.length d)->
  ∀x∈eC n pl w c,Sz (N+c.length) x.2
 |[],w,N,_,f,_,_,x,a=>by rw[fJ.mp (a)];exact f
 |e::r,w,N,hw,f,h,he,x,a=>by
  obtain⟨d,hd,a⟩:=Qu.mp a;have b:=he e (bQ ..) d.1 (B4 hd);rw[iu]at h⊢;cases q:cJ n pl w d.1 with
  |none=>rw[q]at a;cases a
  |some v=>
   rw[q]at a;obtain⟨y,i,rfl⟩:=bF.mp a;have j:=LZ r v _ (B3 hw b q) (Vn hw b (by exact Nat.lt_of_add_right_lt h) f q) (by lia) (λe g=>he e (bG _ g)) y i
   simp_all+arith
end
end
open PySem PySem.Spec PyProof.Rows L2
def Lg(z:Int):Prop:=z.natAbs<2^8999
section
variable{H J ο:Hp}{K:ah}{O:V}{Z:Rat}{a:ae}{j n:Nat}{ι:TE}
section
variable{S φ:Int}{X:Cx}{Ν:Hp}
def Lg.bits(h:Lg S):Ij S<=9000:=by
 unfold Ij;split
 .exact bM _
 .have a:S.natAbs≠0:=by cbv
  have:=(QC a).mpr h;exact lX this
def Lg.mul(a:Lg S)(b:Lg φ):IntMulOk S φ:=IntMulOk.of_le a.bits b.bits (by decide)
def Lg.log(a:Lg S):S.natAbs.log2<9000:=by
 rcases adV S.natAbs with h0|hp
 .rw[h0];decide
 .have:=(QC (j5 hp)).mpr a;exact bq (by assumption) (by decide)
def dc:[O].length<=bf:=by show 1<=bf;decide
def fV{b:V}:[O,b].length<=bf:=by show 2<=bf;decide
def nF:dE X (binaryOp .Mult) (rI (λi j=>Lg i/\Lg j) λi j=>.int (i*j)):=xG λb b b b b b b a q=>mul_int q (a.1.mul a.2)
def lC:dE X (binaryOp .FloorDiv) (rI (λb j=>0<j/\Lg j) λi j=>.int (i/j)):=xG λi j b b b b b a q=>
 floordiv_int (by have:=a.1;exact kP (Int.ne_of_lt this)) (by rw[Int.fdiv_eq_ediv_of_nonneg i (by have:=a.1;exact As this)];exact q) (.inl (PyProof.noPylong_of_log2 a.2.log))
structure ag(F H a c:Hp):Prop where
 same:aD H c
 fs:aD F a
 sub:aD a c
 new:∀b o,a b=some o->F b=some o\/H b=aq
theorem ag.refl(h:aD J H):ag J H J H:=%[aD.refl _,aD.refl _,h|λa a e=>.inl e]
theorem ag.trans{d f:Hp}(a:ag J H ο Ν)(b:ag ο Ν d f):ag J H d f:=
 %[a.same.trans b.same,a.fs.trans b.fs,b.sub|λc o e=>(b.new c o e).elim (a.new c o) λn=>.inr (a.same.free n)]
def cQ{o:HO}(n:H a=aq):aD H (upd H a o):=λb u e=>by grind [aB]
def ag.put{o:HO}(h:aD J H)(n:H a=aq):ag J H (upd J a o) (upd H a o):=by
 refine%[cQ n,cQ (h.free n),λb u e=>?_|λb u e=>?_]
 .by_cases q:b=a
  .simp_all [ak]
  .rw[aB q]at e⊢;exact h b u e
 grind [aB]
def ag.bD{o:HO}(h:aD J H)(n:H a=aq):ag J H J (upd H a o):=
 %[cQ n,aD.refl _,h.trans (cQ n)|λb b e=>.inl e]
def ag.fix{ψ:HO}(g:ag J H ο Ν)(n:H a=aq)(e:Ν a=some ψ)(c:ο a=aq\/ο a=some ψ):ag J H (upd ο a ψ) Ν:=by?
 refine%[g.same,λb u q=>?_,λb u q=>?_|λb u q=>?_]
 .have d:=g.fs b u q
  grind [ak,aB]
 .by_cases z:b=a
  .simp_all [ak]
  .rw[aB z]at q;exact g.sub b u q
 .by_cases z:b=a
  .subst z;exact .inr n
  .rw[aB z]at q;exact g.new b u q
def _root_.L2.aD.gK{ζ:List V}(e:L2.aD H J)(h:bN K H a ζ):bN K J a ζ:=by
 rcases h with(h|⟨o,h⟩)|h
 .exact .inl (.inl (e _ _ h))
 .exact .inl (.inr %[o|e _ _ h])
 .exact .inr h
inductive bS(K:ah)(F:Hp)(v:V)(r:Rat):Prop
 |mk a(b:v=.ref a)(b:bN K F a [.int r.num,.int r.den])
def bS.mono(h:bS K H O Z)(s:aD H J):bS K J O Z:=by obtain⟨a,e,q⟩:=h;exact%[a,e|s.gK q]
def uT(b:Z.num=S)(hd:(Z.den:Int)=φ):bS K (upd H a (.tup [.int S,.int φ])) (.ref a) Z:=by subst b hd;exact%[a,rfl|bN.of ak]
end
structure cw(r:Rat):Prop where
 num:Lg r.num
 den:Lg r.den
structure aW(P:aC)(w:World)(K:ah)(mg:Str->Option Value)(base:ax)(x:Str)(k:Nat)(a:List Str)(c:Sp):Prop where
 ex:X2 λ(f:ae) (b:aK)=>A4 (aJ P w K mg base aR k f b a c) (mg x=some (.ref f)) (mT K (.ref f)=true) (Binds K b a [])
structure jX(P:aC)(w:World)(K:ah)(mg:Str->Option Value)(base:ax)(x:Str)(C:ae)(k:Nat)(a:List Str)(c:Sp):Prop where
 ex:X2 λ(f:ae) (b:aK)=>A4 (Mk K C f) (aJ P w K mg base aR k f b a c) (mg x=some (.ref C)) (Binds K b a [])
structure gL(P:aC)(w:World)(K:ah)(mg:Str->Option Value)(base:ax)(C:ae)(m:Str)(k:Nat)(a:List Str)(c:Sp):Prop where
 cl:gJ K C
 ex:X2 λ(f:ae) (b:aK)=>A3 (Meth K C m f) (aJ P w K mg base aR k f b a c) (Binds K b a [])
section
variable{M p Β:Pos}{R m x:Str}{X:Cx}{b c e o:Expr}{scope μ:Scope}{sp:Sp}{t:TA}{ν:List Str}{ξ:List Expr}
def aI(h:aW X.prog X.w X.K X.mg X.base x n ν sp)(d:cY j X.A)(g:PA X (e::ξ) t)(i:n<=j:=by decide)(l:Gl X x:=by rfl)
  (a:(x==("__debug__":Str))=false:=by decide)(r:bP (e::ξ) X.env=(false,eval e X.env)::bP ξ X.env:=by rfl)(c:(backTo M (bP ξ X.env)).any (·.1)=false:=by rfl):
  PE X (.Call (.Name x p) (e::ξ) [] M) (oI sp [] E0 t):=by
 obtain⟨f,s,F,q,kp,b⟩:=h.ex;exact SK F (d.mono i) l q kp b .nil r_ g a r c
def lD(h:jX X.prog X.w X.K X.mg X.base x a n ν sp)(i:cY j X.A)(l:n+1<=j)(q:Gl X x)(r:PA X (e::ξ) t)
  (d:(x==("__debug__":Str))=false:=by decide)(u:bP (e::ξ) X.env=(false,eval e X.env)::bP ξ X.env:=by rfl)(g:(backTo M (bP ξ X.env)).any (·.1)=false:=by rfl):
  PE X (.Call (.Name x p) (e::ξ) [] M) (uw a sp [] E0 t):=by
 obtain⟨f,v,c,F,s,b⟩:=h.ex;exact SQ c F (i.mono l) q s b .nil r_ r d u g
def Cc(h:jX X.prog X.w X.K X.mg X.base x a n ν sp)(g:cY j X.A)(i:n+1<=j)(l:Gl X x)
  (d:(x==("__debug__":Str))=false:=by decide):PE X (.Call (.Name x p) [] [] M) (uw a sp [] E0 fS):=by
 obtain⟨f,r,c,F,q,b⟩:=h.ex;exact SR c F (g.mono i) l q b .nil r_ d
def jY{pl:Sem Bool}(h:gL X.prog X.w X.K X.mg X.base a m n ν sp)(i:cY j X.A)(l:n<=j)(q:PE X o ι)(r:PA X (e::ξ) t)
  (c:bP (e::ξ) X.env=(false,eval e X.env)::bP ξ X.env:=by rfl)(d:(backTo M (bP ξ X.env)).any (·.1)=false:=by rfl)
  (s:eval (.Call (.Attribute o m Β) (e::ξ) [] M) X.env=(do
   let g<-eval o X.env
   standAt Β.atName
   let(f,first)<-holding [g] (getMethod g m pl)
   callWith M f first (backTo M (bP (e::ξ) X.env)) (kY M (kZ [] X.env))):=by rfl):
  PE X (.Call (.Attribute o m Β) (e::ξ) [] M) (uv a m sp [] E0 ι t):=by
 obtain⟨f,v,u,F,b⟩:=h.ex;exact SN q h.cl u F (i.mono l) b .nil r_ r c d s
def fM{pl:Sem Bool}(h:gL X.prog X.w X.K X.mg X.base a m n ν sp)(d:cY j X.A)(g:n<=j)(i:PE X o ι)
  (l:eval (.Call (.Attribute o m Β) [] [] M) X.env=(do
   let c<-eval o X.env
   standAt Β.atName
   let(f,first)<-holding [c] (getMethod c m pl)
   callWith M f first (backTo M (bP [] X.env)) (kY M (kZ [] X.env))):=by rfl):
  PE X (.Call (.Attribute o m Β) [] [] M) (uv a m sp [] E0 ι fS):=by
 obtain⟨f,r,q,F,b⟩:=h.ex;exact SO i h.cl q F (d.mono g) b .nil r_ l
def aG(b:PE X e ι)(a:oA e R X.env (eval e X.env)=eval e X.env:=by rfl):PE X (.Attribute e R M) (fL X.K ι R):=SE b a
def ai(a:PE X e ι)(b:bP [e] X.env=(false,eval e X.env)::bP [] X.env:=by rfl):PA X [e] (e9 ι fS):=ay a e_ b
def aX{N:List Str}(a:μ.kind=.function:=by rfl)(b:μ.isCoroutine=false:=by rfl)(c:μ.isGenerator=false:=by rfl)(d:N.Nodup:=by decide+kernel)(e:N.take ν.length=ν:=by rfl)
  (f:∀x∈ν,μ.names.lookup x=some .local\/μ.names.lookup x=some .cell:=by decide+kernel)(g:∀y∈μ.names,y.2≠.free:=by decide+kernel):aV N ν μ:=%[a,b,c,d,e,f|g]
def bE(i:Nat)(S:aV X.N ν μ)(a:X.N[i]?=some x:=by rfl)(b:Loc X.env.scope x:=by exact Ak rfl)(c:X.fn x=true\/X.env.scope.names.lookup x=some .local:=by first|exact .inl rfl|exact .inr rfl|assumption):PG X (.Name x M) (gH i):=RT S.nd a b c
def bp(i:Nat)(S:aV X.N ν μ)(d:PE X e ι)(a:X.N[i]?=some x:=by rfl)(b:Loc X.env.scope x:=by exact Ak rfl)(c:rD e (some (.Name x p)) M.line X.env=pure false:=by rfl)(f:X.fn x=true\/X.env.scope.names.lookup x=some .local:=by first|exact .inl rfl|exact .inr rfl|assumption):PS X (.Assign [.Name x p] e M) (xB ι (gH i)):=rO S.nd a b d c f
def dC{Ε:TT}{own:List (Str×Nat)}{f:TI}{g:TG}{te:TE}(S:aV X.N ν μ)(h:PI X b c f)
  (i:∀{s:aj} {H:Hp} {a:ae} {cl:List (Str×ae)} {d:List ae},PG (X.fT s H scope (jw scope cl a X.env) d) b g)(l:∀{s:aj} {H:Hp} {a:ae} {cl:List (Str×ae)} {d:List ae},rW (X.fT s H scope (jw scope cl a X.env) d) ξ Ε)
  (r:∀{s:aj} {H:Hp} {a:ae} {cl:List (Str×ae)} {d:List ae},PE (X.fT s H scope (jw scope cl a X.env) d) e te)(ok:rV X.N X.env.scope scope own:=by exact nu rfl)(n:X.calm=true:=by rfl)(q:∀x,AL c X.env x=pure x:=by intro j;rfl):
  PE X (.ListComp e [%[b,c,ξ|0]] scope M) (xW f g Ε te (own.map (·.2))):=TZ n S.nd h ok (λj j j j j=>i) (λj j j j j=>l) (λj j j j j=>r) q
end
section
variable{N Ξ:Type}{P:aC}{d:Nat}{f:ae}{h:ax}{r:Str->Option Value}{w:World}{y:aK}{Δ:L2.St}{Θ:List Rat}{Ψ:PR}{ζ:List V}{θ:List PR}
def _root_.L2.aH.go{m x:Str}{Γ:Stmt}{ν e:List Str}{g:Sp}(F:aH K x m Γ f y)(S:aV ν e (aM Γ))
  (d:∀(c:Value) (A:Around) (outer:List Env) (s:aj) (H:Hp) (b:List V) (Q:VK) (E:XK),cY n (A.deeper (envOfC m (aM Γ) ↥s f c))->g b H Q E->
   ∃t,jx (pV aR P w K r h ν m (aM Γ) f c A outer s H E).um (jz Γ) t/\t {nx:=λj i=>Q .bB i,rt:=Q} (start ν b) H)
  (len:∀b H Q E,g b H Q E->b.length=e.length:=by intro b H Q E a;cases a;subst_vars;rfl):aJ P w K r h aR (n+1) f y e g:=F.ok S len d
def L_{A:Around}{E:Value->aj->Prop}{s:aj}{M:Model}{Q:N->aj->Prop}(b:A.handled=none)
  (h:∀o a e,(∃q,((s.heap.push o).push a).get? e=some q/\q.cls=.type "StopIteration")->E (.ref e) {s with heap:=(s.heap.push o).push a}):wpAny M A (newExc (.type "StopIteration") []>>=raiseNew) Q E s:=by?
 obtain⟨hp,g,d,tk,os⟩:=s;unfold newExc newTuple
 wp_walk
 exact wpAny_raiseNew_none b (h _ _ _ %[_,cV _ rfl|rfl])
def top(i:Nat):Stmt:=PySem.Challenge.pw_greentrace_s01_answers.main.body.getD i (.Pass %[0,0,0|0])
def Vo{Q:VK}(e:Δ[n]?=some (some O))(h:Q O H):cf n Δ H Q:=by unfold cf;rw[e];exact h
abbrev Ce:Stmt:=top 3
inductive yt(a:List V)(H:Hp)(Q:VK)(E:XK):Prop
 |mk(x y:Int)(b:a=[.int x,.int y])(b:0<=x)(b:0<=y)(b:Q (.int (n_ x y)) H)
def yu:aV ["first","second","rest"] ["first","second"] (aM Ce):=aX
def Vp(n:aH K "divisor" "divisor" Ce f y):aJ P w K r h aR 1 f y ["first","second"] yt:=by?
 refine n.go yu λo A outer s H D Q E F c=>?_;obtain⟨x,d,rfl,p,t,k⟩:=c;refine%[_,aw (A0 d9 (eQ (pv 1) (λ_=>rfl))
  (aw (bp 2 yu (bJ Sh (pv 0) (pv 1)))
  (aw (bp 0 yu (pv 1))
  (au (bp 1 yu (pv 2))))))
  (au (aF (pv 0)))|?_]
 refine Sd (λσ l=>l=H/\X3 λ(a b:Int) (g:Option V)=>A4 (σ=[some (.int a),some (.int b),g]) (0<=a) (0<=b) (n_ a b=n_ x d))
  (λσ _=>match σ with|[_,some (.int b),_]=>b.toNat|_=>0) %[rfl,x,d,none,rfl,p,t|rfl] ?_ ?_
 .rintro σ l ⟨rfl,a,b,g,rfl,u,m,z⟩;refine%[_,rfl|?_];by_cases i:b=0
  .subst i;rw[<-z,Int.gcd_zero,Int.natAbs_of_nonneg u]at k;exact bt k
  .have j:0<b:=by exact Std.lt_of_le_of_ne m λa↦i (id (kR a))
   rw[show(b !=0)=true by simpa using i];refine a_ %[j,%[rfl,b,a%b,_,rfl,m,Int.emod_nonneg _ i|?_]|?_]
   .simp_all [Vb]
   .show(a%b).toNat<b.toNat;have:=Int.emod_lt_of_pos a j
    lia
 .intro σ H Q G B c;obtain⟨v,e,b,C,q⟩:=Jh c;exact Vo e %[b,C|B _ _ q]
abbrev Cf:Stmt:=top 4
inductive Ma(K:ah)(c:List V)(H:Hp)(Q:VK)(E:XK):Prop
 |mk(z:Int)(F:Hp)(d:c=[.int z])(d:aD F H)(d:∀a b v,ag F H a b->bS K a v (z:Rat)->Q v b)
def Vq:aV ["number"] ["number"] (aM Cf):=aX
def Vr(a:aH K "whole" "whole" Cf f y):aJ P w K r h aR 1 f y ["number"] (Ma K):=by? refine a.go Vq ?_;rintro c c c c c c c c c ⟨z,F,rfl,b,k⟩;refine%[_,au (aF (mB (ay (pv 0) (ai aL))))|?_];refine%[fV|λp hp=>?_];exact k _ _ _ (ag.put b hp) (uT rfl rfl)
abbrev Cg:Stmt:=top 5
inductive yx(K:ah)(e:List V)(H:Hp)(Q:VK)(E:XK):Prop
 |mk(a b:Rat)(u v:V)(F:Hp)(f:e=[u,v])(f:aD F H)(f:bS K F u a)(f:bS K F v b)(f:cw a)(f:cw b)(f:0<=a+b)(f:∀c d r,ag F H c d->bS K c r (a+b)->Q r d)
def yy:aV ["first","second","both","top","left"] ["first","second"] (aM Cg):=aX
def uU(h:n<=j)(c:Lg (j:Int)):Lg (n:Int):=by unfold Lg at*;exact iP (by assumption) (by assumption)
def sy(c:Lg (n:Int)):Lg ((n/j:Nat):Int):=uU (Ik n j) c
def Vs(N:aH K "plus" "plus" Cg f y)(j:aW P w K r h "divisor" 1 ["first","second"] yt):aJ P w K r h aR 2 f y ["first","second"] (yx K):=by?
 refine N.go yy λO A outer s H V Q E B c=>?_;obtain⟨a,b,u,v,F,rfl,n,⟨pa,rfl,R⟩,⟨W,rfl,S⟩,m,o,q,k⟩:=c;refine%[_,aw (bp 2 yy (aI j B (ay (aQ cO (pv 0) aL (λp p=>rfl)) (ai (aQ cO (pv 1) aL (λp p=>rfl))))))
  (aw (bp 3 yy (bJ jy (bJ nF (aQ cO (pv 0) aL (λp p=>rfl)) (bJ lC (aQ cO (pv 1) aL (λp p=>rfl)) (pv 2))) (bJ nF (aQ cO (pv 1) aL (λp p=>rfl)) (bJ lC (aQ cO (pv 0) aL (λp p=>rfl)) (pv 2)))))
  (aw (bp 4 yy (aI j B (ay (pv 3) (ai (pv 2)))))
  (au (aF (mB (ay (bJ lC (pv 3) (pv 4)) (ai (bJ nF (bJ lC (aQ cO (pv 0) aL (λp p=>rfl)) (pv 2)) (bJ lC (aQ cO (pv 1) aL (λp p=>rfl)) (pv 4))))))))))|?_]
 have d:=n.gK R;have e:=n.gK S;generalize l:jo a.den b.den=g;have C:0<g:=l▸adG _ a.den_pos;have U:g<=a.den:=l▸Nat.gcd_le_left _ a.den_pos;have X:g<=b.den:=l▸Il _ b.den_pos;have lg:Lg (g:Int):=uU U m.den;have T:((n_ (a.den:Int) (b.den:Int):Nat):Int)=(g:Int):=by rw[<-l];rfl
 refine%[d,rfl,e,rfl,_,_,rfl,by exact tY a.den,by exact tY b.den|?_];rw[T];have i0:(0:Int)<(g:Int):=by simp[*]
 have D:(b.den:Int)/(g:Int)=((b.den/g:Nat):Int):=rfl;have ea:(a.den:Int)/(g:Int)=((a.den/g:Nat):Int):=rfl;generalize G:a.num*((b.den/g:Nat):Int)+b.num*((a.den/g:Nat):Int)=i;have parts:=U_ a b g (jo i.natAbs g) i l.symm G.symm rfl;have t:0<=i:=by
  have I:0<=(a+b).num:=Im.mpr q;rw[parts.1]at I;have x:0<((jo i.natAbs g:Nat):Int):=by cbv
  rcases Int.lt_or_le i 0 with z|z
  .have:=Int.ediv_neg_of_neg_of_pos z x;exact(λ{a b} c↦(Int.ediv_nonneg_iff_of_pos c).mp) x I
  .exact z
 refine%[d,rfl,e,rfl,%[i0|lg],%[m.num|by rw[D];exact sy o.den],
  e,rfl,d,rfl,%[i0|lg],%[o.num|by rw[ea];exact sy m.den]|⟨?_⟩]
 dsimp only;rw[ea,D,G];refine%[_,_,rfl,t,by exact tY g|?_];have el:((n_ i (g:Int):Nat):Int)=((jo i.natAbs g:Nat):Int):=rfl;rw[el];generalize J:jo i.natAbs g=lf at parts;have x:0<lf:=J▸QD _ C;have L:Lg (lf:Int):=uU (J▸Il _ C) lg;have i1:(0:Int)<(lf:Int):=by simp[*]
 have M:(b.den:Int)/(lf:Int)=((b.den/lf:Nat):Int):=rfl;refine%[%[i1|L],d,rfl,%[i0|lg],e,rfl,%[i1|L],%[by rw[ea];exact sy m.den|by rw[M];exact sy o.den],
  fV|λp hp=>?_]
 dsimp only;rw[ea,M];exact k _ _ _ (ag.put n hp) (uT parts.1 (by cbv))
def Lg.neg{S:Int}(h:Lg S):Lg (-S):=by simp_all [Lg]
theorem cw.neg(h:cw Z):cw (-Z):=%[h.num.neg|h.den]
abbrev Ci:Stmt:=top 6
inductive Cj(K:ah)(e:List V)(H:Hp)(Q:VK)(E:XK):Prop
 |mk(a b:Rat)(u v:V)(F:Hp)(f:e=[u,v])(f:aD F H)(f:bS K F u a)(f:bS K F v b)(f:cw a)(f:cw b)(f:0<=a-b)(f:∀c d r,ag F H c d->bS K c r (a-b)->Q r d)
def Vt:aV ["first","second"] ["first","second"] (aM Ci):=aX
def Vu(l:aH K "minus" "minus" Ci f y)(d:aW P w K r h "plus" 2 ["first","second"] (yx K)):aJ P w K r h aR 3 f y ["first","second"] (Cj K):=by? refine l.go Vt ?_;rintro p p p p p p p p m ⟨a,b,u,v,F,rfl,j,n,⟨z,rfl,o⟩,s,t,x,k⟩;refine%[_,au (aF (aI d m (ay (pv 0) (ai (mB (ay (uo uq (aQ cO (pv 1) aL (λp p=>rfl))) (ai (aQ cO (pv 1) aL (λp p=>rfl)))))))))|?_];have e:=j.gK o;refine%[e,rfl,e,rfl,fV|λp hp=>?_];have i:=ag.put (o:=.tup [.int (-b.num),.int b.den]) j hp;refine%[a,-b,_,_,_,rfl,i.sub,n.mono i.fs,uT rfl rfl,s,t.neg,by grind|λA B c g q=>?_];rw[<-Rat.sub_eq_add_neg]at q;exact k _ _ _ (i.trans g) q
abbrev Ck:Stmt:=top 7
inductive uV(K:ah)(e:List V)(H:Hp)(Q:VK)(E:XK):Prop
 |mk(a b:Rat)(u v:V)(F:Hp)(f:e=[u,v])(f:aD F H)(f:bS K F u a)(f:bS K F v b)(f:cw a)(f:cw b)(f:0<=a)(f:0<=b)(f:∀c d r,ag F H c d->bS K c r (a*b)->Q r d)
def Cm:aV ["first","second","across","back"] ["first","second"] (aM Ck):=aX
def Mb{S φ:Int}(c:Lg S)(a:0<=S)(b:0<φ):Lg (S/φ):=by
 unfold Lg at*;have d:0<=S/φ:=Int.ediv_nonneg a (by exact As b);have e:=Int.ediv_le_self φ a
 lia
def Vv(B:aH K "times" "times" Ck f y)(i:aW P w K r h "divisor" 1 ["first","second"] yt):aJ P w K r h aR 2 f y ["first","second"] (uV K):=by?
 refine B.go Cm ?_;rintro p p p p p p p p n ⟨a,b,u,v,F,rfl,j,⟨pa,rfl,C⟩,⟨I,rfl,D⟩,l,m,E,b0,k⟩;refine%[_,aw (bp 2 Cm (aI i n (ay (aQ cO (pv 0) aL (λp p=>rfl)) (ai (aQ cO (pv 1) aL (λp p=>rfl))))))
  (aw (bp 3 Cm (aI i n (ay (aQ cO (pv 1) aL (λp p=>rfl)) (ai (aQ cO (pv 0) aL (λp p=>rfl))))))
  (au (aF (mB (ay (bJ nF (bJ lC (aQ cO (pv 0) aL (λp p=>rfl)) (pv 2)) (bJ lC (aQ cO (pv 1) aL (λp p=>rfl)) (pv 3)))
   (ai (bJ nF (bJ lC (aQ cO (pv 0) aL (λp p=>rfl)) (pv 3)) (bJ lC (aQ cO (pv 1) aL (λp p=>rfl)) (pv 2)))))))))|?_]
 have e:=j.gK C;have g:=j.gK D;have o:0<=a.num:=Im.mpr E;have s:0<=b.num:=Im.mpr b0;have parts:=U' a b;refine%[e,rfl,g,rfl,_,_,rfl,o,by exact tY b.den|?_];refine%[g,rfl,e,rfl,_,_,rfl,s,by exact tY a.den|?_];have G:((n_ a.num (b.den:Int):Nat):Int)=((jo a.num.natAbs b.den:Nat):Int):=rfl;have H:((n_ b.num (a.den:Int):Nat):Int)=((jo b.num.natAbs a.den:Nat):Int):=rfl;dsimp only;rw[G,H];generalize q:jo a.num.natAbs b.den=c at parts;generalize hd:jo b.num.natAbs a.den=d at parts;have J:0<c:=q▸QD _ b.den_pos;have d0:0<d:=hd▸QD _ a.den_pos;have z:Lg (c:Int):=uU (q▸Il _ b.den_pos) m.den;have x:Lg (d:Int):=uU (hd▸Il _ a.den_pos) l.den;have i0:(0:Int)<(c:Int):=by simp[*]
 have i1:(0:Int)<(d:Int):=by simp[*]
 have t:(a.den:Int)/(d:Int)=((a.den/d:Nat):Int):=rfl;have A:(b.den:Int)/(c:Int)=((b.den/c:Nat):Int):=rfl;refine%[e,rfl,%[i0|z],g,rfl,%[i1|x],%[Mb l.num o i0|Mb m.num s i1],
  e,rfl,%[i1|x],g,rfl,%[i0|z],%[by rw[t];exact sy l.den|by rw[A];exact sy m.den],
  fV|λp hp=>?_]
 dsimp only;rw[t,A];exact k _ _ _ (ag.put j hp) (uT parts.1 (by cbv))
abbrev Cn:Stmt:=top 8
inductive yz(K:ah)(e:List V)(H:Hp)(Q:VK)(E:XK):Prop
 |mk(a b:Rat)(u v:V)(F:Hp)(f:e=[u,v])(f:aD F H)(f:bS K F u a)(f:bS K F v b)(f:cw a)(f:cw b)(f:0<=a)(f:0<b)(f:∀c d r,ag F H c d->bS K c r (a/b)->Q r d)
def Vw:aV ["first","second"] ["first","second"] (aM Cn):=aX
def Vx(n:aH K "over" "over" Cn f y)(d:aW P w K r h "times" 2 ["first","second"] (uV K)):aJ P w K r h aR 3 f y ["first","second"] (yz K):=by? refine n.go Vw ?_;rintro p p p p p p p p o ⟨a,b,u,v,F,rfl,l,s,⟨A,rfl,t⟩,x,m,z,b0,k⟩;refine%[_,au (aF (aI d o (ay (pv 0) (ai (mB (ay (aQ cO (pv 1) aL (λp p=>rfl)) (ai (aQ cO (pv 1) aL (λp p=>rfl)))))))))|?_];have e:=l.gK t;have i:=Va b0;refine%[e,rfl,e,rfl,fV|λp hp=>?_];have j:=ag.put (o:=.tup [.int b.den,.int b.num]) l hp;refine%[a,b⁻¹,_,_,_,rfl,j.sub,s.mono j.fs,uT i.1 i.2,x,%[by rw[i.1];exact m.den|by rw[i.2];exact m.num],z,d8 (Qs.mpr b0)|λB C c g q=>?_];exact k _ _ _ (j.trans g) q
structure ja(r:Rat):Prop where
 num:r.num.natAbs<2^40000
 den:r.den<2^40000
def cw.wide(h:cw Z):ja Z:=%[fz h.num (gj (by decide) (by decide))|fz (by have:=h.den;exact this) (gj (by decide) (by decide))]
def Mc{S:Int}(h:S.natAbs<2^40000):Ij S<=40001:=by
 unfold Ij;split
 .exact bM _
 .have a:S.natAbs≠0:=by cbv
  have:=(QC a).mpr h;exact lX this
def Me{X:Cx}:dE X (binaryOp .Mult) (rI (λi j=>i.natAbs<2^40000/\j.natAbs<2^40000) λi j=>.int (i*j)):=xG λb b b b b b b a q=>mul_int q (IntMulOk.of_le (Mc a.1) (Mc a.2) (by decide))
abbrev Co:Stmt:=top 9
inductive sA(K:ah)(c:List V)(H:Hp)(Q:VK)(E:XK):Prop
 |mk(a b:Rat)(u v:V)(d:c=[u,v])(d:bS K H u a)(d:bS K H v b)(d:ja a)(d:ja b)(d:Q (.bl (decide (a<b))) H)
def Vy:aV ["first","second"] ["first","second"] (aM Co):=aX
def Vz(i:aH K "is_less" "is_less" Co f y):aJ P w K r h aR 1 f y ["first","second"] (sA K):=by?
 refine i.go Vy ?_;rintro l l l l l l l l l ⟨a,b,u,v,rfl,⟨pa,rfl,c⟩,⟨j,rfl,d⟩,e,g,k⟩;refine%[_,au (aF (i7 ur (bJ Me (aQ cO (pv 0) aL (λl l=>rfl)) (aQ cO (pv 1) aL (λl l=>rfl))) (bJ Me (aQ cO (pv 1) aL (λl l=>rfl)) (aQ cO (pv 0) aL (λl l=>rfl))) (b_ _)))|?_];refine%[c,rfl,d,rfl,%[e.num|by exact g.den],d,rfl,c,rfl,%[g.num|by exact e.den]|⟨?_⟩]
 simp_all [Rat.lt_iff]
def cT{R S:N->Ξ->Prop}{l:List N}{m:List Ξ}(h:Paired R l m)(f:∀a b,R a b->S a b):Paired S l m:=Paired.AV h f
theorem bu{R:N->Ξ->Prop}{l:List N}{m:List Ξ}(h:Paired R l m):l.length=m.length:=o5 h
def dh{R:N->Ξ->Prop}{l:List N}{m:List Ξ}(h:Paired R l m){a:N}(e:l[n]?=some a):∃b,m[n]?=some b/\R a b:=Uu h e
def gM{R:N->Ξ->Prop}:∀{l a:List N} {m b:List Ξ},Paired R l m->Paired R a b->Paired R (l++a) (m++b):=by
 intro c c c c h g;induction h with
 |nil=>exact g
 |cons h _ t=>exact .cons h t
theorem take_snoc:∀{l:List N} {i:Nat} {x:N},l[i]?=some x->l.take (i+1)=l.take i++[x]
 |[],i,x,h=>by simp at h
 |a::l,0,x,h=>by cbv
 |a::l,i+1,x,h=>by
  have b:=take_snoc (i:=i) h
  cbv
theorem Cp{R:N->Ξ->Prop}{l:List N}{m:List Ξ}(h:Paired R l m):∀i,Paired R (l.take i) (m.take i):=by
 induction h with
 |nil=>intro i;simp;exact .nil
 |cons a t b=>
  intro i;cases i with
  |zero=>exact .nil
  |succ i=>exact .cons a (b i)
def _root_.L2.aD.sq(e:L2.aD H J)(h:H a=some (.lst ζ)):af K J a ζ:=af.of (e _ _ h)
inductive dj{α:Type}(R:V->α->Prop)(K:ah)(F:Hp)(v:V)(c:List α):Prop
 |mk a b(d:v=.ref a)(d:F a=some (.lst b))(d:Paired R b c)(d:b.length<=1000000)
def dj.mono{R b:V->N->Prop}{c:List N}(h:dj R K H O c)(s:aD H J)(f:∀O x,R O x->b O x):dj b K J O c:=by obtain⟨a,d,e,q,p,n⟩:=h;exact%[a,d,e,s _ _ q,cT p f|n]
abbrev dR(K:ah)(F:Hp)(v:V)(a:List Rat):Prop:=dj (bS K F) K F v a
def dR.up(h:dR K H O Θ)(s:aD H J):dR K J O Θ:=dj.mono h s λa a q=>q.mono s
structure lE(K:ah)(mg:Str->Option Value)(x:Str)(r:Rat):Prop where
 ex:∃a,mg x=some (.ref a)/\∀F,bN K F a [.int r.num,.int r.den]
structure jC(a:List Rat):Prop where
 nn:∀x∈a,0<=x
 fit:∀x∈a,cw x
 part:∀i,cw (a.take i).sum
def VA(l:List Rat)(x:Rat):(l++[x]).sum=l.sum+x:=by grind
def VB:cw 0:=%[by unfold Lg;decide+kernel|by unfold Lg;decide+kernel]
abbrev Cq:Stmt:=top 10
inductive yA(K:ah)(d:List V)(H:Hp)(Q:VK)(E:XK):Prop
 |mk(a:List Rat)(u:V)(F:Hp)(e:d=[u])(e:aD F H)(e:dR K F u a)(e:jC a)(e:∀b c r,ag F H b c->bS K b r a.sum->Q r c)
def yB:aV ["fractions","amount","fraction"] ["fractions"] (aM Cq):=aX
def VC(B:aH K "total" "total" Cq f y)(C:lE K r "ZERO" 0)(c:aW P w K r h "plus" 2 ["first","second"] (yx K)):aJ P w K r h aR 3 f y ["fractions"] (yA K):=by?
 refine B.go yB ?_;rintro Q Q Q Q H Q Q Q D ⟨xs,u,F,rfl,s,⟨l,E,rfl,G,hp,Q⟩,j,k⟩;obtain⟨z,o,p⟩:=C.ex;refine%[_,aw (bp 1 yB (ke (v:=.ref z) rfl o rfl))
  (aw (eO d9 rfl (cq (pv 0)) (bE 2 yB)
   (au (bp 1 yB (aI c D (ay (pv 1) (ai (pv 2)))))))
  (au (aF (pv 1))))|?_]
 have d:af K H l E:=s.sq G;refine%[%[_|d]|iB (K:=K) (a:=l) (λi σ m=>X3 λ(e:Hp) (v:V) (q:Option V)=>A3 (σ=[some (.ref l),some v,q]) (ag F H e m) (bS K e v (xs.take i).sum))
  %[F,.ref z,none,rfl,ag.refl s,z,rfl|p F] (λi σ m _ %[_,_,_,_,g|_]=>g.same.seq d) ?_ ?_]
 .rintro i a σ m I ⟨e,v,q,rfl,g,n⟩;obtain⟨x,t,J⟩:=dh hp I;have A:=bO t;refine%[(xs.take i).sum,x,v,a,e,rfl,g.sub,n,J.mono g.fs,j.part i,j.fit x A,?_|λL O b N M=>?_]
  .exact Qr (jB λz o=>j.nn z (lY o)) (j.nn x A)
  .exact%[L,b,_,rfl,g.trans N|by rw[take_snoc t,VA];exact M]
 .rintro σ m ⟨e,v,q,rfl,g,n⟩;rw[bu hp,eK]at n;exact(k _ _ _ g n)
def jD(x:Rat)(a:List Rat):Rat:=a.foldl (λm y=>if y<m then y else m) x
def fW(x:Rat)(a:List Rat):Rat:=a.foldl (λm y=>if m<y then y else m) x
abbrev Cr:Stmt:=top 11
inductive Cs(K:ah)(b:List V)(H:Hp)(Q:VK)(E:XK):Prop
 |mk(x:Rat)(a:List Rat)(u:V)(F:Hp)(c:b=[u])(c:aD F H)(c:dR K F u (x::a))(c:∀y∈x::a,ja y)(c:∀r,bS K F r (jD x (x::a))->Q r H)
theorem uW{g:Rat->Rat->Rat}(c:∀a b,g a b=a\/g a b=b):∀(l:List Rat) (x:Rat),l.foldl g x=x\/l.foldl g x∈l
 |[],x=>.inl rfl
 |a::l,x=>by
  rcases uW c l (g x a)with h|h
  all_goals grind
def Mf{g:Rat->Rat->Rat}(c:∀a b,g a b=a\/g a b=b)(h:∀y∈Z::Θ,ja y)(i:Nat):ja (((Z::Θ).take i).foldl g Z):=by grind [uW]
def VD(a b:Rat):(λm y:Rat=>if y<m then y else m) a b=a\/(λm y:Rat=>if y<m then y else m) a b=b:=by grind
def VE(a b:Rat):(λm y:Rat=>if m<y then y else m) a b=a\/(λm y:Rat=>if m<y then y else m) a b=b:=by grind
def yC:aV ["fractions","found","fraction"] ["fractions"] (aM Cr):=aX
def VF(C:aH K "least" "least" Cr f y)(c:aW P w K r h "is_less" 1 ["first","second"] (sA K)):aJ P w K r h aR 2 f y ["fractions"] (Cs K):=by?
 refine C.go yC ?_;rintro M M M M H M M M D ⟨x,xs,u,F,rfl,s,⟨l,A,rfl,E,hp,M⟩,hf,k⟩;refine%[_,aw (bp 1 yC (aQ bA (pv 0) aL (λM M=>rfl)))
  (aw (eO d9 rfl (cq (pv 0)) (bE 2 yC)
   (au (bW (eQ (aI c D (ay (pv 2) (ai (pv 1)))) (λM=>rfl)) (au (bp 1 yC (pv 2))) bZ)))
  (au (aF (pv 1))))|?_]
 have d:af K H l A:=s.sq E;obtain⟨p,g,rfl,L⟩:X2 λp g=>A2 (A=p::g) (bS K F p x):=by
  cases hp with
  |cons a t=>exact%[_,_,rfl|a]
 refine%[d,bg (j:=0) rfl|?_];refine%[%[_|d]|iB (K:=K) (a:=l) (λi σ n=>n=H/\X2 λ(v:V) (q:Option V)=>A2 (σ=[some (.ref l),some v,q]) (bS K F v (((x::xs).take i).foldl (λm b=>if b<m then b else m) x)))
  %[rfl,p,none,rfl|L] (λi σ n _ %[e|_]=>by rw[e];exact d) ?_ ?_]
 .rintro i b σ n G ⟨rfl,v,q,rfl,o⟩;obtain⟨z,B,I⟩:=dh hp G;have J:=bO B;refine%[z,_,b,v,rfl,I.mono s,o.mono s,hf z J,Mf VD hf i,_,rfl|?_];rw[take_snoc B];by_cases j:z<((x::xs).take i).foldl (λm b=>if b<m then b else m) x
  .rw[bT j];refine a_ %[rfl,b,_,rfl|?_]
   cbv
  .rw[bK j];refine bt %[rfl,v,_,rfl|?_]
   cbv
 .rintro σ n ⟨rfl,v,q,rfl,o⟩;rw[bu hp,eK]at o;exact(k _ o)
abbrev Ct:Stmt:=top 12
inductive yD(K:ah)(b:List V)(H:Hp)(Q:VK)(E:XK):Prop
 |mk(x:Rat)(a:List Rat)(u:V)(F:Hp)(c:b=[u])(c:aD F H)(c:dR K F u (x::a))(c:∀y∈x::a,ja y)(c:∀r,bS K F r (fW x (x::a))->Q r H)
def yE:aV ["fractions","found","fraction"] ["fractions"] (aM Ct):=aX
def VG(C:aH K "greatest" "greatest" Ct f y)(c:aW P w K r h "is_less" 1 ["first","second"] (sA K)):aJ P w K r h aR 2 f y ["fractions"] (yD K):=by?
 refine C.go yE ?_;rintro M M M M H M M M D ⟨x,xs,u,F,rfl,s,⟨l,A,rfl,E,hp,M⟩,hf,k⟩;refine%[_,aw (bp 1 yE (aQ bA (pv 0) aL (λM M=>rfl)))
  (aw (eO d9 rfl (cq (pv 0)) (bE 2 yE)
   (au (bW (eQ (aI c D (ay (pv 1) (ai (pv 2)))) (λM=>rfl)) (au (bp 1 yE (pv 2))) bZ)))
  (au (aF (pv 1))))|?_]
 have d:af K H l A:=s.sq E;obtain⟨p,g,rfl,L⟩:X2 λp g=>A2 (A=p::g) (bS K F p x):=by
  cases hp with
  |cons a t=>exact%[_,_,rfl|a]
 refine%[d,bg (j:=0) rfl|?_];refine%[%[_|d]|iB (K:=K) (a:=l) (λi σ n=>n=H/\X2 λ(v:V) (q:Option V)=>A2 (σ=[some (.ref l),some v,q]) (bS K F v (((x::xs).take i).foldl (λm b=>if m<b then b else m) x)))
  %[rfl,p,none,rfl|L] (λi σ n _ %[e|_]=>by rw[e];exact d) ?_ ?_]
 .rintro i b σ n G ⟨rfl,v,q,rfl,o⟩;obtain⟨z,B,I⟩:=dh hp G;have J:=bO B;refine%[_,z,v,b,rfl,o.mono s,I.mono s,Mf VE hf i,hf z J,_,rfl|?_];rw[take_snoc B];by_cases j:((x::xs).take i).foldl (λm b=>if m<b then b else m) x<z
  .rw[bT j];refine a_ %[rfl,b,_,rfl|?_]
   cbv
  .rw[bK j];refine bt %[rfl,v,_,rfl|?_]
   cbv
 .rintro σ n ⟨rfl,v,q,rfl,o⟩;rw[bu hp,eK]at o;exact(k _ o)
def eW(h:n<=1000000):n<bf:=iP h (by decide)
theorem ag.made{ψ:HO}{C:ae}(c:aD J H)(nx:H a=aq)(nd:H f=aq)(g:ο a=some ψ)
  (kp:∀b ψ,(upd (upd H f (.own a)) a (.ins C f [])) b=some ψ->b≠a->ο b=some ψ):ag J H (upd J a ψ) ο:=by?
 have d:=aD.made nx nd kp;refine%[d,cQ (c.free nx),λb u e=>?_|λb u e=>?_]
 .by_cases q:b=a
  .simp_all [ak]
  .rw[aB q]at e;exact d b u (c b u e)
 grind [aB]
def ag.out{D:ae}{Ν:Hp}{ψ:HO}(g:ag J H ο Ν)(e:H D=some ψ)(n:J D=aq):ο D=aq:=by
 cases q:ο D with
 |none=>rfl
 |some u=>
  rcases g.new D u q with z|z
  all_goals cbv
def ag.iE{D:ae}{Ν:Hp}{o:HO}(g:ag J H ο Ν)(n:H D=aq)(a:ο D=aq):ag J H ο (upd Ν D o):=by
 refine%[λb u e=>?_,g.fs,λb u e=>?_|g.new]
 .rw[aB (eZ e n)];exact g.same b u e
 .rw[aB (eZ e a)];exact g.sub b u e
def uX:wipe ((wipe Δ [j]).set j (some O)) [j]=wipe Δ [j]:=by
 show((Δ.set j none).set j _).set j none=Δ.set j none
 cbv
def dI{l:ae}{R:V->N->Prop}{S:Hp->V->Ξ->Prop}{xs:List N}{s:ae->Hp->Prop}(g:N->Ξ)(w:aD J H)(G:af K H l ζ)(hp:Paired R ζ xs)(I:ζ.length<=1000000)
  (mono:∀d h v b,aD d h->S d v b->S h v b)
  (step:∀(i:Nat) (v:V) (x:N) (d c:Hp),xs[i]?=some x->R v x->ag J H d c->∀z:VK,(∀y f k,ag d c k f->S k y (g x)->z y f)->ι ((wipe Δ [j]).set j (some v)) c z)
  (done:∀d c D,ag J H d c->dj (S d) K d (.ref D) (xs.map g)->s D c):
  ∀D,H D=aq->∃W:Nat->Nat->Hp->Prop,(∃m,W 0 m (upd H D (.lst [])))/\∀i m c,W i m c->
   ((iA K l).stop i c/\s D c)\/((iA K l).go i c/\∃t:Hp->Prop,(∀e,t e->∃A,A<m/\W (i+1) A e)/\∀x e,(iA K l).ic i c x e->gH j x (wipe Δ [j]) e λu L=>wipe u [j]=wipe Δ [j]/\jR u L λb B=>
    if b=true then ι u B λy f=>∃a,f D=some (.lst a)/\a.length<bf/\t (upd f D (.lst (a++[y])))else t B):=by?
 intro D n;refine T_ (K:=K) (a:=l) (xs:=ζ) (Qd:=λc=>s D c) (λi c=>X2 λ(d:Hp) (a:List V)=>A4 (ag J H d c) (d D=aq) (c D=some (.lst a)) (Paired (S d) a ((xs.take i).map g))) ?_ ?_ ?_ ?_
 .exact%[J,[],ag.bD w n,w.free n,ak| .nil]
 .rintro i c T ⟨d,a,gr,F⟩;exact gr.same.seq G
 .rintro i v c M ⟨d,a,gr,o,p,pr⟩;obtain⟨x,C,O⟩:=dh hp M;refine%[uX|?_];unfold jR;dsimp only;rw[aS rfl];refine step i v x d c C O gr _ λy f k r P=>?_
  have la:a.length<=1000000:=by
   rw[bu pr,aY,jK];have:=bu hp
   lia
  have E:=r.out p o;refine%[a,r.same _ _ p,eW la,k,a++[y],(gr.trans r).iE n E,E,ak|?_];rw[take_snoc C,cF];exact gM (cT pr λv b q=>mono _ _ _ _ r.fs q) (.cons P .nil)
 .rintro c ⟨d,a,gr,o,p,pr⟩;rw[bu hp,eK]at pr;have Q:=gr.fix n p (.inl o);refine done _ _ D Q %[D,a,rfl,ak,cT pr λv b q=>mono _ _ _ _ (cQ o) q|?_];rw[bu pr,aY,<-bu hp];exact I
def pf(a b:V):List (Str×V):=cb "greens" b (cb "kilos" a [])
def qh(a b:V):(pf a b).lookup ("kilos":Str)=some a:=by rfl
def nG(b a:V):(pf b a).lookup ("greens":Str)=some a:=by rfl
structure lF(K:ah)(C:ae):Prop where
 cl:gJ K C
 nk:eS K C "kilos"
 ng:eS K C "greens"
inductive iF(K:ah)(C:ae)(F:Hp)(v:V)(p:PR):Prop
 |mk a d b c(e:v=.ref a)(e:F a=some (.ins C d (pf b c)))(e:bS K F b p.kilos)(e:dR K F c p.green)
theorem iF.mono(h:iF K a H O Ψ)(s:aD H J):iF K a J O Ψ:=by obtain⟨b,c,d,f,e,q,g,i⟩:=h;exact%[b,c,d,f,e,s _ _ q,g.mono s|i.up s]
abbrev fF(K:ah)(C:ae)(F:Hp)(v:V)(a:List PR):Prop:=dj (iF K C F) K F v a
def fF.up(h:fF K a H O θ)(s:aD H J):fF K a J O θ:=dj.mono h s λb b q=>q.mono s
abbrev Cu:Stmt:=inClass (top 15) 0
inductive qi(C:ae)(f:List V)(H:Hp)(Q:VK)(E:XK):Prop
 |mk(p c:ae)(d e:V)(h:f=[.ref p,d,e])(h:H p=some (.ins C c []))(h:∀a:Hp,a p=some (.ins C c (pf d e))->(∀b o,H b=some o->b≠p->a b=some o)->Q .bB a)
def VH:aV ["self","kilos","greens"] ["self","kilos","greens"] (aM Cu):=aX
def VI(c:aH K "__init__" "Part.__init__" Cu f y)(T:lF K a):aJ P w K r h aR 1 f y ["self","kilos","greens"] (qi a):=by? refine c.go VH ?_;rintro b b b b b b b b b ⟨p,d,g,i,rfl,hp,k⟩;refine%[_,aw (fR (pv 0) (pv 1) rfl) (au (fR (pv 0) (pv 2) rfl))|?_];refine%[hp,T.cl,T.nk,(by decide)|?_];refine%[ak,T.cl,T.ng,(by show 1<1000;decide)|?_];exact k _ ak λb o e j=>by simp_all [aB]
abbrev Cv:Stmt:=top 16
inductive qj(K:ah)(C:ae)(d:List V)(H:Hp)(Q:VK)(E:XK):Prop
 |mk(a:List PR)(u:V)(F:Hp)(e:d=[u])(e:aD F H)(e:fF K C F u a)(e:jC (a.map (·.kilos)))(e:∀b c r,ag F H b c->bS K b r (bw a)->Q r c)
def Cw:aV ["parts","part"] ["parts"] (aM Cv):=aX
def VJ(o:aH K "kilos_of" "kilos_of" Cv f y)(T:lF K a)(d:aW P w K r h "total" 3 ["fractions"] (yA K)):aJ P w K r h aR 4 f y ["parts"] (qj K a):=by?
 refine o.go Cw ?_;rintro C C C s H C C C t ⟨N,u,F,rfl,m,⟨l,z,rfl,A,hp,B⟩,E,k⟩;refine%[_,au (aF (aI d t (ai (dC (own:=[("part",1)]) (te:=fL K _ _) Cw (cq (pv 0)) (bE 1 Cw) cR (aG (pv 1))))))|?_];have j:af K H l z:=m.sq A;refine%[%[_|j]|dI (S:=λF v x=>bS K F v x) (λp:PR=>p.kilos) m j hp B (λC C C C s q=>q.mono s) ?_ ?_]
 .rintro i v x n G O ⟨b,Q,R,S,rfl,e,I,U⟩ g V J;exact%[g.same _ _ (m _ _ e),T.cl,T.nk,qh _ _|J _ _ n (ag.refl g.sub) (I.mono g.fs)]
 .intro n G D g L;exact%[_,_,n,rfl,g.sub,L,E|λW X c M q=>k _ _ _ (g.trans M) q]
def qk{Ε:TT}{κ:List Nat}{S:Hp->V->N->Prop}{J:It}{g:TG}{L:ae->Hp->Prop}(out:Nat->Option N)(M:aD ο H)(X:n<=1000000)
  (mono:∀f p v b,aD f p->S f v b->S p v b)
  (k:∀d,aD H d->J.stop n d)(A:∀i d,i<n->aD H d->J.go i d)
  (step:∀(i:Nat) (f d:Hp),i<n->ag ο H f d->∀x a,J.ic i d x a->∀(O:VK) (P:Hp->Prop),
   (∀y o s b,out i=some b->ag f d s o->S s y b->O y o)->(∀j B,out i=aq->ag f d B j->P j)->
   g x (wipe Δ κ) a λl C=>wipe l κ=wipe Δ κ/\Ε l C λb j=>if b=true then ι l j O else P j)
  (done:∀f d D,ag ο H f d->dj (S f) K f (.ref D) ((bV n).filterMap out)->L D d):
  ∀D,H D=aq->∃W:Nat->Nat->Hp->Prop,(∃m,W 0 m (upd H D (.lst [])))/\∀i m d,W i m d->
   (J.stop i d/\L D d)\/(J.go i d/\∃E:Hp->Prop,(∀a,E a->∃Q,Q<m/\W (i+1) Q a)/\∀x a,J.ic i d x a->g x (wipe Δ κ) a λl C=>wipe l κ=wipe Δ κ/\Ε l C λb j=>
    if b=true then ι l j λy o=>∃c,o D=some (.lst c)/\c.length<bf/\E (upd o D (.lst (c++[y])))else E j):=by?
 intro D t;refine%[λi m d=>m=n-i/\i<=n/\X2 λ(f:Hp) (c:List V)=>A4 (ag ο H f d) (f D=aq) (d D=some (.lst c)) (Paired (S f) c ((bV i).filterMap out)),%[n,by simp,bM _,ο,[],ag.bD M t,M.free t,ak| .nil]|?_];rintro i m d ⟨rfl,Y,f,c,gr,u,r,pr⟩;by_cases h:i<n
 .refine .inr %[A i d h gr.same,λa=>i+1<=n/\X2 λ(f:Hp) (c:List V)=>A4 (ag ο H f a) (f D=aq) (a D=some _) (Paired _ c _),
   λa q=>%[n-(i+1),by exact QE n i h,rfl|q]|λx a y=>?_]
  have la:c.length<=1000000:=by grind [bu,adW]
  refine step i f d h gr x a y _ _ (λy o s b G w T=>?_) (λj B G z=>?_)
  .have R:=w.out r u;refine%[c,w.same _ _ r,eW la,h,s,c++[y],(gr.trans w).iE t R,R,ak|?_];rw[pk,QF];have I:adX out [i]=[b]:=by simp[G]
   rw[I];exact gM (cT pr λv b q=>mono _ _ _ _ w.fs q) (.cons T .nil)
  .refine%[h,B,c,gr.trans z,z.out r u,z.same _ _ r|?_];rw[pk,QF];have I:adX out [i]=[]:=by simp[G]
   rw[I,g9];exact cT pr λv b q=>mono _ _ _ _ z.fs q
 .have e:i=n:=by lia
  subst e;have U:=gr.fix t r (.inl u);refine .inl %[k d gr.same|done _ _ D U %[D,c,rfl,ak,cT pr λv b q=>mono _ _ _ _ (cQ u) q|?_]]
  grind [bu,adW]
def qm{J:It}{g:TG}{k:TS}{D:Ends}(c:Nat->L2.St->Hp->Prop)(r:c 0 Δ H)
  (d:∀Δ H,c n Δ H->J.stop n H/\D.nx Δ H)(e:∀i Δ H,i<n->c i Δ H->J.go i H)
  (o:∀i x Δ H a,i<n->c i Δ H->J.ic i H x a->g x Δ a λf h=>k {D with nx:=c (i+1),ct:=c (i+1),bk:=D.nx} f h):
  ∃W:Nat->Nat->L2.St->Hp->Prop,(∃m,W 0 m Δ H)/\∀i m Δ H,W i m Δ H->
   (J.stop i H/\D.nx Δ H)\/(J.go i H/\∃N:L2.St->Hp->Prop,(∀j a,N j a->∃l,l<m/\W (i+1) l j a)/\∀x a,J.ic i H x a->g x Δ a λf h=>k {D with nx:=N,ct:=N,bk:=D.nx} f h):=by?
 refine%[λi m Δ H=>m=n-i/\i<=n/\c i Δ H,%[n,by simp,bM _|r]|?_];rintro i m Δ H ⟨rfl,s,p⟩;by_cases b:i<n
 .exact .inr %[e i Δ H b p,c _,λj a q=>%[n-(i+1),by exact QE n i b,rfl,b|q]|λx a y=>o i x Δ H a b p y]
 grind
theorem qo(l:List N):∀n,n<=l.length->(bV n).filterMap (λi=>l[i]?)=l.take n
 |0,_=>rfl
 |n+1,h=>by have a:l[n]?=some (l[n]'(by trivial)):=cA (by trivial);rw[pk,QF,qo l n (by exact dZ h)];simp[a]
def VL{Ζ:List V}{γ:Type}{R:V->N->Prop}{R2:V->Ξ->Prop}{S:Hp->V->γ->Prop}{p:List N}{o:List Ξ}{Qd:ae->Hp->Prop}(g:N->Ξ->γ)(hj:n≠j)
  (hF:aD J H)(q:af K H a ζ)(s:af K H f Ζ)(A:Paired R ζ p)(B:Paired R2 Ζ o)(hn:ζ.length<=1000000)(I:p.length=o.length)
  (mono:∀d C v b,aD d C->S d v b->S C v b)
  (step:∀(v w:V) (x:N) (y:Ξ) (d c:Hp),x∈p->y∈o->R v x->R2 w y->ag J H d c->∀Q:VK,(∀r t M,ag d c M t->S M r (g x y)->Q r t)->ι (((wipe Δ [n,j]).set n (some v)).set j (some w)) c Q)
  (done:∀d c D,ag J H d c->dj (S d) K d (.ref D) (kS g p o)->Qd D c):
  ∀D,H D=aq->∃W:Nat->Nat->Hp->Prop,(∃m,W 0 m (upd H D (.lst [])))/\∀i m c,W i m c->
   ((p_ K a f).stop i c/\Qd D c)\/((p_ K a f).go i c/\∃U:Hp->Prop,(∀l,U l->∃m',m'<m/\W (i+1) m' l)/\∀x l,(p_ K a f).ic i c x l->oG K 2 (lq (gH n) (lq (gH j) rN)) x (wipe Δ [n,j]) l λX H2=>wipe X [n,j]=wipe Δ [n,j]/\jR X H2 λb H3=>
    if b=true then ι X H3 λy t=>∃acc,t D=some (.lst acc)/\acc.length<bf/\U (upd t D (.lst (acc++[y])))else U H3):=by?
 have Y:=bu A;have aa:=bu B;have L:∀i,i<ζ.length->X4 λ(v w:V) (x:N) (y:Ξ)=>A6 (ζ[i]?=some v) (Ζ[i]?=some w) (p[i]?=some x) (o[i]?=some y) (R v x) (R2 w y):=by intro i E;have u:ζ[i]?=some ζ[i]:=cA E;have z:Ζ[i]?=some (Ζ[i]'(by lia)):=cA (by lia);obtain⟨x,hx,Z⟩:=dh A u;obtain⟨y,hy,r2⟩:=dh B z;exact%[_,_,x,y,u,z,hx,hy,Z|r2]
 refine qk (K:=K) (S:=S) (n:=ζ.length) (λi=>(kS g p o)[i]?) hF hn mono ?_ ?_ ?_ ?_
 .intro c G;exact%[ζ,Ζ,G.seq q,G.seq s| .inl (bx _)]
 .intro i c E G;obtain⟨v,w,x,y,u,z,F⟩:=L i E;exact%[ζ,Ζ,v,w,G.seq q,G.seq s,u|z]
 .rintro i d c E gr x0 l ⟨T,O,P,rfl,nT,rfl,q1,q2⟩ Q Qn kk kn;obtain⟨v,w,x,y,u,z,e3,e4,Z,r2⟩:=L i E;have ev:O=v:=cE ((q1 _ (gr.same.seq q)).symm.trans u);have ew:P=w:=cE ((q2 _ (gr.same.seq s)).symm.trans z);subst ev ew;have g1:=ag.bD (o:=.tup [O,P]) gr.sub nT;refine%[bN.of ak,rfl,rfl,?_|?_]
  .show(((((Δ.set j none).set n none).set n (some O)).set j (some P)).set j none).set n none=(Δ.set j none).set n none;refine tZ λk=>?_
   simp only[Io,wB];by_cases h1:n=k<;>by_cases h2:j=k<;>simp[h1,h2]
  .unfold jR;dsimp only;rw[aS rfl];refine step O P x y d _ (bO e3) (bO e4) Z r2 (gr.trans g1) _ λr t M g4 hs=>kk r t M _ ?_ (g1.trans g4) hs
   rw[List.getElem?_zipWith,e3,e4]
 .intro d c D gr h;refine done d c D gr ?_;have e:(bV ζ.length).filterMap (λi=>(kS g p o)[i]?)=kS g p o:=by
   have hz:ζ.length=(kS g p o).length:=by rw[List.length_zipWith,<-I,Nat.min_self,Y]
   rw[qo (kS g p o) ζ.length (qZ hz),hz,eK]
  rw[e]at h;exact h
abbrev Cy:Stmt:=top 17
inductive uY(K:ah)(C:ae)(d:List V)(H:Hp)(Q:VK)(E:XK):Prop
 |mk(a:List PR)(l:Nat)(u:V)(F:Hp)(e:d=[u,.int l])(e:aD F H)(e:fF K C F u a)(e:∀p∈a,l<p.green.length)(e:jC (a.map λp=>p.green.getD l 0))(e:∀b c r,ag F H b c->bS K b r (a.map λp=>p.green.getD l 0).sum->Q r c)
def Cz:aV ["parts","lot","part"] ["parts","lot"] (aM Cy):=aX
def VM(I:aH K "green_of" "green_of" Cy f y)(T:lF K a)(d:aW P w K r h "total" 3 ["fractions"] (yA K)):aJ P w K r h aR 4 f y ["parts","lot"] (uY K a):=by?
 refine I.go Cz ?_;rintro C C C s H C C C J ⟨Z,lt,u,F,rfl,o,⟨l,L,rfl,M,hp,N⟩,t,O,k⟩;refine%[_,au (aF (aI d J (ai (dC (own:=[("part",2)]) (te:=e6 (pW K) (fL K (cf 2) "greens") (cf 1)) Cz (cq (pv 0)) (bE 2 Cz) cR (aQ bA (aG (pv 2)) (pv 1) (λC C=>rfl))))))|?_];have j:af K H l L:=o.sq M;refine%[%[_|j]|dI (S:=λF v x=>bS K F v x) (R:=iF K a F) (λp:PR=>p.green.getD lt 0) o j hp N (λC C C C s q=>q.mono s) ?_ ?_]
 .rintro i v x A Q R ⟨b,dx,kv,gv,rfl,e,h1,⟨gl,gs,rfl,B,E,C⟩⟩ g Qk S;have U:=t x (bO R);have G:x.green[lt]?=some (x.green.getD lt 0):=by cbv
  have m:gs[lt]?=some (gs[lt]'(by grind-order [bu])):=cA _;obtain⟨z,V,n⟩:=dh E m;have W:=cE (V.symm.trans G);rw[W]at n;exact%[g.same _ _ (o _ _ e),T.cl,T.ng,nG _ _,g.same.seq (o.sq B),bg m|S _ _ A (ag.refl g.sub) (n.mono g.fs)]
 .intro A Q D g X;exact%[_,_,A,rfl,g.sub,X,O|λF2 H2 c Y q=>k _ _ _ (g.trans Y) q]
abbrev CB:Stmt:=top 18
inductive CC(K:ah)(C:ae)(c:List V)(H:Hp)(Q:VK)(E:XK):Prop
 |mk(p:PR)(k:Rat)(u v:V)(F:Hp)(d:c=[u,v])(d:aD F H)(d:iF K C F u p)(d:bS K F v k)(d:cw k)(d:0<=k)(d:cw p.kilos)(d:0<=p.kilos)(d:∀g∈p.green,cw g/\0<=g)(d:∀a b r,ag F H a b->iF K C a r (i9 k p)->Q r b)
def CF:aV ["part","share","green"] ["part","share"] (aM CB):=aX
def VN(Q:aH K "share_of" "share_of" CB f y)(T:lF K a)(d:aW P w K r h "times" 2 ["first","second"] (uV K))(l:jX P w K r h "Part" a 1 ["self","kilos","greens"] (qi a)):
  aJ P w K r h aR 3 f y ["part","share"] (CC K a):=by?
 refine Q.go CF ?_;rintro C C C s C C C C z ⟨p,n,u,v,F,rfl,J,⟨b,dx,kv,gv,rfl,e,R,S⟩,L,M,k0,U,V,W,k⟩;refine%[_,au (aF (lD l z (by decide) rfl (ay (aI d z (ay (aG (pv 0)) (ai (pv 1)))) (ai (dC (own:=[("green",2)]) CF (cq (aG (pv 0))) (bE 2 CF) cR (aI d z (ay (pv 2) (ai (pv 1)))))))))|?_];refine%[J _ _ e,T.cl,T.nk,qh _ _,p.kilos,n,_,_,F,rfl,J,R,L,U,M,V,k0|λX H1 c m Y=>?_];obtain⟨gl,gs,rfl,A,B,E⟩:=S.up m.fs;have j:af K H1 gl gs:=m.sub.sq A;refine%[m.sub _ _ (m.fs _ _ e),T.cl,T.ng,nG _ _,%[_|j]|dI (S:=λF v x=>bS K F v x) (R:=bS K X) (λg:Rat=>g*n) m.sub j B E (λC C C C s q=>q.mono s) ?_ ?_]
 .rintro i v' x Z H' G H g Qk kk;have N:=W x (bO G);exact%[x,n,_,_,Z,rfl,g.sub,H.mono g.fs,L.mono (m.fs.trans g.fs),N.1,M,N.2,k0|λO H2 r2 t q2=>kk _ _ O t q2]
 .intro O H2 D t hD;intro x o nx nd aa;refine%[x,o,_,_,rfl,ak|λH3 G kp=>%[rfl|?_]];have I:=ag.made t.sub nx nd G kp;refine k _ _ _ ((m.trans t).trans I) %[x,o,_,_,rfl,ak,?_|?_]
  .have q:=Y.mono (t.fs.trans I.fs);rw[wO]at q;exact q
  .have q:=dR.up hD I.fs;have e2:p.green.map (λg=>g*n)=p.green.map (n*·):=jq λg C=>wO g n;rw[e2]at q;exact q
def lG{D:Nat}(c:0<D)(d:D<=2^8900)(e:Dv D Z)(nn:0<=Z)(a:Z<=((2^60:Nat):Int)):cw Z:=by?
 have hd:=bq (Au c (e.den c)) d;have f:=Im.mpr nn;have b:Z.num<=((2^60))*(Z.den:Int):=by
  have:=(Rat.le_iff Z _).mp a
  cbv
 refine%[?_|?_]
 all_goals grind [Lg]
def Mg(h:∀x∈Θ,0<=x)(i:Nat):(Θ.take i).sum<=Θ.sum:=by grind [lZ,jB]
theorem uZ(e:0<n)(c:n<=2^8900)(b:∀x∈Θ,Dv n x/\0<=x)(d:Θ.sum<=((2^60:Nat):Int)):jC Θ:=by? have nn:∀x∈Θ,0<=x:=λx a=>(b x a).2;refine%[nn,λx a=>lG e c (b x a).1 (b x a).2 (d5 (jU nn a) d)|λi=>?_];exact lG e c (Dv.sum λx a=>(b x (lY a)).1) (jB λx a=>nn x (lY a)) (d5 (Mg nn i) d)
structure fG(n K D:Nat)(a:List PR):Prop where
 ok:∀p∈a,p.Ok n
 k0:0<K
 kb:K<=2^8800
 d0:0<D
 db:D<=2^8900
 dv:∀p∈a,Dv K p.kilos/\∀g∈p.green,Dv D g
 ks:bw a<=((2^20:Nat):Int)
 gs:bI a<=((2^20:Nat):Int)
def yF:((((2^20:Nat):Int)):Rat)<=(((2^60:Nat):Int):Rat):=by rfl
def fG.sums(h:fG n j d θ):jC (θ.map (·.kilos)):=by refine uZ h.k0 (bq h.kb (gj (by decide) (by decide))) (λx a=>?_) (d5 h.ks yF);obtain⟨p,hp,rfl⟩:=bF.mp a;exact%[(h.dv p hp).1|d8 (h.ok p hp).pos]
def fG.Mh(h:fG n j d θ)(hp:Ψ∈θ):cw Ψ.kilos:=h.sums.fit _ (g_ hp)
def VO(h:fG n j d θ)(hp:Ψ∈θ)(a:Z∈Ψ.green):Z<=(((2^20:Nat):Int):Rat):=by
 have b:=jU (h.ok Ψ hp).nn a;have c:Ψ.green.sum<=bI θ:=by refine jU (λx e=>?_) (g_ hp);obtain⟨q,f,rfl⟩:=bF.mp e;exact d8 (h.ok q f).some
 exact d5 (d5 b c) h.gs
def fG.CH(h:fG n j d θ)(hp:Ψ∈θ)(a:Z∈Ψ.green):cw Z/\0<=Z:=
 %[lG h.d0 h.db ((h.dv Ψ hp).2 Z a) ((h.ok Ψ hp).nn Z a) (d5 (VO h hp a) yF)|(h.ok Ψ hp).nn Z a]
def Mi(h:∀p∈θ,p.Ok n)(i:Nat):bI (θ.take i)<=bI θ:=by unfold bI;rw[rh];refine Mg (λx a=>?_) i;obtain⟨q,b,rfl⟩:=bF.mp a;exact d8 (h q b).some
def fG.fold(h:fG n j d (Ψ::θ))(i:Nat):(∀g∈(θ.take i).foldl (λs q=>c_ s q.green) Ψ.green,cw g/\0<=g)/\((θ.take i).foldl (λs q=>c_ s q.green) Ψ.green).length=n:=by?
 have hp:=h.ok Ψ (bQ ..);have c:∀q∈θ.take i,q.Ok n:=λq a=>h.ok q (bG _ (lY a));have nn:=B2 _ Ψ.green hp.nn λq a=>(c q a).nn;have dv:=B9 (θ.take i) Ψ.green (h.dv Ψ (bQ ..)).2 λq a=>(h.dv q (bG _ (lY a))).2;have len:=BZ _ Ψ.green hp.len λq a=>(c q a).len;refine%[λg b=>%[lG h.d0 h.db (dv g b) (nn g b) ?_|nn g b]|len];have e:=jU nn b;rw[yh _ Ψ.green hp.len λq a=>(c q a).len]at e;have f:=Mi (λq a=>h.ok q (bG _ a)) i;have k:=h.gs
 grind [bI]
def fG.CI(h:fG n j d θ)(l:Nat):jC (θ.map λp=>p.green.getD l 0):=by?
 have b:∀p∈θ,Dv d (p.green.getD l 0)/\0<=p.green.getD l 0/\p.green.getD l 0<=p.green.sum:=by
  intro p hp;rw[ir];cases e:p.green[l]? with
  |none=>exact%[Dv.zero d,mY|d8 (h.ok p hp).some]
  |some g=>
   have a:=bO e;exact%[(h.dv p hp).2 g a,(h.ok p hp).nn g a|jU (h.ok p hp).nn a]
 refine uZ h.d0 h.db (λx i=>?_) ?_
 .grind
 .have:(θ.map λp=>p.green.getD l 0).sum<=bI θ:=by
   clear h;unfold bI;induction θ with
   |nil=>exact mY
   |cons p r c=>
    have:=c λq f=>b q (bG _ f)
    grind
  exact d5 this (d5 h.gs yF)
def VP(v:V)(a:List V):jP (v::a) (some 1) aq=a:=by
 unfold jP;have b:HT.jO (v::a).length 0 (some 1)=1:=by rfl
 simp_all [HT.Bg]
def VQ(a b:List Rat):kS (· +·) a b=c_ a b:=by rw[<-adY];rfl
abbrev CJ:Stmt:=top 19
inductive yG(K:ah)(C:ae)(e:List V)(H:Hp)(Q:VK)(E:XK):Prop
 |mk(n k d:Nat)(p:PR)(a:List PR)(u:V)(F:Hp)(f:e=[u])(f:aD F H)(f:fF K C F u (p::a))(f:fG n k d (p::a))(f:∀b c r,ag F H b c->iF K C b r (uP p a)->Q r c)
def sC:aV ["parts","greens","part","green","more"] ["parts"] (aM CJ):=aX
def VR(Fn:aH K "mixed" "mixed" CJ f y)(T:lF K a)(L:r "zip"=aq)(E:aW P w K r h "plus" 2 ["first","second"] (yx K))(z:aW P w K r h "kilos_of" 4 ["parts"] (qj K a))(G:jX P w K r h "Part" a 1 ["self","kilos","greens"] (qi a)):
  aJ P w K r h aR 5 f y ["parts"] (yG K a):=by?
 refine Fn.go sC ?_;rintro C C C s H C C C Y ⟨n,kk,dd,p,J,u,F,rfl,Z,⟨l,vs,rfl,hl,hp,hn⟩,o,k⟩;refine%[_,aw (bp 1 sC (aG (aQ bA (pv 0) aL (λC C=>rfl))))
  (aw (eO d9 rfl (cq (oJ oK (pv 0) (lu aL) uA)) (bE 2 sC)
   (au (oM (i:=1) (own:=[("green",3),("more",4)]) (g:=oG K 2 (lq (gH 3) (lq (gH 4) rN))) rfl sC.nd rfl rfl (oN rfl rfl rfl rfl) (BK rfl L (ay (pv 1) (ai (aG (pv 2))))) (nu rfl)
    (λC C C C C=>mj rfl (gI (bE 3 sC) (gI (bE 4 sC) mi))) (λC C C C C=>cR) (λC C C C C=>aI E Y (ay (pv 3) (ai (pv 4)))))))
  (au (aF (lD G Y (by decide) rfl (ay (aI z Y (ai (pv 0))) (ai (pv 1)))))))|?_]
 have M:af K H l vs:=Z.sq hl;obtain⟨v0,m,rfl,h0,N⟩:∃v0 m,vs=v0::m/\iF K a F v0 p/\Paired (iF K a F) m J:=by
  cases hp with
  |cons c t=>grind
 obtain⟨a0,a9,bb,aa,rfl,e0,bo,ao⟩:=h0;refine%[M,bg (j:=0) rfl,Z _ _ e0,T.cl,T.ng,nG _ _|?_];refine%[M|λsl ar=>?_];rw[VP];have g0:=ag.bD (o:=.lst m) Z ar;refine%[%[_|af.of ak]|iB (K:=K) (a:=sl) (xs:=m) (λi σ S=>∃(I:Hp) (U:V) (q:Option V),σ=[some (.ref l),some U,q,aq,aq]/\ag F (upd H sl (.lst m)) I S/\dR K I U ((J.take i).foldl (λs q=>c_ s q.green) p.green))
  %[F,aa,none,rfl,ag.refl g0.sub|ao] (λi σ S _ %[_,_,_,_,g|_]=>g.same.seq (af.of ak)) ?_ ?_]
 .rintro i d σ S hi ⟨I,U,q,rfl,g,A⟩;obtain⟨x,W,⟨c,dx,kv,br,rfl,ea,hk,hg⟩⟩:=dh N hi;have mx:x∈J:=bO W;have av:=o.ok x (bG _ mx);obtain⟨bz,b6,rfl,O,az,a3⟩:=A;obtain⟨b7,b8,rfl,Q,a4,b9⟩:=hg.up g.fs;have y:=o.fold i;refine%[g.sub _ _ (g.fs _ _ ea),T.cl,T.ng,nG _ _,g.sub.sq O,g.sub.sq Q|?_];refine VL (S:=λF v x=>bS K F v x) (R:=bS K I) (R2:=bS K I) (λc b:Rat=>c+b) (by decide) g.sub (g.sub.sq O) (g.sub.sq Q) az a4 a3 (by rw[y.2,av.len]) (λC C C C s q=>q.mono s) ?_ ?_
  .intro v w' xa yb X H2 a5 a6 rv a7 B Qk a8;have f1:=y.1 xa a5;have f2:=o.CH (bG _ mx) a6;exact%[xa,yb,v,w',X,rfl,B.sub,rv.mono B.fs,a7.mono B.fs,f1.1,f2.1,Qr f1.2 f2.2|λF3 H3 j R q3=>a8 _ _ F3 R q3]
  .intro X H2 D B hD;refine%[X,.ref D,_,rfl,g.trans B|?_];rw[take_snoc W,Ip,fI,Iq];have e:kS (λc b:Rat=>c+b) ((J.take i).foldl (λs q=>c_ s q.green) p.green) x.green=c_ ((J.take i).foldl (λs q=>c_ s q.green) p.green) x.green:=VQ _ _;rw[e]at hD;exact hD
 .rintro σ S ⟨I,U,q,rfl,g,A⟩;rw[bu N,eK]at A;refine%[p::J,_,I,rfl,g.sub,%[l,.ref a0::m,rfl,g.fs _ _ hl,cT hp λv x q=>q.mono g.fs|hn],o.sums|λX H2 j B q2=>?_];intro x dx nx nd cc;refine%[x,dx,_,_,rfl,ak|λH3 W kp=>%[rfl|?_]];have R:=ag.made B.sub nx nd W kp;exact k _ _ _ (((g0.trans g).trans B).trans R) %[x,dx,_,_,rfl,ak,q2.mono R.fs|A.up (B.fs.trans R.fs)]
def iT(h:n<=1000)(c:j<=1000):n+j<=bf:=bq (by lia:n+j<=2000) (by decide)
def jZ(s:Rat×List PR×List PR)(p:PR):Rat×List PR×List PR:=
 if s.1=0 then(s.1,s.2.1,s.2.2++[p])else if s.1<p.kilos then(0,s.2.1++[i9 (s.1/p.kilos) p],s.2.2++[i9 (1-s.1/p.kilos) p])else(s.1-p.kilos,s.2.1++[p],s.2.2)
def yH(k:Rat)(t l:List PR)(p:PR):jZ (k,t,l) p=if k=0 then(k,t,l++[p])else if k<p.kilos then(0,t++[i9 (k/p.kilos) p],l++[i9 (1-k/p.kilos) p])else(k-p.kilos,t++[p],l):=rfl
theorem fold_zero:∀(a t l:List PR),a.foldl jZ ((0:Rat),t,l)=((0:Rat),t,l++a)
 |[],t,l=>by rw[g9];rfl
 |p::r,t,l=>by
  rw[fI];have e:jZ ((0),t,l) p=(0,t,l++[p]):=by rfl
  rw[e,fold_zero r,lW];rfl
theorem Mj:∀(a:List PR) (k:Rat) (t l:List PR),(∀p∈a,p.Ok n)->0<=k->(a.foldl jZ (k,t,l)).2=(t++(cz a k).1,l++(cz a k).2)
 |[],k,t,l,_,_=>by show(t,l)=(t++[],l++[]);simp
 |p::r,k,t,l,h,h0=>by
  rw[fI,yH];unfold cz;by_cases b:k=0
  .simp_all [fold_zero]
  .rw[aE b];by_cases c:k<p.kilos
   .grind [fold_zero]
   .rw[Mj r _ _ _ (λq d=>h q (bG _ d)) (by grind)]
    grind
theorem CK{K:Nat}:∀(a:List PR) (k:Rat) (t l:List PR),(∀p∈a,Dv K p.kilos/\0<p.kilos)->0<=k->Dv K k->0<=(a.foldl jZ (k,t,l)).1/\(a.foldl jZ (k,t,l)).1<=k/\Dv K (a.foldl jZ (k,t,l)).1
 |[],k,t,l,_,h0,hd=>%[h0,mY|hd]
 |p::r,k,t,l,h,h0,hd=>by?
  have hp:=h p (bQ ..);have b:=λq c=>h q (bG _ c);rw[fI,yH];by_cases d:k=0
  .subst d;exact CK r _ _ _ b h0 hd
  .by_cases e:k<p.kilos
   .simp_all [fold_zero,Dv.zero]
   .have f:=CK r _ (t++[p]) l b (by grind) (hd.sub hp.1)
    grind
theorem u_:∀(a:List PR) (k:Rat) (t l:List PR),(a.foldl jZ (k,t,l)).2.1.length<=t.length+a.length/\(a.foldl jZ (k,t,l)).2.2.length<=l.length+a.length
 |[],k,t,l=>%[bx _|bx _]
 |p::r,k,t,l=>by?
  rw[fI,yH];split
  .have b:=u_ r k t (l++[p])
   (cbv;lia)
  .split
   .have b:=u_ r 0 (t++[i9 (k/p.kilos) p]) (l++[i9 (1-k/p.kilos) p])
    simp_all+arith
   .have b:=u_ r (k-p.kilos) (t++[p]) l
    (cbv;lia)
abbrev CN:Stmt:=top 20
inductive yI(K:ah)(C:ae)(f:List V)(H:Hp)(Q:VK)(E:XK):Prop
 |mk(n k d:Nat)(th a:List PR)(b:Bool)(u v:V)(F:Hp)(h:f=[u,v,.bl b])(h:aD F H)(h:fF K C F u th)(h:fF K C F v a)(h:fG n k d (th++a))(h:a≠[])(h:th.length<=1000)(h:a.length<=1000)(h:∀c e r,ag F H c e->fF K C c r (fU b th a)->Q r e)
def VS:aV ["there","added","silo"] ["there","added","silo"] (aM CN):=aX
def VT(I:aH K "put" "put" CN f y)(c:aW P w K r h "mixed" 5 ["parts"] (yG K a)):aJ P w K r h aR 6 f y ["there","added","silo"] (yI K a):=by?
 refine I.go VS ?_;rintro C C C C C C C C J ⟨n,L,M,th,t,z,u,v,F,rfl,i,⟨Q,l,rfl,A,B,R⟩,⟨S,m,rfl,D,o,T⟩,d,N,b1,b2,k⟩;refine%[_,aw (bW (eQ (pv 2) (λC=>rfl)) (au (aF (bJ eT (pv 0) (pv 1)))) bZ)
  (au (aF (bH (ai (aI c J (ai (bJ eT (pv 0) (pv 1))))))))|?_]
 have U:=bu B;have V:=bu o;have pa:=gM B o;refine%[z,rfl|?_];cases z with
 |true=>
  refine a_ %[i _ _ A,i _ _ D,iT (by simp[*]) (by simp[*])|λp hp=>?_];have g:=ag.put (o:=.lst (l++m)) i hp;refine k _ _ _ g %[p,_,rfl,ak,cT pa λv x q=>q.mono g.fs|?_]
  (cbv;lia)
 |false=>
  refine bt %[i _ _ A,i _ _ D,iT (by simp[*]) (by simp[*])|λp hp=>?_];have g:=ag.put (o:=.lst (l++m)) i hp;obtain⟨q,j,H⟩:X2 λq j=>th++t=q::j:=by
   cases e:th++t with
   |nil=>cbv
   |cons q j=>exact%[q,j|rfl]
  rw[H]at d pa;refine%[n,L,M,q,j,_,_,rfl,g.sub,%[p,_,rfl,ak,cT pa λv x q=>q.mono g.fs|by(cbv;lia)],d|λW X b E O=>?_];refine%[dc|λo s=>?_];have G:=ag.put (o:=.lst [b]) E.sub s;refine k _ _ _ ((g.trans E).trans G) %[o,_,rfl,ak,?_|by simp];have e:fU false th t=[uP q j]:=by unfold fU;rw[H];rfl
  rw[e];exact .cons (O.mono G.fs) .nil
def sD(r:Rat):PyData:=.tuple [.int r.num,.int r.den]
def sE{r:Rat}(h:bS K H O r):Dp K H O (sD r):=by obtain⟨a,rfl,q⟩:=h;exact .tup q (.cons (.int _) (.cons (.int _) .nil))
def sG(r:Rat):Ai (sD r)=true:=rfl
def CO(a b:Rat):HM (sD a) (sD b)=decide (a=b):=by
 have e:HM (sD a) (sD b)=(a.num==b.num&&((a.den:Int)==(b.den:Int)&&true)):=rfl
 grind [Rat.ext]
abbrev iG{X:Cx}{o e:Expr}{to c:TE}{b a:Pos}:=@Bm X o e [] to (e9 c fS) "append" b a "list" "list.append" Kg Ir ada PySem.F.type_list_append To
abbrev CQ:Stmt:=top 21
inductive va(K:ah)(C:ae)(f:List V)(H:Hp)(Q:VK)(E:XK):Prop
 |mk(n k d:Nat)(b:List PR)(x:Rat)(u v:V)(F:Hp)(h:f=[u,v])(h:aD F H)(h:fF K C F u b)(h:bS K F v x)(h:fG n k d b)(h:0<=x)(h:x<=(((2^20:Nat):Int):Rat))(h:Dv k x)(h:k<=2^800)(h:b.length<=1000)(h:∀c e r a t l,ag F H c e->r=.ref a->e a=some (.tup [t,l])->fF K C c t (cz b x).1->fF K C c l (cz b x).2->Q r e)
def oR:aV ["parts","kilos","taken","left","wanted","part","share"] ["parts","kilos"] (aM CQ):=aX
def VU(Fn:aH K "taken_and_left" "taken_and_left" CQ f y)(T:lF K a)(hZ:lE K r "ZERO" 0)(hO:lE K r "ONE" 1)
  (Z:aW P w K r h "is_less" 1 ["first","second"] (sA K))(aa:aW P w K r h "over" 3 ["first","second"] (yz K))(D:aW P w K r h "minus" 3 ["first","second"] (Cj K))(E:aW P w K r h "share_of" 3 ["part","share"] (CC K a)):
  aJ P w K r h aR 4 f y ["parts","kilos"] (va K a):=by?
 refine Fn.go oR ?_;rintro e e e e H e e e hr ⟨n,kk,dd,W,x,u,v,F,rfl,hF,⟨l,vs,rfl,hl,hp,hn⟩,hv,j,x0,x1,xd,kb,hlen,k⟩;obtain⟨z,hz,a3⟩:=hZ.ex;obtain⟨o,ho,b7⟩:=hO.ex;refine%[_,aw (bp 2 oR (bH e_))
  (aw (bp 3 oR (bH e_))
  (aw (bp 4 oR (pv 1))
  (aw (eO d9 rfl (cq (pv 0)) (bE 5 oR)
   (au (bW (bY (TN hr.units) (pv 4) (ke (v:=.ref z) rfl hz rfl) (b_ _)) (au (eN (iG (pv 3) (ai (pv 5)))))
    (au (bW (eQ (aI Z hr (ay (pv 4) (ai (aG (pv 5))))) (λe=>rfl))
     (aw (bp 6 oR (aI aa hr (ay (pv 4) (ai (aG (pv 5))))))
     (aw (eN (iG (pv 2) (ai (aI E hr (ay (pv 5) (ai (pv 6)))))))
     (aw (eN (iG (pv 3) (ai (aI E hr (ay (pv 5) (ai (aI D hr (ay (ke (v:=.ref o) rfl ho rfl) (ai (pv 6))))))))))
     (au (bp 4 oR (ke (v:=.ref z) rfl hz rfl))))))
     (aw (eN (iG (pv 2) (ai (pv 5))))
     (au (bp 4 oR (aI D hr (ay (pv 4) (ai (aG (pv 5)))))))))))))
  (au (aF (mB (ay (pv 2) (ai (pv 3)))))))))|?_]
 have a4:af K H l vs:=hF.sq hl;refine%[bM _|λL M=>?_];refine%[bM _|λla b8=>?_];have ao:la≠L:=λe=>by simp_all [ak]
 have G:H la=aq:=by simp_all [aB]
 have g0:=(ag.bD (o:=.lst []) hF M).trans (ag.bD (o:=.lst []) (ag.bD (o:=.lst []) hF M).sub b8);have b6:=λi=>CK (K:=kk) (W.take i) x [] [] (λp hp=>%[(j.dv p (lY hp)).1|(j.ok p (lY hp)).pos]) x0 xd;have k0:=j.k0;have cL:kk<=2^8900:=bq kb (gj (by decide) (by decide));have cnt:=λi=>u_ (W.take i) x [] [];refine%[%[_|g0.same.seq a4]|iB (K:=K) (a:=l) (xs:=vs) (λi σ X=>X6 λ(A:Hp) (wv:V) (q5 q6:Option V) (s O:List V)=>A9 (σ=[some (.ref l),some v,some (.ref L),some (.ref la),some wv,q5,q6]) (ag F H A X) (A L=aq) (A la=aq) (X L=some (.lst s)) (X la=some (.lst O)) (bS K A wv ((W.take i).foldl jZ (x,[],[])).1) (Paired (iF K a A) s ((W.take i).foldl jZ (x,[],[])).2.1) (Paired (iF K a A) O ((W.take i).foldl jZ (x,[],[])).2.2))
  %[F,v,none,none,[],[],rfl,g0,hF.free M,hF.free G,by rw[aB ao.symm,ak],ak,hv,.nil| .nil] (λi σ X _ %[_,_,_,_,_,_,_,g,_,_,_,_,_,_|_]=>g.same.seq a4) ?_ ?_]
 .rintro i b σ X hi ⟨A,wv,q5,q6,s,O,rfl,g,nt,nl,et,el,hw,pt,pl⟩;obtain⟨p,a5,hy⟩:=dh hp hi;have mp:p∈W:=bO a5;have N:=j.ok p mp;have Q:=j.Mh mp;obtain⟨c,dx,kv,gv,rfl,ea,hk,b9⟩:=hy;have wi:=b6 i;have ci:=cnt i;have cM:(W.take i).length<=1000:=by(cbv;lia)
  rw[take_snoc a5,Ip,fI,Iq];generalize(W.take i).foldl jZ (x,[],[])=st at*;obtain⟨I,tt,ll⟩:=st;dsimp only at*;have lt:s.length<=1000:=by grind [bu]
  have a6:O.length<=1000:=by grind [bu]
  have fw:cw I:=lG k0 cL wi.2.2 wi.1 (d5 wi.2.1 (d5 x1 yF));have ha:X c=some (.ins a dx (pf kv gv)):=g.sub _ _ (g.fs _ _ ea);have py:iF K a A (.ref c) p:=%[c,dx,kv,gv,rfl,g.fs _ _ ea,hk.mono g.fs|b9.up g.fs];refine%[_,_,sE (hw.mono g.sub),sE %[z,rfl|a3 X],sG _,sG _|⟨?_⟩];rw[CO,yH];by_cases h0:I=0
  .rw[bT h0,aS h0];refine a_ %[.inl %[rfl,_|af.of el],el,uM a6|?_];refine%[A,wv,_,_,s,O++[.ref c],rfl,g.iE G nl,nt,nl,by grind [aB],ak,by omega,pt|gM pl (.cons py .nil)]
  .rw[bK h0,aE h0];refine bt %[ha,T.cl,T.nk,qh _ _,I,p.kilos,_,_,rfl,hw.mono g.sub,(hk.mono g.fs).mono g.sub,fw.wide,Q.wide,_,rfl|?_];have a7:0<I:=by have:=wi.1;exact Rat.lt_of_le_of_ne this λc↦h0 (id (kR c))
   by_cases R:I<p.kilos
   .rw[bT R,aS R];have Y:p.kilos<=(((2^20:Nat):Int):Rat):=d5 (yp j.ok mp) j.ks;have s0:=yj a7 N.pos;have s1:=Ly N.pos R;obtain⟨B,b0,b1,hB⟩:=B6 k0 N.pos Y wi.2.2 (j.dv p mp).1;have bb:B<=2^8900:=by lia
    have S:(1:Rat)<=(((2^60:Nat):Int):Rat):=by rfl
    have fs:cw (I/p.kilos):=lG b0 bb hB (d8 s0) (d5 (d8 s1) S);have fo:cw 1:=lG (D:=1) (by decide) (Ig) (Dv.int 1 1) (by decide) S;have d1:Dv B (1-I/p.kilos):=(Dv.int B 1).sub hB;have ar:0<=1-I/p.kilos:=by grind
    have f1:cw (1-I/p.kilos):=lG b0 bb d1 ar (by grind);refine a_ %[ha,T.cl,T.nk,qh _ _,I,p.kilos,_,_,A,rfl,g.sub,hw,hk.mono g.fs,fw,Q,wi.1,N.pos|λF1 H1 sv J a8=>?_];have av:=J.same _ _ et;have U:=J.same _ _ el;have cc:=J.out et nt;have ck:=J.out el nl;refine%[.inl %[rfl,_|af.of av],p,I/p.kilos,_,_,F1,rfl,J.sub,py.mono J.fs,a8,fs,d8 s0,Q,d8 N.pos,λg' az=>j.CH mp az|λF2 H2 r2 m q2=>?_];have cm:=m.same _ _ av;have cP:=m.same _ _ U;have a9:=m.out av cc;have cn:=m.out U ck;refine%[cm,uM lt|?_];have bo:ag F H F2 (upd H2 L (.lst (s++[r2]))):=((g.trans J).trans m).iE M a9;have a0:(upd H2 L (.lst (s++[r2]))) la=some (.lst O):=by simp_all [aB]
    refine%[.inl %[rfl,_|af.of a0],1,I/p.kilos,_,_,F2,rfl,bo.sub,%[o,rfl|b7 F2],a8.mono m.fs,fo,fs,ar|λF3 H3 r3 g3 q3=>?_];refine%[p,1-I/p.kilos,_,_,F3,rfl,g3.sub,py.mono (J.fs.trans (m.fs.trans g3.fs)),q3,f1,ar,Q,d8 N.pos,λg' az=>j.CH mp az|λF4 H4 r4 g4 q4=>?_];have t:=g3.trans g4;have cp:=t.same _ _ a0;have cW:H4 L=some (.lst (s++[r2])):=t.same _ _ ak;have cv:=t.out ak a9;have br:=t.out a0 cn;refine%[cp,uM a6|?_];exact%[F4,.ref z,_,_,s++[r2],O++[r4],rfl,(bo.trans t).iE G br,cv,br,by grind [aB],ak,%[z,rfl|a3 F4],
     gM (cT pt λv x q=>q.mono (J.fs.trans (m.fs.trans t.fs))) (.cons (q2.mono t.fs) .nil)|gM (cT pl λv x q=>q.mono (J.fs.trans (m.fs.trans t.fs))) (.cons q4 .nil)]
   .rw[bK R,aE R];refine bt %[.inl %[rfl,_|af.of et],et,uM lt|?_];have J:=g.iE (o:=.lst (s++[.ref c])) M nt;have cD:(upd X L (.lst (s++[.ref c]))) c=some (.ins a dx (pf kv gv)):=J.sub _ _ (g.fs _ _ ea);refine%[cD,T.cl,T.nk,qh _ _,I,p.kilos,_,_,A,rfl,J.sub,hw,hk.mono g.fs,fw,Q,by grind|λF2 H2 d m q2=>?_];have U:(upd X L (.lst (s++[.ref c]))) la=some (.lst O):=by rw[aB ao];exact el
    exact%[F2,d,_,_,s++[.ref c],O,rfl,J.trans m,m.out ak nt,m.out U nl,m.same _ _ ak,m.same _ _ U,q2,gM (cT pt λv x q=>q.mono m.fs) (.cons (py.mono m.fs) .nil)|cT pl λv x q=>q.mono m.fs]
 .rintro σ X ⟨A,wv,q5,q6,s,O,rfl,g,nt,nl,et,el,hw,pt,pl⟩;rw[bu hp,eK]at pt pl;have ft:=Mj W x [] [] j.ok x0;rw[ft]at pt pl;have c1:=u_ W x [] [];rw[ft]at c1;simp only[wU,P_]at c1 pt pl;have gx:=g.fix M et (.inl nt);have bz:(upd A L (.lst s)) la=aq:=by rw[aB ao];exact nl
  have gy:=gx.fix G el (.inl bz);have sm:aD A (upd (upd A L (.lst s)) la (.lst O)):=(cQ nt).trans (cQ bz);refine%[fV|λd cG=>?_];have g3:=ag.bD (o:=.tup [.ref L,.ref la]) gy.sub cG;refine k _ _ _ d _ _ (gy.trans g3) rfl ak %[L,s,rfl,?_,cT pt λv x q=>q.mono sm|?_] %[la,O,rfl,ak,cT pl λv x q=>q.mono sm|?_]
  all_goals grind [aB,ak,bu]
abbrev CT:Stmt:=top 22
def VV(x:Rat)(a:List PR):List PR:=a.map λp=>%[p.kilos*(x/bw a)|p.green]
inductive CU(K:ah)(C:ae)(e:List V)(H:Hp)(Q:VK)(E:XK):Prop
 |mk(n k d:Nat)(a:List PR)(x:Rat)(u v:V)(F:Hp)(f:e=[u,v])(f:aD F H)(f:fF K C F u a)(f:bS K F v x)(f:fG n k d a)(f:0<=x)(f:cw x)(f:0<bw a)(f:cw (x/bw a))(f:a.length<=1000)(f:∀b c r,ag F H b c->fF K C b r (VV x a)->Q r c)
def yJ:aV ["parts","kilos","share","part"] ["parts","kilos"] (aM CT):=aX
def VW(R:aH K "weighed" "weighed" CT f y)(T:lF K a)(j:aW P w K r h "times" 2 ["first","second"] (uV K))(m:aW P w K r h "over" 3 ["first","second"] (yz K))(e:aW P w K r h "kilos_of" 4 ["parts"] (qj K a))
  (o:jX P w K r h "Part" a 1 ["self","kilos","greens"] (qi a)):aJ P w K r h aR 5 f y ["parts","kilos"] (CU K a):=by?
 refine R.go yJ ?_;rintro C C C s C J C C E ⟨n,kk,dd,z,x,u,v,F,rfl,S,L,U,d,x0,V,pos,fs,hlen,k⟩;refine%[_,aw (rO (i:=2) yJ.nd rfl (rf rfl) (aI m E (ay (pv 1) (ai (aI e E (ai (pv 0)))))))
  (au (aF (dC (own:=[("part",3)]) (te:=uw a (qi a) [] E0 (e9 (oI (uV K) [] E0 (e9 (fL K (cf 3) "kilos") (e9 (cf 2) fS))) (e9 (fL K (cf 3) "greens") fS))) yJ (cq (pv 0)) (bE 3 yJ) cR (lD o E (by decide) rfl (ay (aI j E (ay (aG (pv 3)) (ai (pv 2)))) (ai (aG (pv 3))))))))|?_]
 have W:cw (bw z):=by have:=d.sums.part (z.map (·.kilos)).length;rw[eK]at this;exact this
 refine%[z,u,F,rfl,S,L,d.sums|λX H1 r1 G Y=>?_];refine%[x,bw z,_,_,X,rfl,G.sub,U.mono G.fs,Y,V,W,x0,pos|λZ H2 r2 O q2=>?_];obtain⟨l,J,rfl,hl,hp,hn⟩:=L.up (G.fs.trans O.fs);have t:=G.trans O;have B:af K H2 l J:=t.sub.sq hl;refine%[%[_|B]|dI (S:=λF v x=>iF K a F v x) (R:=iF K a Z) (λp:PR=>(%[p.kilos*(x/bw z)|p.green]:PR)) t.sub B hp hn (λC C C C s q=>q.mono s) ?_ ?_]
 .rintro i v' p F' H' hx ⟨b,dx,kv,gv,rfl,ea,hk,hg⟩ g Qk H;have Q:=bO hx;have M:=g.sub _ _ (g.fs _ _ ea);refine%[M,T.cl,T.nk,qh _ _,p.kilos,x/bw z,_,_,F',rfl,g.sub,hk.mono g.fs,q2.mono g.fs,d.Mh Q,fs,d8 (d.ok p Q).pos,?_|λF3 H3 r3 A q3=>?_]
  .rw[Rat.div_def];exact H_ x0 (d8 (Qs.mpr pos))
  refine%[A.same _ _ M,T.cl,T.ng,nG _ _|?_];intro c N ny nd aa;refine%[c,N,_,_,rfl,ak|λH4 hy kp=>%[rfl|?_]];have I:=ag.made A.sub ny nd hy kp;exact H _ _ _ (A.trans I) %[c,N,_,_,rfl,ak,q3.mono I.fs|hg.up (g.fs.trans (A.fs.trans I.fs))]
 .intro F3 H3 D A hD;exact k _ _ _ (t.trans A) hD
end
end
open TL (tl)
structure jb(P:aC)(w:World)(K:ah)(a:ae)(b:List (Key×V)):Prop where
 ns:(a==iQ)=false
 ex:∃c,KV b c/\∀h:ax,K.In h->h.DictOf (iw P w) a c
inductive VX(Q:VK)(P:aC)(w:World)(K:ah)(x y:V)(c:Hp):Prop
 |mk a b k v(d:x=.ref a)(d:jb P w K a b)(d:y=kV k)(d:dN b k=some v)(d:Q v c)
def VY(P:aC)(w:World)(K:ah)(a ty:TE):TE:=λσ H Q=>a σ H λx c=>ty σ c λy b=>VX Q P w K x y b
inductive VZ(Q:VK)(P:aC)(w:World)(K:ah)(y x:V)(c:Hp):Prop
 |mk a b k(d:x=.ref a)(d:jb P w K a b)(d:y=kV k)(d:Q (.bl (!(dN b k).isSome)) c)
def V9(P:aC)(w:World)(K:ah)(ty a:TE):TE:=λσ H Q=>ty σ H λy c=>a σ c λx b=>VZ Q P w K y x b
def afk(P:aC)(w:World)(K:ah)(ty c:TE):TE:=λσ H Q=>ty σ H λy e=>c σ e λx d=>X3 λa b k=>A4 (x=.ref a) (jb P w K a b) (y=kV k) (Q (.bl (dN b k).isSome) d)
section
variable{H J:Hp}{K:ah}{N:Type}{O:V}{U:List Int}{X:Cx}{b e i o:Expr}{p:Pos}{x:Str}{Ο ι:TE}{ν:List Str}
def sH(j:PE X o ι)(m:PE X i Ο)(n:KL i):PE X (.Subscript o i p) (VY X.prog X.w X.K ι Ο):=by? intro b s σ H Q I h;refine Ue PySem.F.slot_dict_getitem.lookup n (aZ (j b s σ H _ I h) λu F %[x,D,q,r|t]=>aZ (m b F σ D _ q t) λG L %[y,w,e,z,a,A,k,v,ex,g,B,l|C]=>?_);subst ex B;obtain rfl:u=iO a:=r;obtain⟨J,d,hd⟩:=g.ex;have f:=hd _ e.h_;obtain⟨K,E,c⟩:=iy.some_of (by rw[<-l];exact d.val k);exact%[f.typeIs|wpAny_getItem_of (uG z) f.mapOf E %[v,w,e.tok _,c|C]]
def V_(e:PE X i Ο)(f:PE X o ι):PC X .NotIn i o (V9 X.prog X.w X.K Ο ι):=by?
 intro b s σ H Q I h;refine aZ (e b s σ H _ I h) λA z %[y,w,j,l|m]=>aZ (f b z σ w _ j m) λu C %[x,n,d,p,a,q,k,ex,g,r|t]=>?_
 subst ex r;obtain rfl:u=iO a:=p;obtain⟨B,c,hd⟩:=g.ex;have v:=hd _ d.h_;refine wpAny_notIn_of (uG l) g.ns v.mapOf ?_;rw[<-(c.val k).KG];exact%[.bl _,n,d.tok _,rfl|t]
structure FnAt(P:aC)(w:World)(K:ah)(mg:Str->Option Value)(base:ax)(f:ae)(k:Nat)(a:List Str)(c:Sp):Prop where
 ex:X1 λ(b:aK)=>A3 (aJ P w K mg base aR k f b a c) (mT K (.ref f)=true) (Binds K b a [])
inductive V'(σ:L2.St)(Q:VK)(P:aC)(w:World)(K:ah)(mg:Str->Option Value)(base:ax)(A:Around)(t:TA)(x:V)(d:Hp):Prop
 |mk f k a sp(e:x=.ref f)(e:FnAt P w K mg base f k a sp)(e:cY k A)(e:t σ d λb c=>sp b c Q E0)
def Wa(P:aC)(w:World)(K:ah)(mg:Str->Option Value)(base:ax)(A:Around)(a:TE)(t:TA):TE:=λσ H Q=>a σ H λx b=>V' σ Q P w K mg base A t x b
def Ml{t:TA}{ξ:List Expr}(z:PE X b ι)(i:PA X (e::ξ) t)(y:bP (e::ξ) X.env=(false,eval e X.env)::bP ξ X.env:=by rfl)(d:(backTo p (bP ξ X.env)).any (·.1)=false:=by rfl)
  (j:eval (.Call b (e::ξ) [] p) X.env=(do callWith p (<-eval b X.env) [] (backTo p (bP (e::ξ) X.env)) (kY p (kZ [] X.env))):=by rfl):
  PE X (.Call b (e::ξ) [] p) (Wa X.prog X.w X.K X.mg X.base X.A ι t):=by?
 intro c s σ H Q I h;refine Call_ (aZ (z c s σ H _ I h) λu A %[x,w,l,m,f,k,B,K,ex,F,n|o]=>?_) j;subst ex;obtain rfl:u=iO f:=m;obtain⟨E,v,kp,a⟩:=F.ex;refine HG I.ok.mod.rJ kp (aZ (i p c A σ w _ l o) λG J %[C,D,g,r|q]=>%[g.h_|?_]) y d;exact xK v n a .nil r_ g r (by cbv)
structure GV(mg:Str->Option Value)(x:Str)(v:V):Prop where
 ex:∃u,mg x=some u/\RelV v u
def bC(h:GV X.mg x O)(a:Gl X x:=by rfl)(hd:(x==("__debug__":Str))=false:=by decide):PE X (.Name x p) (tC O):=by obtain⟨u,b,r⟩:=h.ex;exact ke a b r hd
inductive dO(F:Hp)(v:V)(ns:List Int):Prop
 |mk a(b:v=.ref a)(b:F a=some (.lst (ns.map V.int)))(b:ns.length<=1000000)
inductive gN(F:Hp)(v:V)(ws:List Str):Prop
 |mk a(b:v=.ref a)(b:F a=some (.lst (ws.map V.str)))(b:ws.length<=1000000)
def dO.mono(h:dO H O U)(s:aD H J):dO J O U:=by obtain⟨a,e,q,n⟩:=h;exact%[a,e,s _ _ q|n]
def gN.mono(h:gN H O ν)(s:aD H J):gN J O ν:=by obtain⟨a,e,q,n⟩:=h;exact%[a,e,s _ _ q|n]
def lH{f:N->V}:∀{a:List V} {ns:List N},Paired (λv n=>v=f n) a ns->a=ns.map f:=by
 intro b b h;induction h with
 |nil=>rfl
 |cons h _ t=>rw[h,t];rfl
theorem oS{f:N->V}:∀ns:List N,Paired (λv n=>v=f n) (ns.map f) ns
 |[]=>.nil
 |n::r=>.cons rfl (oS r)
def dj.ints(h:dj (λO n=>O=V.int n) K H O U):dO H O U:=by obtain⟨a,b,e,q,p,n⟩:=h;rw[lH p]at q n;exact%[a,e,q|by cbv]
def dj.strs(h:dj (λO n=>O=V.str n) K H O ν):gN H O ν:=by obtain⟨a,b,e,q,p,n⟩:=h;rw[lH p]at q n;exact%[a,e,q|by cbv]
def Mm{j:Nat}{Δ:L2.St}{S:Hp->V->N->Prop}{r:ae->Hp->Prop}(g:Nat->N)(w:aD J H)(z:x.cps.size<=1000000)
  (mono:∀d k v b,aD d k->S d v b->S k v b)
  (step:∀(c:Nat) (d a:Hp),c∈tl x->ag J H d a->∀o:VK,(∀y f n,ag d a n f->S n y (g c)->o y f)->ι ((wipe Δ [j]).set j (some (.str ⟨#[c]⟩))) a o)
  (done:∀d a D,ag J H d a->dj (S d) K d (.ref D) ((tl x).map g)->r D a):
  ∀D,H D=aq->∃W:Nat->Nat->Hp->Prop,(∃m,W 0 m (upd H D (.lst [])))/\∀i m a,W i m a->
   ((uI x).stop i a/\r D a)\/((uI x).go i a/\∃p:Hp->Prop,(∀e,p e->∃s,s<m/\W (i+1) s e)/\∀v e,(uI x).ic i a v e->gH j v (wipe Δ [j]) e λq A=>wipe q [j]=wipe Δ [j]/\jR q A λb t=>
    if b=true then ι q t λy f=>∃acc,f D=some (.lst acc)/\acc.length<bf/\p (upd f D (.lst (acc++[y])))else p t):=by?
 have len:(tl x).length=x.cps.size:=by simp[tl]
 refine qk (K:=K) (S:=S) (n:=x.cps.size) (λi=>((tl x).map g)[i]?) w z mono (λa F=>bx _) (λi a u F=>u) ?_ ?_
 .rintro i d a u gr v e ⟨rfl,c,B,rfl⟩ o I C L;refine%[uX|?_];unfold jR;dsimp only;rw[aS rfl];have l:(tl x)[i]?=some c:=by rw[<-B];simp[tl]
  refine step c d _ (bO l) gr _ λy f n E G=>C y f n _ ?_ E G;rw[eJ,l];rfl
 .intro d a D gr h;rw[qo _ _ (by rw[aY,len];exact bx _)]at h;rw[<-len,show(tl x).length=((tl x).map g).length by rw[aY],eK]at h;exact done d a D gr h
end
def boot_ord:l_ "ord"=some (.builtin "ord"):=by decide+kernel
def boot_all:l_ "all"=some (.builtin "all"):=by decide+kernel
def sI:List Nat:=(bV 26).map (· +97)
def sJ:List Nat:=(bV 10).map (· +48)
structure vb(mg:Str->Option Value):Prop where
 CV:GV mg "LETTERS" (.str "abcdefghijklmnopqrstuvwxyz")
 digits:GV mg "DIGITS" (.str "0123456789")
 Wb:GV mg "STRANGE" (.str "?")
 name:GV mg "LONGEST_NAME" (.int 8)
 kilos:GV mg "LONGEST_KILOS" (.int 4)
 good:GV mg "GOOD" (.int 0)
 yK:GV mg "WRONG_FORM" (.int 1)
 there:GV mg "NOT_THERE" (.int 3)
def Wc:tl ("abcdefghijklmnopqrstuvwxyz":Str)=sI:=by decide+kernel
def Wd:tl ("0123456789":Str)=sJ:=by decide+kernel
def We:tl (("abcdefghijklmnopqrstuvwxyz":Str)++("0123456789":Str))=sI++sJ:=by rfl
def CY(c:Nat):decide (c∈sI)=j7 c:=by
 unfold j7 sI;rw[<-adZ];refine decide_eq_decide.mpr ?_;simp only[bF,kT];constructor
 .lia
 .intro h;exact%[c-97,by simp+arith [*]|by cbv]
def CZ(c:Nat):decide (c∈sJ)=gP c:=by
 unfold gP sJ;rw[<-adZ];refine decide_eq_decide.mpr ?_;simp only[bF,kT];constructor
 .lia
 .intro h;exact%[c-48,by simp+arith [*]|by cbv]
def Wf(c:Nat):decide (c∈sI++sJ)=(j7 c||gP c):=by simp[CY,CZ]
abbrev C0:Stmt:=top 54
inductive Mn(d:List V)(H:Hp)(Q:VK)(E:XK):Prop
 |mk(z:Str)(F:Hp)(e:d=[.str z])(e:aD F H)(e:z.cps.size<=1000000)(e:∀a b r,ag F H a b->dO a r ((tl z).map λ(c:Nat)=>(c:Int))->Q r b)
def C6:aV ["signs","sign"] ["signs"] (aM C0):=aX
section
variable{K:ah}{P:aC}{f:ae}{h:ax}{r:Str->Option Value}{w:World}{y:aK}
def Wg(d:aH K "bytes_of" "bytes_of" C0 f y)(a:r "ord"=aq):aJ P w K r h aR 1 f y ["signs"] Mn:=by?
 refine d.go C6 ?_;rintro t t t t t t t t t ⟨z,F,rfl,e,i,k⟩;refine%[_,au (aF (dC (own:=[("sign",1)]) C6 (BF (pv 0)) (bE 1 C6) cR (cg JQ (by rfl) a boot_ord (ai (pv 1)))))|?_];refine%[z,rfl|Mm (K:=K) (S:=λF v (n:Int)=>v=V.int n) (λ(c:Nat)=>(c:Int)) e i (λt t t t t q=>q) ?_ ?_]
 .intro c b j o g p l;exact%[_,rfl,rfl|l _ _ b (ag.refl g.sub) rfl]
 .intro b j D g m;exact k _ _ _ g m.ints
abbrev C7:Stmt:=top 55
inductive C8(b:List V)(H:Hp)(Q:VK)(E:XK):Prop
 |mk(z y:Str)(F:Hp)(e:b=[.str z,.str y])(e:aD F H)(e:z.cps.size<=1000000)(e:∀d a,ag F H d a->Q (.bl ((tl z).all λc=>decide (c∈tl y))) a)
def C9:aV ["word","signs","sign"] ["word","signs"] (aM C7):=aX
def Wh(l:aH K "holds_only" "holds_only" C7 f y)(i:r "all"=aq):aJ P w K r h aR 1 f y ["word","signs"] C8:=by?
 refine l.go C9 ?_;rintro B B B B B m B B B ⟨z,d,F,rfl,o,s,k⟩;refine%[_,au (aF (cg (pZ rfl) (by rfl) i boot_all (ai (dC (own:=[("sign",2)]) C9 (BF (pv 0)) (bE 2 C9) cR (i7 La (pv 2) (pv 1) rfl)))))|?_];refine%[z,rfl|Mm (K:=K) (S:=λF v (b:Bool)=>v=V.bl b) (λc=>decide (c∈tl d)) o s (λB B B B B q=>q) ?_ ?_]
 .intro c j t x g A u;exact%[c,d,rfl,rfl|u _ _ j (ag.refl g.sub) rfl]
 .rintro j t D g ⟨a,m,e,q,p,n⟩;cases e;rw[lH p]at q;refine%[af.of (g.sub _ _ q)|?_];rw[nX];exact k _ _ g
theorem jc{m x:Str}:decide (V.str x=V.str m)=decide (tl x=tl m):=by grind [TL.nA]
def vc:tl ("":Str)=[]:=by decide+kernel
def C_:tl ("or":Str)=cu "or":=by decide+kernel
theorem yL(z:Str):(z.length:Int)=((tl z).length:Int):=by rw[TL.gU]
abbrev C':Stmt:=top 56
inductive Dc(b:List V)(H:Hp)(Q:VK)(E:XK):Prop
 |mk(z:Str)(F:Hp)(d:b=[.str z])(d:aD F H)(d:z.cps.size<=1000000)(d:∀c a,ag F H c a->Q (.bl (cy (tl z))) a)
def Wi:aV ["word"] ["word"] (aM C'):=aX
def Dd(z:Str):z.cps.size=(tl z).length:=by simp[tl]
def Wj(t:aH K "is_name" "is_name" C' f y)(G:vb r)(l:r "len"=aq)(b:aW P w K r h "holds_only" 1 ["word","signs"] C8):aJ P w K r h aR 2 f y ["word"] Dc:=by?
 refine t.go Wi ?_;rintro B B B B H B Q B u ⟨z,F,rfl,o,p,k⟩;refine%[_,aw (bW (PW.pt (kh (bY dY (pv 0) cK (b_ _)) (kh (bY dY (pv 0) cK (b_ _)) (m_ (bY oH (cg Ka (by rfl) l du (ai (pv 0))) (bC G.name) (b_ _)))))) (au (aF m8)) bZ)
  (au (aF (Jm (i7 La (aQ J8 (pv 0) aL (λB B=>rfl)) (bC G.CV) rfl) (xy (aI b u (ay (pv 0) (ai (bJ xJ (bC G.CV) (bC G.digits)))))))))|?_]
 have d:cy (tl z)=false->Q (.bl false) H:=λe=>by
  have:=k F H (ag.refl o)
  cbv
 have i:z.length<=bf:=gC (eW p);refine%[rfl|⟨?_⟩];rw[jc,vc];by_cases m:tl z=[]
 .rw[bT m];refine a_ (a_ (d ?_));rw[m];rfl
 rw[bK m];refine bt %[rfl|⟨?_⟩];rw[jc,C_];obtain⟨c,a,j⟩:X2 λc a=>tl z=c::a:=by
  cases e:tl z with
  |nil=>exact aT e m
  |cons c a=>exact%[c,a|rfl]
 have un:cy (tl z)=(j7 c&&(decide ((tl z).length<=8)&&(tl z !=cu "or"&&a.all λx=>j7 x||gP x))):=by rw[j];rfl
 by_cases n:tl z=cu "or"
 .rw[bT n];refine a_ (a_ (d ?_))
  cbv
 rw[bK n];refine bt %[z,rfl,i|⟨⟨?_⟩⟩];by_cases q:(8:Int)<(z.length:Int)
 .rw[bT q];refine a_ (d ?_)
  grind [yL]
 rw[bK q];refine bt %[z,_,c,rfl,rfl,i,(show lx (tl z) 0=some c by grind [bg]),c,_,rfl,rfl|⟨?_⟩];have v:decide ((tl z).length<=8)=true:=by grind [yL]
 have A:(tl z !=cu "or")=true:=by simp[n]
 have el:decide (c∈("abcdefghijklmnopqrstuvwxyz":Str).cps.toList)=j7 c:=by simp[Wc,CY]
 rw[el];cases s:j7 c with
 |false=>
  cbv
 |true=>
  refine a_ %[_,_,rfl,rfl,(by decide+kernel),z,_,F,rfl,o,p|λB C g=>?_];rw[un,s,v,A]at k;simp only[We,Wf];rw[j,o7,s];exact k _ _ g
theorem Mo:∀(w:List Nat) (n:Nat),1<=n->1<=w.foldl (λn c=>10*n+(c-48)) n
 |[],n,h=>h
 |c::r,n,h=>Mo r (10*n+(c-48)) (by lia)
theorem fold_lt:∀(w:List Nat) (n k:Nat),n<10^k->(∀c∈w,c<=57)->w.foldl (λn c=>10*n+(c-48)) n<10^(k+w.length)
 |[],n,k,h,_=>h
 |c::r,n,k,h,a=>by
  have b:=a c (bQ ..);have e:=fold_lt r (10*n+(c-48)) (k+1) (by omega) λd hd=>a d (bG _ hd)
  simp_all+arith
def Mp(c:Nat)(r:List Nat):(dP (c::r)).isSome=(!decide (c=48)&&(decide ((c::r).length<=4)&&(c::r).all gP)):=by?
 unfold dP Iu;by_cases f:4<(c::r).length
 .grind
 by_cases hd:(c::r).all gP=false
 .simp[*]
 have a:(c::r).all gP=true:=by simpa using hd
 by_cases b:c=48
 .subst b;by_cases g:1<(48::r).length
  .simp_all
  .have d:r=[]:=by cbv
   subst d;rfl
 .rw[aE (by cbv)]
  have e:48<=c:=by have:=nY.mp a c (bQ ..);unfold gP at this;simp at this;simp[*]
  have h:oh (c::r)≠0:=by
   unfold oh
   grind [Mo]
  cbv
def De{n:Nat}{κ:List Nat}(h:dP κ=some n):1<=n/\n<=9999/\n=oh κ:=by?
 unfold dP Iu at h;split at h
 .cases h
 .rename_i b;rw[Option.bind_some]at h;split at h
  .cases h
  .have e:=cE h;simp only[not_or]at b;have hd:κ.all gP=true:=by simpa using b.2.2.1
   have lt:=fold_lt κ 0 0 (by decide) λc d=>by have:=nY.mp hd c d;unfold gP at this;simp at this;simp[*]
   have f:(10)^(0+κ.length)<=10^4:=gj (by decide) (by cbv);have g:oh κ=κ.foldl (λa c=>10*a+(c-48)) 0:=rfl
   lia
def Wk(c:Nat):tl (⟨#[c]⟩:Str)=[c]:=rfl
def Wl:tl ("0":Str)=[48]:=by decide+kernel
abbrev Df:Stmt:=top 57
inductive Mq(b:List V)(H:Hp)(Q:VK)(E:XK):Prop
 |mk(z:Str)(F:Hp)(d:b=[.str z])(d:aD F H)(d:z.cps.size<=1000000)(d:∀c a,ag F H c a->Q (.bl (dP (tl z)).isSome) a)
def Wm:aV ["word"] ["word"] (aM Df):=aX
def Wn(s:aH K "is_kilos" "is_kilos" Df f y)(G:vb r)(l:r "len"=aq)(b:aW P w K r h "holds_only" 1 ["word","signs"] C8):aJ P w K r h aR 2 f y ["word"] Mq:=by?
 refine s.go Wm ?_;rintro u u u u H u Q u t ⟨z,F,rfl,p,q,k⟩;refine%[_,aw (bW (PW.pt (kh (bY dY (pv 0) cK (b_ _)) (kh (bY dY (aQ J8 (pv 0) aL (λu u=>rfl)) cK (b_ _)) (m_ (bY oH (cg Ka (by rfl) l du (ai (pv 0))) (bC G.kilos) (b_ _)))))) (au (aF m8)) bZ)
  (au (aF (aI b t (ay (pv 0) (ai (bC G.digits))))))|?_]
 have d:(dP (tl z)).isSome=false->Q (.bl false) H:=λe=>by have:=k F H (ag.refl p);rw[e]at this;exact this
 have i:z.length<=bf:=gC (eW q);refine%[rfl|⟨?_⟩];rw[jc,vc];by_cases m:tl z=[]
 .rw[bT m];refine a_ (a_ (d ?_));rw[m];rfl
 rw[bK m];obtain⟨c,a,j⟩:X2 λc a=>tl z=c::a:=by
  cases e:tl z with
  |nil=>exact aT e m
  |cons c a=>exact%[c,a|rfl]
 have un:=Mp c a;rw[<-j]at un;refine bt %[z,_,c,rfl,rfl,i,(show lx (tl z) 0=some c by rw[j];exact bg (j:=0) rfl),rfl|⟨?_⟩];rw[jc,Wk,Wl];by_cases n:c=48
 .rw[bT (show[c]=[48]by rw[n])];refine a_ (a_ (d ?_));rw[un,bT n];rfl
 rw[bK (show ¬[c]=[48]by simpa using n)];refine bt %[z,rfl,i|⟨⟨?_⟩⟩];by_cases o:(4:Int)<(z.length:Int)
 .rw[bT o];refine a_ (d ?_)
  grind [yL]
 rw[bK o];refine bt %[z,_,F,rfl,p,q|λu v g=>?_];rw[un,bK n]at k;rw[yL]at o;rw[bT (by lia)]at k;simp only[Wd,CZ]at*;exact k _ _ g
abbrev Dg:Stmt:=top 58
def gz(a b:List Nat):Bool:=if b=cu "KG" then(dP a).isSome else if b=cu "LOT"\/b=cu "PLACE" then cy a else decide (a=b)
inductive Mr(b:List V)(H:Hp)(Q:VK)(E:XK):Prop
 |mk(z y:Str)(F:Hp)(d:b=[.str z,.str y])(d:aD F H)(d:z.cps.size<=1000000)(d:∀c a,ag F H c a->Q (.bl (gz (tl z) (tl y))) a)
def Wo:aV ["word","wanted"] ["word","wanted"] (aM Dg):=aX
def Wq:tl ("KG":Str)=cu "KG":=by decide+kernel
def Ms:tl ("LOT":Str)=cu "LOT":=by decide+kernel
def Mt:tl ("PLACE":Str)=cu "PLACE":=by decide+kernel
def Wr(q:aH K "fits" "fits" Dg f y)(b:aW P w K r h "is_kilos" 2 ["word"] Mq)(c:aW P w K r h "is_name" 2 ["word"] Dc):aJ P w K r h aR 3 f y ["word","wanted"] Mr:=by?
 refine q.go Wo ?_;rintro e e e e H e Q e o ⟨z,a,F,rfl,d,j,k⟩;refine%[_,aw (bW (bY dY (pv 1) cK (b_ _)) (au (aF (aI b o (ai (pv 0))))) bZ)
  (aw (bW (PW.pt (kh (bY dY (pv 1) cK (b_ _)) (m_ (bY dY (pv 1) cK (b_ _))))) (au (aF (aI c o (ai (pv 0))))) bZ)
  (au (aF (i7 dY (pv 0) (pv 1) (b_ _)))))|?_]
 refine%[rfl|⟨?_⟩];rw[jc,Wq];by_cases p:tl a=cu "KG"
 .rw[bT p];refine a_ %[z,F,rfl,d,j|λl i g=>?_]
  grind [gz]
 rw[bK p];refine bt %[rfl|⟨?_⟩];rw[jc,Ms];have nm:tl a=cu "LOT"\/tl a=cu "PLACE"->∀l i,ag F H l i->Q (.bl (cy (tl z))) i:=λe l i g=>by grind [gz]
 by_cases m:tl a=cu "LOT"
 .rw[bT m];exact a_ (a_ %[z,F,rfl,d,j|nm (.inl m)])
 rw[bK m];refine bt %[rfl|⟨?_⟩];rw[jc,Mt];by_cases n:tl a=cu "PLACE"
 .rw[bT n];exact a_ %[z,F,rfl,d,j|nm (.inr n)]
 rw[bK n];refine bt %[rfl|?_];have:=k _ _ (ag.refl d)
 grind [gz,jc]
end
inductive Ws(K:ah)(x y:V)(H:Hp)(Q:VK):Prop
 |mk p xs q(a:x=.ref p)(a:y=.ref q)(a:af K H p xs)(a:af K H q [])(a:Q (.bl xs.isEmpty) H)
inductive Wt(K:ah)(x y:V)(H:Hp)(Q:VK):Prop
 |mk p xs q(a:x=.ref p)(a:y=.ref q)(a:af K H p xs)(a:af K H q [])(a:Q (.bl (!xs.isEmpty)) H)
section
variable{A:Around}{D a f l z:ae}{E Q:Value->aj->Prop}{K:ah}{P prog:aC}{X:Cx}{d j n:Nat}{p:Pos}{s:aj}{w:World}{Μ:List ae}{Ρ:Array Value}{η:Value}{ξ:List Expr}
def yM{l:ae}{its:Array Value}(h:PlainL s.heap l its):∃n dd sl,s.heap.get? l=some {cls:=.type "list",dict:=dd,data:=.seq its n,slots:=sl}:=by
 obtain⟨⟨cls,dd,data,sl⟩,n,e,c,hd,hs⟩:=h
 grind
def Wu{l b:ae}{its:List Value}{Q:Value->aj->Prop}(hl:PlainL s.heap l its.toArray)(hb:PlainL s.heap b ([]:List Value).toArray)(hu:A.units<cLine)(h:Q (.bool its.isEmpty) s):
  wpAny (model prog w) A (gE .Eq (.ref l) (.ref b)) Q E s:=by?
 obtain⟨n,dd,sl,ho⟩:=yM hl;obtain⟨n2,dd2,sl2,ho2⟩:=yM hb;cases its with
 |nil=>
  refine Ja (op:=.Eq) ⟨_,ho,rfl⟩ ⟨_,ho2,rfl⟩ ad0 ad1 (ad2 _ _) (SeqAt.list_eqAt l b _ _ n n2 dd dd2 sl sl2 rfl (λc=>true)) ⟨ho,ho2,λj h1 c=>aT h1 (by simp),?_⟩ hu;trivial
 |cons a r=>
  refine Ja (op:=.Eq) ⟨_,ho,rfl⟩ ⟨_,ho2,rfl⟩ ad0 ad1 (ad2 _ _) (SeqAt.list_eq_lengthsAt l b _ _ n n2 dd dd2 sl sl2 (by simp)) ⟨ho,ho2,?_⟩ hu;trivial
def Wv{l b:ae}{its:List Value}{Q:Value->aj->Prop}(hl:PlainL s.heap l its.toArray)(hb:PlainL s.heap b ([]:List Value).toArray)(hu:A.units<cLine)(h:Q (.bool (!its.isEmpty)) s):
  wpAny (model prog w) A (gE .NotEq (.ref l) (.ref b)) Q E s:=by?
 obtain⟨n,dd,sl,ho⟩:=yM hl;obtain⟨n2,dd2,sl2,ho2⟩:=yM hb;cases its with
 |nil=>
  refine Ja (op:=.NotEq) ⟨_,ho,rfl⟩ ⟨_,ho2,rfl⟩ ad3 ad4 (ad5 _ _) (SeqAt.list_neAt l b _ _ n n2 dd dd2 sl sl2 rfl (λc=>true)) ⟨ho,ho2,λj h1 c=>aT h1 (by simp),?_⟩ hu;trivial
 |cons a r=>
  refine Ja (op:=.NotEq) ⟨_,ho,rfl⟩ ⟨_,ho2,rfl⟩ ad3 ad4 (ad5 _ _) (SeqAt.list_ne_lengthsAt l b _ _ n n2 dd dd2 sl sl2 (by simp)) ⟨ho,ho2,?_⟩ hu;trivial
def vd(e:X.A.units<cLine):dE X (gE .Eq) (Ws X.K):=by intro d s σ H x y v u Q I f g h;obtain⟨p,n,q,rfl,rfl,i,j,k⟩:=h;cases f;cases g;obtain⟨l,m,pl,o⟩:=I.list i;obtain⟨c,a,b,o⟩:=I.list j;cases a;refine Wu pl b e %[.bl n.isEmpty,H,I,?_|k];cases m<;>rfl
def Ww(e:X.A.units<cLine):dE X (gE .NotEq) (Wt X.K):=by intro d s σ H x y v u Q I f g h;obtain⟨p,n,q,rfl,rfl,i,j,k⟩:=h;cases f;cases g;obtain⟨l,m,pl,o⟩:=I.list i;obtain⟨c,a,b,o⟩:=I.list j;cases a;refine Wv pl b e %[.bl _,H,I,?_|k];cases m<;>rfl
structure Apart(z f c a b:ae)(d e:List ae):Prop where
 zi:f≠z
 zo:c≠z
 io:f≠c
 za:z∉d
 zb:z∉e
 oa:c∉d
 ob:c∉e
 ia:f∉d
 ib:f∉e
 ab:a∉e
 ba:b∉d
 ma:a∈d
 mb:b∈e
def dU(h:a∉Μ)(m:f∈Μ):f≠a:=λe=>h (e▸m)
def Dh{v x:Value}{Q:Unit->aj->Prop}(c:d_ s.heap a η v)
  (b:∀g,g.get? a=some {cls:=.type "tuple",data:=.seq ((#[η,v]:Array Value).setIfInBounds n x)}->gD a s.heap g->Q () {s with heap:=g}):
  wpAny (model P w) A (updateSeq a (·.setIfInBounds n x)) Q E s:=wpAny_updateSeq_pair c b
def Wx{fb:List ae}{Pa Pb:Nat->Value->Prop}{N O:Nat->ax->Prop}{v:Value}
  (Da:Draws P w A a Μ n Pa N)(Db:Draws P w A l fb j Pb O)(i:Apart z f D a l Μ fb)
  (R:IsZip s.heap z f D .none)(ei:d_ s.heap f (.ref a) (.ref l))(eo:d_ s.heap D η v)(sa:N d s.heap)(sb:O d s.heap)(la:d<n)(lb:d<j)
  (S:∀x y g tk,Pa d x->Pb d y->IsZip g z f D (rawInt ↥s)->d_ g D x y->N (d+1) g->O (d+1) g->d_ g ↥s x y->g.objs.size=↥s+1->
   (∀c o,c≠z->c≠D->c≠a->c≠l->s.heap.get? c=some o->g.get? c=some o)->Q (.ref ↥s) {s with heap:=g,toks:=tk}):
  wpAny (model P w) A (Builtin.«zip.__next__» %[[.ref z]|[]]) (λa8 t=>∃r,a8=.done (.ret r)/\Q r t) E s:=by?
 obtain⟨h0,gn,dr,a9,os⟩:=s;have az:a≠z:=dU i.za i.ma;have bz:l≠z:=dU i.zb i.mb;have ao:a≠D:=dU i.oa i.ma;have bo:l≠D:=dU i.ob i.mb;have ba:a≠l:=dU i.ba i.ma;show wpAny _ _ (field (.ref z) 2>>=_) _ _ _;refine aA (md R rfl (x:=.bool false) rfl ?_);show wpAny _ _ (field (.ref z) 3>>=_) _ _ _;refine aA (md R rfl (x:=.ref f) rfl (aA (oB ei rfl ?_)));show wpAny _ _ (QG (.ref z)>>=_) _ _ _;refine aA (show wpAny _ _ (QG (.ref z)) _ _ _ from ?_);unfold QG;refine aA (md R rfl (x:=.none) rfl (bh ?_));rw[aS rfl];refine aA (wpAny_rule (aA (md R rfl (x:=.ref D) rfl (aA (xq R (by simp) λg1 F G=>aA ?_)))));have G:gD z h0 g1:=G;have F:IsZip g1 z f D .ellipsis:=F;have aa:N d g1:=Da.frame _ _ _ sa λc m o e=>G.extBut _ _ (dU i.za m) e
 refine aA (aA (wpAny_onRaise (show wpAny _ _ (Iv (.ref a)>>=_) _ _ _ from aA (Da.item d _ _ _ la aa λx g2 bb px ar H=>bh ?_))));have H:gD a g1 g2:=H;have T:d_ g2 D η v:=H.extBut _ _ ao.symm (G.extBut _ _ i.zo eo);refine aA (oB T rfl (aA (Dh T λg3 I J=>aA (wpAny_letGo (bh ?_)))));have J:gD D g2 g3:=J;have I:d_ g3 D x v:=I;have av:O d g3:=Db.frame _ _ _ sb λc m o e=>J.extBut _ _ (dU i.ob m) (H.extBut _ _ (dU i.ab m) (G.extBut _ _ (dU i.zb m) e));refine aA (aA (wpAny_onRaise (show wpAny _ _ (Iv (.ref l)>>=_) _ _ _ from aA (Db.item d _ _ _ lb av λy g4 br py a0 K=>bh ?_))));have K:gD l g3 g4:=K;have U:d_ g4 D x v:=K.extBut _ _ bo.symm I;refine aA (oB U rfl (aA (Dh U λp q L=>aA (wpAny_letGo (bh (bh ?_))))));have L:gD D g4 p:=L;have q:d_ p D x y:=q;refine aA (oB q rfl (aA (wpAny_newTuple ?_)));have sz:p.objs.size=h0.objs.size:=by rw[L.1,K.1,J.1,H.1,G.1]
 have V:IsZip p z f D .ellipsis:=L.extBut _ _ i.zo.symm (K.extBut _ _ bz.symm (J.extBut _ _ i.zo.symm (H.extBut _ _ az.symm F)));have W:∀c o,c≠z->c≠D->c≠a->c≠l->h0.get? c=some o->p.get? c=some o:=λc o Z n2 n3 n4 e=>
  L.extBut _ _ n2 (K.extBut _ _ n4 (J.extBut _ _ n2 (H.extBut _ _ n3 (G.extBut _ _ Z e))))
 have a3:N (d+1) p:=Da.frame _ _ _ ar λc m o e=>L.extBut _ _ (dU i.oa m) (K.extBut _ _ (dU i.ba m) (J.extBut _ _ (dU i.oa m) e));have a4:O (d+1) p:=Db.frame _ _ _ a0 λc m o e=>L.extBut _ _ (dU i.ob m) e;have X:z<p.objs.size:=bU V;refine aA (?_);unfold Builtin.SmallTypes.ownedTupleHandOut;have a5:IsZip (p.push {cls:=.type "tuple",data:=.seq #[x,y]}) z f D .ellipsis:=bL _ V;refine aA (xq a5 (by simp) λg7 a6 c7=>xq (show IsZip g7 z f D (rawInt p.objs.size)from a6) (by simp) λM a7 c8=>?_);have up:∀c o,c≠z->p.get? c=some o->M.get? c=some o:=λc o h e=>c8.extBut _ _ h (c7.extBut _ _ h (bL _ e));have B:d_ M p.objs.size x y:=c8.extBut _ _ (j5 X) (c7.extBut _ _ (j5 X) (cV _ rfl));have Y:M.objs.size=p.objs.size+1:=by have e8:M.objs.size=g7.objs.size:=c8.1;have e7:=c7.1;rw[e8,e7,eG]
 have C:IsZip M z f D (rawInt p.objs.size):=a7;rw[sz]at C B Y;refine bh %[_,rfl|?_];show Q (.ref p.objs.size) _;rw[sz];exact S x y M _ px py C (up _ _ i.zo q) (Da.frame _ _ _ a3 λc m o e=>up c o (dU i.za m) e) (Db.frame _ _ _ a4 λc m o e=>up c o (dU i.zb m) e) B Y λc o Z n2 n3 n4 e=>up c o Z (W c o Z n2 n3 n4 e)
def Wy{X:List ae}{Pa Pb:Nat->Value->Prop}{M N:Nat->ax->Prop}{v:Value}{Q:Fin->aj->Prop}
  (V:Draws P w A a Μ n Pa M)(Db:Draws P w A l X j Pb N)(h:Apart z f D a l Μ X)
  (C:IsZip s.heap z f D .none)(ei:d_ s.heap f (.ref a) (.ref l))(eo:d_ s.heap D η v)(sa:M d s.heap)(sb:N d s.heap)(lk:d=n\/(d<n/\d=j))
  (stop:∀g e tk,(∀c o,c≠z->c≠D->c≠a->c≠l->s.heap.get? c=some o->g.get? c=some o)->(∃o,g.get? e=some o/\o.cls=.type "StopIteration")->E (.ref e) {s with heap:=g,toks:=tk}):
  wpAny (model P w) A (Builtin.«zip.__next__» %[[.ref z]|[]]) Q E s:=by?
 obtain⟨h0,gn,dr,aa,os⟩:=s;have Y:a≠z:=dU h.za h.ma;have bz:l≠z:=dU h.zb h.mb;have ao:a≠D:=dU h.oa h.ma;show wpAny _ _ (field (.ref z) 2>>=_) _ _ _;refine aA (md C rfl (x:=.bool false) rfl ?_);refine aA (md C rfl (x:=.ref f) rfl (aA (oB ei rfl ?_)));refine aA (?_);refine aA (md C rfl (x:=.none) rfl (bh ?_));rw[aS rfl];refine aA (wpAny_rule (aA (md C rfl (x:=.ref D) rfl (aA (xq C (by simp) λK i r=>aA ?_)))));have r:gD z h0 K:=r;have i:IsZip K z f D .ellipsis:=i;have F:M d K:=V.frame _ _ _ sa λc G o e=>r.extBut _ _ (dU h.za G) e
 rcases lk with rfl|⟨la,rfl⟩
 .refine aA (aA (wpAny_onRaise (aA (V.done _ _ _ F λJ e m W=>?_))));obtain⟨O,t,y⟩:=W;have R:IsZip J z f D .ellipsis:=m _ _ Y.symm i;have B:e≠z:=λq=>by grind
  exact xq R (by simp) λL b p=>stop L e _ (λc o H b S b q=>p.extBut _ _ H (m _ _ S (r.extBut _ _ H q))) %[O,p.extBut _ _ B t|y]
 .refine aA (aA (wpAny_onRaise (aA (V.item d _ _ _ la F λx J ar px av m=>bh ?_))));have m:gD a K J:=m;have I:d_ J D η v:=m.extBut _ _ ao.symm (r.extBut _ _ h.zo eo);refine aA (oB I rfl (aA (Dh I λL a0 p=>aA (wpAny_letGo (bh ?_)))));have p:gD D J L:=p;have T:N d L:=Db.frame _ _ _ sb λc G o e=>p.extBut _ _ (dU h.ob G) (m.extBut _ _ (dU h.ab G) (r.extBut _ _ (dU h.zb G) e));refine aA (aA (wpAny_onRaise (aA (Db.done _ _ _ T λg4 e Z W=>?_))));obtain⟨O,t,y⟩:=W;have U:IsZip g4 z f D .ellipsis:=Z _ _ bz.symm (p.extBut _ _ h.zo.symm (m.extBut _ _ Y.symm i));have B:e≠z:=λq=>by grind
  exact xq U (by simp) λg5 b c5=>stop g5 e _ (λc o H n2 S n4 q=>c5.extBut _ _ H (Z _ _ n4 (p.extBut _ _ n2 (m.extBut _ _ S (r.extBut _ _ H q))))) %[O,c5.extBut _ _ B t|y]
def Mu{m:List ae}{p q:Nat->Value->Prop}{h i:Nat->ax->Prop}{v:Value}{Q:Option Value->aj->Prop}
  (T:Draws P w A.in1 a Μ n p h)(U:Draws P w A.in1 l m j q i)(S:Apart z f D a l Μ m)
  (r:IsZip s.heap z f D .none)(t:d_ s.heap f (.ref a) (.ref l))(B:d_ s.heap D η v)(sa:h d s.heap)(C:i d s.heap)(la:d<n)(G:d<j)
  (e:∀x y g tk,p d x->q d y->IsZip g z f D (rawInt ↥s)->d_ g D x y->h (d+1) g->i (d+1) g->d_ g ↥s x y->g.objs.size=↥s+1->
   (∀c o,c≠z->c≠D->c≠a->c≠l->s.heap.get? c=some o->g.get? c=some o)->Q (some (.ref ↥s)) {s with heap:=g,toks:=tk}):
  wpAny (model P w) A (pyNext (.ref z)) Q E s:=by?
 have ty:s.TypeIs (.ref z) _:=%[_,r|rfl];refine aA (wpAny_attempt (wpAny_callSpecial?_slot ty Iw (pJ Iw ty F.entry_zip_next ?_ (F.args_zip_next_1 _))));exact Wx T U S r t B sa C la G λx y g tk H I J K L M N O R=>bh (e x y g tk H I J K L M N O R)
def Mw{i:List ae}{r t:Nat->Value->Prop}{m p:Nat->ax->Prop}{v:Value}{Q:Option Value->aj->Prop}
  (I:Draws P w A.in1 a Μ n r m)(K:Draws P w A.in1 l i j t p)(H:Apart z f D a l Μ i)
  (q:IsZip s.heap z f D .none)(x:d_ s.heap f (.ref a) (.ref l))(y:d_ s.heap D η v)(sa:m d s.heap)(B:p d s.heap)(lk:d=n\/(d<n/\d=j))
  (h:∀g tk,(∀c o,c≠z->c≠D->c≠a->c≠l->s.heap.get? c=some o->g.get? c=some o)->Q none {s with heap:=g,toks:=tk}):
  wpAny (model P w) A (pyNext (.ref z)) Q E s:=by?
 have ty:s.TypeIs (.ref z) _:=%[_,q|rfl];refine aA (wpAny_attempt (wpAny_callSpecial?_slot ty Iw (pJ Iw ty F.entry_zip_next ?_ (F.args_zip_next_1 _))));refine Wy I K H q x y sa B lk λg e tk kp J=>?_;obtain⟨o,C,G⟩:=J;exact aA (wpAny_isInstance %[o,C|G] isSubtype_stop (bh (h _ _ kp)))
def Wz{x:Value}(d:s.heap.IsTupleIter a f n)(j:s.heap.IsTuple f Ρ)(k:Ρ[n]?=some x)
  (b:∀g,g.IsTupleIter a f (n+1)->gD a s.heap g->Q x {s with heap:=g}):wpAny (model P w) A (Iv (.ref a)) Q E s:=by?
 obtain⟨o,c,l,hd⟩:=id d;obtain⟨m,e,i,nt,h⟩:=j;refine aA (wpAny_callSpecial?_slot d.typeIs Iy (pJ Iy d.typeIs ad7 (show wpAny _ _ (field _ 0>>=_) _ _ s from ?_) (ad8 _)));refine aA (md c hd rfl (?_));have nn:¬((iO f==Ad)=true):=λq=>dJ q
 refine aA (md c hd rfl (aA (oB e h ?_)));simp only[gk,k];refine aA (AN c hd (by simp) (bh %[x,rfl|bh (b _ %[_,tT _ c (QH (rk hd _)),(QI ..).trans l|?_] (kU ..))]));rw[rk hd];simp[rawInt]
def WB(j:A.handled=none)(b:s.heap.IsTupleIter a f n)(k:s.heap.IsTuple f Ρ)(l:Ρ[n]?=none)
  (stop:∀g e,Heap.ExtBut a s.heap g->(∃o,g.get? e=some o/\o.cls=.type "StopIteration")->E (.ref e) {s with heap:=g}):wpAny (model P w) A (Iv (.ref a)) Q E s:=by?
 obtain⟨o,c,p,hd⟩:=id b;obtain⟨r,d,i,nt,h⟩:=k;refine aA (wpAny_callSpecial?_slot b.typeIs Iy (pJ Iy b.typeIs ad7 (show wpAny _ _ (field (.ref a) 0>>=_) _ _ s from ?_) (ad8 _)));refine aA (md c hd (x:=.ref f) rfl (?_));have nn:¬((iO f==Ad)=true):=λq=>dJ q
 rw[aE nn];refine aA (md c hd (x:=.int n 0) rfl (aA (oB d h ?_)));simp only[gk,l];exact aA (wpAny_rule (aA (AN c hd (by simp) (L_ j λi i e m=>stop _ e (((kU ..).extBut.push _).push _) m))))
def yN(j:A.handled=none)(c t:ae)(ne:t≠c)(a:Array Value):
  Draws P w A c [c,t] a.size (λi v=>a[i]?=some v) (λi h=>h.IsTupleIter c t i/\h.IsTuple t a) where
 live:=λm m st=>let%[o,b|_]:=st.1;%[o|b]
 frame:=λm m m st d=>%[let%[o,b|r]:=st.1;%[o,d c (by simp) o b|r]|let%[o,b|r]:=st.2;%[o,d t (by simp) o b|r]]
 item:=λi s Q E e st k=>Wz st.1 st.2 (x:=a[i]) (by simp[e]) λg l f=>k _ g s.toks (by simp[e]) %[l|st.2.extBut f.extBut ne] f
 done:=λs Q E st k=>WB j st.1 st.2 (by simp) k
def ve(K:ah)(a b:ae):It:=
 %[λi H=>X4 λ(c d:List V) (x y:V)=>A4 (af K H a c) (bN K H b d) (c[i]?=some x) (d[i]?=some y),
  λi H v e=>X3 λT x y=>A5 (v=.ref T) (H T=none) (e=upd H T (.tup [x,y])) (∀c,af K H a c->c[i]?=some x) (∀d,bN K H b d->d[i]?=some y)|
  λi H=>X2 λ(c d:List V)=>A3 (af K H a c) (bN K H b d) (i=c.length\/(i<c.length/\i=d.length))]
def sL{g:ae}(h:a∈[z,f,D,l,g]):a=z\/a=f\/a=D\/a=l\/a=g:=by simpa using h
def WC{L ε:ae}(m:Apart z D l L ε [L,a] [ε,f]):
  Turn P w K (.Tuple ξ n p) (ve K a f) [z,D,l,L,ε] z (λi h=>IsZip h z D l .none/\d_ h D (.ref L) (.ref ε)/\(X2 λx y=>d_ h l x y)/\h.IsListIter L a i/\h.IsTupleIter ε f i) where
 mem:=by simp
 obj:=λi h st c W=>by
  obtain⟨R,J,⟨x,y,S⟩,⟨o1,M,b,d1⟩,⟨o2,N,b,d2⟩⟩:=st;rcases sL W with r|r|r|r|r<;>rw[r]
  all_goals cbv
 keep:=λi h h' st k=>by obtain⟨R,J,⟨x,y,S⟩,O,⟨o2,N,r2⟩⟩:=st;exact%[k z (by simp) _ R,k D (by simp) _ J,%[x,y|k l (by simp) _ S],O.at λo d=>k L (by simp) o d|%[o2,k ε (by simp) o2 N|r2]]
 item:=by?
  intro X hP hw hK W i aa s σ H E I hf st hg;subst hP hw hK;obtain⟨R,J,⟨x0,y0,S⟩,O,U⟩:=st;obtain⟨xs,ys,x,y,B,C,hx,hy⟩:=hg;obtain⟨F,rv,pl,b⟩:=I.list B;obtain⟨t,T,pt,b⟩:=I.tuple C;obtain⟨u,hu,ru⟩:=rv.get hx;obtain⟨u2,ao,ar⟩:=T.get hy;have Y:X.A.in1.handled=none:=I.ok.hd W;have zl:z<↥s:=bU R;have na:a≠L:=λe=>by
   obtain⟨o,M,c1,d1⟩:=O;obtain⟨o',n',N,c2,b⟩:=pl
   grind
  have nb:f≠ε:=λe=>by
   obtain⟨o,M,c1,d1⟩:=U;obtain⟨o',N,c2,b⟩:=(show s.heap.IsTuple f t.toArray from pt)
   grind
  have li:i<F.toArray.size:=by exact(fP.mp (by assumption)).1
  have av:i<t.toArray.size:=by exact(fP.mp (by assumption)).1
  refine Mu (wV Y L a na F.toArray) (yN Y ε f nb t.toArray) m R J S %[O|pl.isList] %[U|pt] li av λvx vy g tk px py z1 o1 sa sb nT sz G=>?_;have ex:vx=u:=cE (px.symm.trans (by simpa using hu));have ey:vy=u2:=cE (py.symm.trans (by simpa using ao));subst ex ey;refine%[_,rfl|wpAny_letOwnedTupleGo_zip (s:={s with heap:=g,toks:=tk}) z1 λg2 z2 V=>?_];have az:=(V.2 _ (j5 zl)).trans nT;have new:eB X.prog X.w (upd H ↥s (.tup [x,y])) g2 ↥s (.tup [x,y]):=
   %[by show 2<=bf;decide,[vx,vy],.cons ru (.cons ar .nil)|%[_,az,rfl,_|rfl]]
  have I1:=
   I.uH (t':=tk) (ch:=[z,D,l,L,ε]) (λc o v d=>(V.2 c (λe=>v (by simp[e]))).trans (G c o (λe=>v (by simp[e])) (λe=>v (by simp[e])) (λe=>v (by simp[e])) (λe=>v (by simp[e])) d)) hf (bx _) new
  have pz:L≠z:=dU m.za m.ma;have qz:ε≠z:=dU m.zb m.mb;refine%[.ref ↥s,_,I1,rfl,%[_,x,y,rfl,I.aU.fresh (bx _),rfl,λj hl=>by rw[I.pP hl B];exact hx|λj hl=>by rw[I.Jp hl C];exact hy],%[z2,?_,%[vx,vy|?_],?_|?_]|λc Z=>?_]
  .exact(V.2 _ m.zi).trans (G _ _ m.zi m.io (dU m.ia m.ma).symm (dU m.ib m.mb).symm J)
  .exact(V.2 _ m.zo).trans o1
  .exact sa.1.at λo d=>(V.2 _ pz).trans d
  .obtain⟨o,M,r1⟩:=sb.1;exact%[o,(V.2 _ qz).trans M|r1]
  .have lt:c<↥s:=by
    rcases sL Z with r|r|r|r|r<;>rw[r]
    .exact zl
    .exact bU J
    .exact bU S
    .obtain⟨b,M,b⟩:=O;exact bU M
    .obtain⟨b,N,b⟩:=U;exact bU N
   rw[aB (dn lt)];exact(hf c Z).1
 done:=by
  intro X hP hw hK W i aa s σ H E I hf st hg;subst hP hw hK;obtain⟨R,J,⟨x0,y0,S⟩,O,U⟩:=st;obtain⟨xs,ys,B,C,a0⟩:=hg;obtain⟨F,rv,pl,b⟩:=I.list B;obtain⟨t,T,pt,b⟩:=I.tuple C;have Y:X.A.in1.handled=none:=I.ok.hd W;have l1:=rv.length;have l2:=T.length;have na:a≠L:=λe=>by
   obtain⟨o,M,c1,d1⟩:=O;obtain⟨o',n',N,c2,b⟩:=pl
   grind
  have nb:f≠ε:=λe=>by
   obtain⟨o,M,c1,d1⟩:=U;obtain⟨o',N,c2,b⟩:=(show s.heap.IsTuple f t.toArray from pt)
   grind
  refine Mw (wV Y L a na F.toArray) (yN Y ε f nb t.toArray) m R J S %[O|pl.isList] %[U|pt] (by cbv) λg tk G=>?_;exact%[rfl|I.BD (t':=tk) (ch:=[z,D,l,L,ε]) (λc o v d=>G c o (λe=>v (by simp[e])) (λe=>v (by simp[e])) (λe=>v (by simp[e])) (λe=>v (by simp[e])) d) hf]
 self:=λA i s Q E st h=>xn st.1 h
abbrev vf(h:ax)(l:ae):ax:=h.push {cls:=.type "list_iterator",data:=.fields #[.ref l,.int 0 0]}
abbrev yO(h:ax)(l m:ae):ax:=(vf h l).push {cls:=.type "tuple_iterator",data:=.fields #[.ref m,.int 0 0]}
abbrev yP(h:ax)(l m:ae):ax:=(yO h l m).push {cls:=.type "tuple",data:=.seq #[.ref h.objs.size,.ref (vf h l).objs.size]}
abbrev yQ(h:ax)(l m:ae):ax:=(yP h l m).push {cls:=.type "tuple",data:=.seq #[.none,.none]}
abbrev sM(h:ax)(l m:ae):ax:=(yQ h l m).push {cls:=.type "zip",data:=.fields #[.none,.bool false,.bool false,.ref (yO h l m).objs.size,.ref (yP h l m).objs.size]}
def WE(l m:ae)(i a:Array Value):Meets (Builtin.«zip.__new__» %[[.type "zip",.ref l,.ref m]|[]]) (λj R s=>s.heap.IsList l i/\s.heap.IsTuple m a/\R (.ok (.ret (.ref (yQ s.heap l m).objs.size))) {s with heap:=sM s.heap l m}):=
 .of_wp λprog w A R s h=>by?
  obtain⟨hp,g,d,tk,os⟩:=s;obtain⟨b,f,h⟩:=h;have sz:=sub_zip;have c:=b;have e:Heap.IsTuple (Shared.heap %[vf hp l,g,d,tk|os]) m a:=Heap.IsTuple.push f _
  wp_walk using xk c,wpAny_pyIter_tuple e
  exact%[_,rfl|h]
def Mx(n l m:Nat)(a:l<n)(b:m<n):Apart (n+4) (n+2) (n+3) n (n+1) [n,l] [n+1,m]:=by constructor<;>simp[ae]<;>lia
def WG{j:Array Value}(r:s.heap.IsList l Ρ)(u:s.heap.IsTuple a j)
  (b:∀g,IsZip g (↥s+4) (↥s+2) (↥s+3) .none->d_ g (↥s+2) (.ref ↥s) (.ref (↥s+1))->
   d_ g (↥s+3) .none .none->g.IsListIter ↥s l 0->g.IsTupleIter (↥s+1) a 0->(∀c o,s.heap.get? c=some o->g.get? c=some o)->Q (.ref (↥s+4)) {s with heap:=g}):
  wpAny (model P w) A (call (.type "zip") [.ref l,.ref a]) Q E s:=by?
 refine callType_new F.called_zip (by decide) (F.typeCall_zip_2 _ _) (F.newCall_zip_2 _ _) (λobj=>ad9 obj _ _) F.entry_zip_new (WE l a Ρ j) %[r,u|?_];have d:(vf s.heap l).objs.size=↥s+1:=eG ..;have f:(yO s.heap l a).objs.size=↥s+2:=by rw[eG,d]
 have h:(yP s.heap l a).objs.size=↥s+3:=by rw[eG,f]
 have k:(yQ s.heap l a).objs.size=↥s+4:=by rw[eG,h]
 have i:(sM s.heap l a).get? (yQ s.heap l a).objs.size=some _:=cV _ rfl;have n:(sM s.heap l a).get? (yP s.heap l a).objs.size=some _:=bL _ (cV _ rfl);have p:(sM s.heap l a).get? (yO s.heap l a).objs.size=some _:=bL _ (bL _ (cV _ rfl));have q:(sM s.heap l a).get? (vf s.heap l).objs.size=some _:=bL _ (bL _ (bL _ (cV _ rfl)));have t:(sM s.heap l a).get? ↥s=some _:=bL _ (bL _ (bL _ (bL _ (cV _ rfl))));show _/\_;rw[f,h,k]at i;rw[d,f]at p;rw[h]at n;rw[d]at q;rw[k];refine%[%[_,i|rfl]|?_];exact b _ i p n %[_,t,rfl|rfl] %[_,q,rfl|rfl] λc o e=>bL _ (bL _ (bL _ (bL _ (bL _ e))))
inductive WH(R:It->Hp->Prop)(K:ah)(d:List V)(c:Hp):Prop
 |mk a b xs e(f:d=[.ref a,.ref b])(f:af K c a xs)(f:bN K c b e)(f:R (ve K a b) c)
def WI(K:ah)(a:TA):TI:=λσ H R=>a σ H λb c=>WH R K b c
def My{M Β:Pos}{b e:Expr}{t:TA}(u:Gl X "zip")(P:X.mg "zip"=aq)(v:PA X [e,b] t)
  (w:bP [e,b] X.env=(false,eval e X.env)::bP [b] X.env:=by rfl)(l:(backTo M (bP [b] X.env)).any (·.1)=false:=by rfl):
  PI X (.Tuple ξ n Β) (.Call (.Name "zip" p) [e,b] [] M) (WI X.K t):=by?
 intro j s σ H R I h;refine Call_ (m9 I u P BJ (tR (aZ (v M j s σ H _ I h) λV f %[Q,O,i,x,a,d,W,S,ex,y,z|k]=>?_) w l));subst ex;obtain⟨T,U,rfl,A,B⟩:=Vals.two x;cases A;cases B;obtain⟨C,Y,pl,Y⟩:=i.list y;obtain⟨D,Y,pt,Y⟩:=i.tuple z;have la:=pl.lt;have E:d<↥f:=by obtain⟨o,e,Y⟩:=(pt);exact bU e
 refine WG pl.isList pt λg q F G J K m=>xn q ?_;have L:=i.kept (t':=f.toks) m;refine%[↥f+4,[↥f+4,↥f+2,↥f+3,↥f,↥f+1],_,_,O,rfl,L,WC (Mx ↥f a d la E),%[q,F,%[_,_|G],J|K],λc N=>?_|k];have le:↥f<=c:=by rcases sL N with r|r|r|r|r<;>rw[r]<;>first|exact bx _|exact wW _ _
 exact i.ni le (i.aU.fresh le)
def Mz{H J:Hp}{N:Type}{Δ:L2.St}{Ε:TT}{Ζ ζ:List V}{ι:TE}{S:Hp->V->N->Prop}{U:ae->Hp->Prop}(out:V->V->Option N)(hj:n≠j)
  (hF:aD J H)(o:af K H a ζ)(p:bN K H f Ζ)(hn:ζ.length<=1000000)(Z:ζ.length=Ζ.length)
  (mono:∀d s v b,aD d s->S d v b->S s v b)
  (step:∀(v w:V) (d c:Hp),v∈ζ->w∈Ζ->ag J H d c->∀(E:VK) (G:Hp->Prop),(∀r q A b,out v w=some b->ag d c A q->S A r b->E r q)->(∀l I,out v w=aq->ag d c I l->G l)->
   Ε (((wipe Δ [n,j]).set n (some v)).set j (some w)) c λb l=>if b=true then ι (((wipe Δ [n,j]).set n (some v)).set j (some w)) l E else G l)
  (done:∀d c D,ag J H d c->dj (S d) K d (.ref D) ((ζ.zip Ζ).filterMap λx=>out x.1 x.2)->U D c):
  ∀D,H D=aq->∃W:Nat->Nat->Hp->Prop,(∃m,W 0 m (upd H D (.lst [])))/\∀i m c,W i m c->
   ((ve K a f).stop i c/\U D c)\/((ve K a f).go i c/\∃L:Hp->Prop,(∀g,L g->∃X,X<m/\W (i+1) X g)/\∀x g,(ve K a f).ic i c x g->oG K 2 (lq (gH n) (lq (gH j) rN)) x (wipe Δ [n,j]) g λM H2=>wipe M [n,j]=wipe Δ [n,j]/\Ε M H2 λb l=>
    if b=true then ι M l λy q=>∃acc,q D=some (.lst acc)/\acc.length<bf/\L (upd q D (.lst (acc++[y])))else L l):=by?
 have z:∀i,i<ζ.length->X2 λ(v w:V)=>A2 (ζ[i]?=some v) (Ζ[i]?=some w):=λi t=>
  %[_,_,cA t|cA (by cbv)]
 refine qk (K:=K) (λi=>((ζ.zip Ζ)[i]?).bind λx=>out x.1 x.2) hF hn mono ?_ ?_ ?_ ?_
 .intro c u;exact%[ζ,Ζ,u.seq o,u.gK p| .inl rfl]
 .intro i c t u;obtain⟨v,w,B,C⟩:=z i t;exact%[ζ,Ζ,v,w,u.seq o,u.gK p,B|C]
 .rintro i d c t gr x0 g ⟨T,O,P,rfl,nT,rfl,q1,q2⟩ E G kk kn;obtain⟨v,w,B,C⟩:=z i t;have ev:=cE ((q1 _ (gr.same.seq o)).symm.trans B);have ew:=cE ((q2 _ (gr.same.gK p)).symm.trans C);subst ev ew;have Y:((ζ.zip Ζ)[i]?).bind (λx=>out x.1 x.2)=out O P:=by cbv
  have R:=ag.bD (o:=.tup [O,P]) gr.sub nT;refine%[bN.of ak,rfl,rfl,?_|?_]
  .show(((((Δ.set j none).set n none).set n _).set j _).set j none).set n none=(Δ.set j none).set n none;refine tZ λk=>?_
   simp only[Io,wB];by_cases h1:n=k<;>by_cases h2:j=k<;>simp[h1,h2]
  .refine step O P d _ (bO B) (bO C) (gr.trans R) _ _ (λr q A b Q g4 hs=>kk r q A b (Y.trans Q) (R.trans g4) hs) λl I Q g3=>kn l I (Y.trans Q) (R.trans g3)
 .intro d c D gr h;refine done d c D gr ?_;have e:(bV ζ.length).filterMap (λi=>((ζ.zip Ζ)[i]?).bind λx=>out x.1 x.2)=(ζ.zip Ζ).filterMap λx=>out x.1 x.2:=by
   have hz:ζ.length=(ζ.zip Ζ).length:=by cbv
   have r:=qo _ ζ.length (qZ hz)
   grind
  rw[e]at h;exact h
end
def kE:List (Str×List Str):=[("come",["come","LOT","KG","to","PLACE"]),("move",["move","KG","from","PLACE","to","PLACE"]),("weigh",["weigh","PLACE","KG"]),("sell",["sell","KG","from","PLACE"]),("waste",["waste","KG","from","PLACE"])]
abbrev wd(s:String):List Nat:=cu s
def iH(k:List Nat):Option (List (List Nat)):=
 if k=wd "come" then some [wd "come",wd "LOT",wd "KG",wd "to",wd "PLACE"]else if k=wd "move" then some [wd "move",wd "KG",wd "from",wd "PLACE",wd "to",wd "PLACE"]else
 if k=wd "weigh" then some [wd "weigh",wd "PLACE",wd "KG"]else if k=wd "sell" then some [wd "sell",wd "KG",wd "from",wd "PLACE"]else if k=wd "waste" then some [wd "waste",wd "KG",wd "from",wd "PLACE"]else none
def fh(ws:List (List Nat)):Bool:=match ws with
 |[]=>false
 |w::_=>match iH w with
  |none=>false
  |some f=>decide (ws.length=f.length)&&(kS gz ws f).all id
structure vg(P:aC)(w:World)(K:ah)(mg:Str->Option Value):Prop where
 ex:X2 λ(a:ae) (t:Str->ae)=>A3 (mg "FORMS"=some (.ref a)) (jb P w K a (kE.map λx=>(eE x.1,V.ref (t x.1)))) (∀x∈kE,∀F,bN K F (t x.1) (x.2.map V.str))
def lI{m x:Str}:tl x=tl m↔x=m:=%[TL.nA|λe=>e▸rfl]
def MA:tl ("come":Str)=wd "come":=by decide+kernel
def MB:tl ("move":Str)=wd "move":=by decide+kernel
def MC:tl ("weigh":Str)=wd "weigh":=by decide+kernel
def MD:tl ("sell":Str)=wd "sell":=by decide+kernel
def ME:tl ("waste":Str)=wd "waste":=by decide+kernel
def Di(t:Str->ae)(z:Str):(dN (kE.map λx=>((eE x.1:Key),V.ref (t x.1))) (eE z)=aq/\iH (tl z)=none)\/
  ∃x∈kE,x.1=z/\dN (kE.map λx=>((eE x.1:Key),V.ref (t x.1))) (eE z)=some (V.ref (t x.1))/\iH (tl z)=some (x.2.map tl):=by?
 have ne:∀{a b:Str},a≠b->¬((eE a:Key)=eE b):=λh e=>h (eE.inj e);by_cases c:("come")=z
 .subst c;exact .inr %[_,bQ ..,rfl,mC rfl|by rfl]
 by_cases d:("move")=z
 .subst d;exact .inr %[_,bG _ (bQ ..),rfl,(gS (ne c)).trans (mC rfl)|by rfl]
 by_cases f:("weigh")=z
 .subst f;exact .inr %[_,bG _ (bG _ (bQ ..)),rfl,(gS (ne c)).trans ((gS (ne d)).trans (mC rfl))|by rfl]
 by_cases g:("sell")=z
 .subst g;exact .inr %[_,bG _ (bG _ (bG _ (bQ ..))),rfl,(gS (ne c)).trans ((gS (ne d)).trans ((gS (ne f)).trans (mC rfl)))|by rfl]
 by_cases i:("waste")=z
 .subst i;exact .inr %[_,bG _ (bG _ (bG _ (bG _ (bQ ..)))),rfl,(gS (ne c)).trans ((gS (ne d)).trans ((gS (ne f)).trans ((gS (ne g)).trans (mC rfl))))|by rfl]
 refine .inl %[(gS (ne c)).trans ((gS (ne d)).trans ((gS (ne f)).trans ((gS (ne g)).trans (gS (ne i)))))|?_];unfold iH;rw[<-MA,<-MB,<-MC,<-MD,<-ME];rw[aE (λe=>c (lI.mp e).symm),aE (λe=>d (lI.mp e).symm),aE (λe=>f (lI.mp e).symm),aE (λe=>g (lI.mp e).symm),aE (λe=>i (lI.mp e).symm)]
def WJ{N Ξ γ:Type}(f:N->Ξ->γ)(l:List N)(m:List Ξ):((l.zip m).filterMap λx=>some (f x.1 x.2))=kS f l m:=by rw[List.filterMap_eq_map',<-adY];rfl
abbrev Dj:Stmt:=top 60
inductive MF(b:List V)(H:Hp)(Q:VK)(E:XK):Prop
 |mk(ws:List Str)(u:V)(F:Hp)(d:b=[u])(d:aD F H)(d:gN F u ws)(d:∀z∈ws,z.cps.size<=1000000)(d:∀c a,ag F H c a->Q (.bl (fh (ws.map tl))) a)
def vh:aV ["words","form","word","wanted"] ["words"] (aM Dj):=aX
section
variable{K:ah}{O:V}{P:aC}{a f:ae}{h:ax}{r:Str->Option Value}{w:World}{x:Str}{y:aK}{ν:List Str}
def WK(U:aH K "has_form" "has_form" Dj f y)(G:vg P w K r)(m:r "len"=aq)(t:r "all"=aq)(A:r "zip"=aq)(o:aW P w K r h "fits" 3 ["word","wanted"] Mr):
  aJ P w K r h aR 4 f y ["words"] MF:=by?
 refine U.go vh ?_;rintro _ _ _ _ H W Q _ M ⟨ws,u,F,rfl,N,⟨l,rfl,X,hn⟩,Y,k⟩;obtain⟨C,O,T,R,B⟩:=G.ex;refine%[_,aw (bW (PW.pt (kh (bY (vd M.rQ) (pv 0) (bH e_) (b_ _)) (m_ (RD (V_ (aQ bA (pv 0) aL (λ_ _=>rfl)) (ke (v:=.ref C) rfl T rfl)) rfl)))) (au (aF m8)) bZ)
  (aw (bp 1 vh (sH (ke (v:=.ref C) rfl T rfl) (aQ bA (pv 0) aL (λ_ _=>rfl)) (λ_ _=>rfl)))
  (aw (bW (bY pR (cg dG (by rfl) m du (ai (pv 0))) (cg dG (by rfl) m du (ai (pv 1))) (b_ _)) (au (aF m8)) bZ)
  (au (aF (cg (pZ rfl) (by rfl) t boot_all (ai (dC (own:=[("word",2),("wanted",3)]) (g:=oG K 2 (lq (gH 2) (lq (gH 3) rN))) vh (My rfl A (ay (pv 0) (ai (pv 1)))) (mj rfl (gI (bE 2 vh) (gI (bE 3 vh) mi))) cR (aI o M (ay (pv 2) (ai (pv 3)))))))))))|?_]
 have I:=N _ _ X;refine%[bM _|λp hp=>?_];have J:=ag.bD (o:=.lst []) N hp;have i:(upd H p (.lst [])) l=some (.lst (ws.map V.str)):=J.same _ _ I;have s:fh (ws.map tl)=false->Q (.bl false) (upd H p (.lst [])):=λe=>by grind
 refine%[l,_,p,rfl,rfl,af.of i,af.of ak|⟨?_⟩];cases ws with
 |nil=>exact a_ (a_ (s rfl))
 |cons z c=>
  refine bt %[af.of i,bg (j:=0) rfl,C,_,eE z,rfl,R,rfl|⟨?_⟩];rcases Di O z with⟨E,Z⟩|⟨x,mx,ex,E,Z⟩
  .rw[E];refine a_ (s ?_)
   simp_all [fh]
  .rw[E];refine bt %[af.of i,bg (j:=0) rfl,C,_,eE z,_,rfl,R,rfl,E|?_];have L:=B x mx;refine%[l,_,rfl,.inl (af.of i),_,_,rfl,.inr (L _),rfl|⟨?_⟩];have hf:fh ((z::c).map tl)=(decide ((z::c).length=x.2.length)&&(kS gz ((z::c).map tl) (x.2.map tl)).all id):=by
    show(match iH (tl z)with|none=>false|some f=>decide (((z::c).map tl).length=f.length)&&(kS gz ((z::c).map tl) f).all id)=_
    cbv
   have ln:(decide (V.int ((z::c).map V.str).length=V.int (x.2.map V.str).length))=decide ((z::c).length=x.2.length):=by (simp;omega)
   rw[ln];by_cases j:(z::c).length=x.2.length
   .rw[bT j];refine bt %[l,O x.1,_,_,rfl,af.of i,L _|?_];refine Mz (K:=K) (S:=λF v (b:Bool)=>v=V.bl b) (out:=λv w=>match v,w with|.str a,.str b=>some (gz (tl a) (tl b))|_,_=>none) (by decide) J.sub (af.of i) (L _) (by cbv) (by cbv) (λ_ _ _ _ _ q=>q) ?_ ?_
    .intro v w' S H' mv mw g Qk Qn kk kn;obtain⟨a,ma,rfl⟩:=bF.mp mv;obtain⟨b,mb,rfl⟩:=bF.mp mw;unfold jR;dsimp only;rw[aS rfl];exact%[a,b,S,rfl,g.sub,Y a ma|λF2 H2 g2=>kk _ _ F2 _ rfl g2 rfl]
    .rintro S H' D g ⟨a,W,e,q,pp,n⟩;cases e;rw[lH pp]at q;refine%[af.of (g.sub _ _ q)|?_];have e3:(((z::c).map V.str).zip (x.2.map V.str)).filterMap (λd=>(match d.1,d.2 with|.str a,.str b=>some (gz (tl a) (tl b))|_,_=>none))=kS gz ((z::c).map tl) (x.2.map tl):=by rw[Am,Av,List.zipWith_map];exact WJ (λa b=>gz (tl a) (tl b)) (z::c) x.2
     rw[e3];have:=k _ _ (J.trans g)
     cbv
   .rw[bK j];refine a_ (s ?_)
    cbv
def pick(ws f:List (List Nat))(y:List Nat):List (List Nat):=(ws.zip f).filterMap λp=>if p.2=y then some p.1 else none
def MG(ws f:List Str)(y:Str):((ws.zip f).filterMap λp=>if p.2=y then some p.1 else none).map tl=pick (ws.map tl) (f.map tl) (tl y):=by
 unfold pick;rw[Am,Av,Aw];congr 1
 grind [TL.nA]
def lf(a b c:V):List (Str×V):=cb "silos" c (cb "places" b (cb "lots" a []))
def lJ(a b c:V):(lf a b c).lookup ("lots":Str)=some a:=by rfl
def kF(a b c:V):(lf a b c).lookup ("places":Str)=some b:=by rfl
def yR(a b c:V):(lf a b c).lookup ("silos":Str)=some c:=by rfl
structure iI(K:ah)(C:ae):Prop where
 cl:gJ K C
 nl:eS K C "lots"
 np:eS K C "places"
 ns:eS K C "silos"
structure jE(C:ae)(H:Hp)(v:V)(lots places:List Str)(bj:List Bool):Prop where
 ex:X5 λa b la pa sa=>A5 (v=.ref a) (H a=some (.ins C b (lf (.ref la) (.ref pa) (.ref sa)))) (H la=some (.lst (lots.map V.str))) (H pa=some (.lst (places.map V.str))) (H sa=some (.lst (bj.map V.bl)))
 len:bj.length=places.length
 dH:lots.length<=6/\places.length<=8
def jE.mono{H J:Hp}{places:List Str}{bj:List Bool}(h:jE a H O ν places bj)(s:aD H J):jE a J O ν places bj:=by obtain⟨b,c,la,pa,sa,e,d,f,g,i⟩:=h.ex;exact%[%[b,c,la,pa,sa,e,s _ _ d,s _ _ f,s _ _ g|s _ _ i],h.len|h.dH]
theorem sN(z:Str)(l:List Str):rS (.str z) (l.map V.str)=decide (tl z∈l.map tl):=by?
 unfold rS;induction l with
 |nil=>rfl
 |cons a r b=>
  rw[cx,o9,b];show(a==z||_)=_;by_cases e:a=z
  .subst e;simp
  .have q:¬tl z=tl a:=λq=>e (TL.nA q).symm;simp[e,q]
def mF(l:List Str):(l.map V.str).all km=true:=by rw[nX];exact nY.mpr λa a=>rfl
abbrev Dk:Stmt:=top 61
inductive Dl(c:List V)(H:Hp)(Q:VK)(E:XK):Prop
 |mk(z:Str)(r:List Str)(x:Str×List Str)(y:Str)(u:V)(F:Hp)(d:c=[u,.str y])(d:aD F H)(d:gN F u (z::r))(d:x∈kE)(d:x.1=z)(d:(z::r).length=x.2.length)(d:∀a b v,ag F H a b->gN a v (((z::r).zip x.2).filterMap λp=>if p.2=y then some p.1 else none)->Q v b)
def yS:aV ["words","wanted","word","part"] ["words","wanted"] (aM Dk):=aX
def WL(T:aH K "words_for" "words_for" Dk f y)(G:vg P w K r)(m:r "zip"=aq):aJ P w K r h aR 1 f y ["words","wanted"] Dl:=by?
 refine T.go yS λU A outer s H vs Q E hr c=>?_;obtain⟨z,d,x,i,u,F,rfl,J,⟨l,rfl,W,hn⟩,L,ex,S,k⟩:=c;obtain⟨M,o,hm,X,n⟩:=G.ex;refine%[_,au (aF (dC (own:=[("word",2),("part",3)]) (g:=oG K 2 _) yS (My rfl m (ay (pv 0) (ai (sH (ke (v:=.ref M) rfl hm rfl) (aQ bA (pv 0) aL (λ_ _=>rfl)) (λ_ _=>rfl))))) (mj rfl (gI (bE 2 yS) (gI (bE 3 yS) mi))) (Ky (bY dY (pv 3) (pv 1) (b_ _))) (pv 2)))|?_];have j:=J _ _ W;have N:=n x L;have t:dN (kE.map λx=>((eE x.1:Key),V.ref (o x.1))) (eE z)=some (V.ref (o x.1)):=by
  rcases Di o z with⟨_,B⟩|⟨x',Y,C,t,B⟩
  .exfalso;rw[<-ex]at B;have:∀x∈kE,iH (tl x.1)≠none:=by trivial
   exact this x L B
  .rw[t,C,ex]
 refine%[af.of j,bg (j:=0) rfl,M,_,eE z,_,rfl,X,rfl,t,l,o x.1,_,_,rfl,af.of j,N _|?_];refine Mz (K:=K) (S:=λF v (b:Str)=>v=V.str b) (out:=λv w=>match v,w with|.str a,.str b=>if b=i then some a else none|_,_=>none) (by decide) J (af.of j) (N _) (by cbv) (by grind) (λ_ _ _ _ _ q=>q) ?_ ?_
 .intro v w' I Z mv mw g Qk Qn kk kn;obtain⟨a,ma,rfl⟩:=bF.mp mv;obtain⟨b,mb,rfl⟩:=bF.mp mw;refine%[rfl|⟨?_⟩];by_cases c:b=i
  .rw[bT (show V.str b=V.str i by rw[c])];exact a_ (kk _ _ I a (aS c) (ag.refl g.sub) rfl)
  .rw[bK (show ¬V.str b=V.str i fromλe=>c (by cases e;rfl))];exact bt (kn _ I (aE c) (ag.refl g.sub))
 .intro I Z D g O;refine k _ _ _ g ?_;have e3:(((z::d).map V.str).zip (x.2.map V.str)).filterMap (λR=>(match R.1,R.2 with|.str a,.str b=>if b=i then some a else none|_,_=>none))=((z::d).zip x.2).filterMap λp=>if p.2=i then some p.1 else none:=by rw[Am,Av];rfl
  rw[e3]at O;exact O.strs
abbrev Dm:Stmt:=top 62
def formOf(ws:List (List Nat)):List (List Nat):=(iH (ws.headD [])).getD []
def ig(lots places:List (List Nat))(ws:List (List Nat)):Int:=
 if fh ws=false then 1 else if((pick ws (formOf ws) (wd "LOT")).all λn=>decide (n∈lots))=true/\((pick ws (formOf ws) (wd "PLACE")).all λn=>decide (n∈places))=true then 0 else 3
inductive Dn(CL:ae)(b:List V)(H:Hp)(Q:VK)(E:XK):Prop
 |mk(ws lots places:List Str)(bj:List Bool)(u v:V)(F:Hp)(d:b=[u,v])(d:aD F H)(d:gN F u ws)(d:∀z∈ws,z.cps.size<=1000000)(d:jE CL H v lots places bj)(d:∀c a,ag F H c a->Q (.int (ig (lots.map tl) (places.map tl) (ws.map tl))) a)
def qp:aV ["words","layout","lots_there","places_there","name"] ["words","layout"] (aM Dm):=aX
def WN(h:fh (ν.map tl)=true):∃(z:Str) (r:List Str) (x:Str×List Str),ν=z::r/\x∈kE/\x.1=z/\(z::r).length=x.2.length/\formOf (ν.map tl)=x.2.map tl:=by
 cases ν with
 |nil=>cases h
 |cons z r=>
  rcases Di (λc=>0) z with⟨_,a⟩|⟨x,b,ex,_,a⟩
  all_goals grind [fh,formOf]
def WO(Fn:aH K "why_wrong" "why_wrong" Dm f y)(G:vb r)(TL:iI K a)(p:r "all"=aq)(o:aW P w K r h "has_form" 4 ["words"] MF)(l:aW P w K r h "words_for" 1 ["words","wanted"] Dl):
  aJ P w K r h aR 5 f y ["words","layout"] (Dn a):=by?
 refine Fn.go qp λao A outer s H vs Q E S c=>?_;obtain⟨ws,lots,places,bj,u,v,F,rfl,hF,T,hz,hL,k⟩:=c;refine%[_,aw (bW (nh (eQ (aI o S (ai (pv 0))) (λ_=>rfl))) (au (aF (bC G.yK))) bZ)
  (aw (bp 2 qp (cg (pZ rfl) (by rfl) p boot_all (ai (dC (own:=[("name",4)]) (te:=e6 (Bk K false) (cf 4) (fL K (cf 1) "lots")) qp (cq (aI l S (ay (pv 0) (ai cK)))) (bE 4 qp) cR (i7 pX (pv 4) (aG (pv 1)) rfl)))))
  (aw (bp 3 qp (cg (pZ rfl) (by rfl) p boot_all (ai (dC (own:=[("name",4)]) (te:=e6 (Bk K false) (cf 4) (fL K (cf 1) "places")) qp (cq (aI l S (ay (pv 0) (ai cK)))) (bE 4 qp) cR (i7 pX (pv 4) (aG (pv 1)) rfl)))))
  (aw (bW (PW.pt (RI (eQ (pv 2) (λ_=>rfl)) (RH (eQ (pv 3) (λ_=>rfl))))) (au (aF (bC G.good))) bZ)
  (au (aF (bC G.there))))))|?_]
 refine%[ws,u,F,rfl,hF,T,hz|λF1 H1 R=>%[_,rfl|?_]];cases C:fh (ws.map tl)with
 |false=>
  refine a_ ?_;have:=k _ _ R;unfold ig at this;rw[aS C]at this;exact this
 |true=>
  refine bt ?_;obtain⟨z,d,x,rfl,mx,ex,B,U⟩:=WN C;obtain⟨j,dx,la,pa,sa,rfl,h1,h2,h3,h4⟩:=hL.ex;refine%[z,d,x,_,u,F1,rfl,R.sub,T.mono R.fs,mx,ex,B|λF2 H2 nv g2 I=>?_];obtain⟨nl,rfl,N,ar⟩:=I;have J:=R.trans g2;refine%[%[_|af.of (g2.sub _ _ N)]|dI (S:=λF v (b:Bool)=>v=V.bl b) (R:=λv n=>v=V.str n) (λn:Str=>decide (tl n∈lots.map tl)) J.sub (af.of (g2.sub _ _ N)) (oS _) (by cbv) (λ_ _ _ _ _ q=>q) ?_ ?_]
  .rintro i v' n W H' hn rfl g Qk X;have O:=J.same.trans g.same;refine%[O _ _ h1,TL.cl,TL.nl,lJ _ _ _,la,_,rfl,.inl (af.of (O _ _ h2)),rfl,mF _|?_];refine X _ _ W (ag.refl g.sub) ?_;simp[sN]
  .rintro F3 H3 D g3 ⟨_,bs,e,q,pp,_⟩;cases e;rw[lH pp]at q;refine%[af.of (g3.sub _ _ q)|?_];have L:=J.trans g3;refine%[z,d,x,_,u,F3,rfl,L.sub,T.mono L.fs,mx,ex,B|λF4 H4 nv Y I=>?_];obtain⟨av,rfl,t,aa⟩:=I;have M:=L.trans Y;refine%[%[_|af.of (Y.sub _ _ t)]|dI (S:=λF v (b:Bool)=>v=V.bl b) (R:=λv n=>v=V.str n) (λn:Str=>decide (tl n∈places.map tl)) M.sub (af.of (Y.sub _ _ t)) (oS _) (by cbv) (λ_ _ _ _ _ q=>q) ?_ ?_]
   .rintro i v' n W H' hn rfl g Qk X;have O:=M.same.trans g.same;refine%[O _ _ h1,TL.cl,TL.np,kF _ _ _,pa,_,rfl,.inl (af.of (O _ _ h3)),rfl,mF _|?_];refine X _ _ W (ag.refl g.sub) ?_;simp[sN]
   .rintro F5 H5 D2 g5 ⟨_,az,e,q2,Z,_⟩;cases e;rw[lH Z]at q2;refine%[af.of (g5.sub _ _ q2)|?_];have m:=k _ _ (M.trans g5);unfold ig at m;rw[aE (by exact ne_false_of_eq_true C),U]at m;have el:∀(ns:List Str) (ds:List (List Nat)),(ns.map λn=>decide (tl n∈ds)).all id=(ns.map tl).all λn=>decide (n∈ds):=λns ds=>by rw[nX,nX];rfl
    refine%[_,rfl|?_];rw[el,MG,Ms];rw[el,MG,Mt];cases e1:(pick ((z::d).map tl) (x.2.map tl) (wd "LOT")).all λn=>decide (n∈lots.map tl)with
    |false=>
     rw[aE (λc=>by rw[e1]at c;cases c.1)]at m;exact bt (bt m)
    |true=>
     refine a_ %[_,rfl|?_];cases e2:(pick ((z::d).map tl) (x.2.map tl) (wd "PLACE")).all λn=>decide (n∈places.map tl)with
     |false=>
      rw[aE (λc=>by rw[e2]at c;cases c.2)]at m;exact bt m
     |true=>
      rw[aS %[e1|e2]]at m;exact a_ m
def iU(a:List (List Str))(z:Str):List (List Str):=if z="or" then a++[[]]else a.dropLast++[a.getLastD []++[z]]
def jd(ws:List Str):List (List Str):=ws.foldl iU [[]]
def Dq(b:List (List Str))(a:List Str)(z:Str)(h:z≠"or"):iU (b++[a]) z=b++[a++[z]]:=by simp_all [iU]
def yT(a:List (List Str)):iU a "or"=a++[[]]:=by rfl
def MH(c:List Nat)(x:List Nat)(r:List (List Nat)):∃l m,fA c r=l::m:=by
 cases r with
 |nil=>exact%[[],[]|rfl]
 |cons a r=>
  unfold fA;cases fA c r with
  |nil=>exact%[_,_|rfl]
  |cons l m=>
   split
   all_goals grind
theorem Dr:∀(ws:List Str) (b:List (List Str)) (a:List Str),((ws.foldl iU (b++[a])).map λl=>l.map tl)=
  (b.map λl=>l.map tl)++((a.map tl++(fA (wd "or") (ws.map tl)).headD [])::(fA (wd "or") (ws.map tl)).tail)
 |[],b,a=>by? show(jL _ (b++[a]))=_;rw[cF];show _=_++((a.map tl++[])::[]);rw[g9];rfl
 |z::r,b,a=>by?
  rw[fI];obtain⟨l,m,e⟩:=MH _ [] _;have un:fA (wd "or") ((z::r).map tl)=if tl z=wd "or" then[]::(l::m)else(tl z::l)::m:=by
   rw[cx]
   conv=>lhs;unfold fA
   rw[e]
  by_cases h:z="or"
  .subst h;rw[yT,un,aS C_,Dr r _ [],e];simp
  .rw[Dq b a z h,un,aE (λq=>h (lI.mp (q.trans C_.symm))),Dr r b _,e];simp
def MI(ws:List Str):((jd ws).map λl=>l.map tl)=fA (wd "or") (ws.map tl):=by
 have:=Dr ws [] [];obtain⟨l,m,e⟩:=MH (wd "or") [] (ws.map tl)
 simp_all [jd]
def WQ(ws:List Str):∀a:List (List Str),a≠[]->ws.foldl iU a≠[]:=by
 induction ws with
 |nil=>intro a h;exact h
 |cons z r b=>
  intro a h;refine b _ ?_;unfold iU;split<;>simp
abbrev Ds:Stmt:=top 59
def Dt(K:ah)(F:Hp)(v:V)(ws:List (List Str)):Prop:=dj (gN F) K F v ws
inductive MJ(K:ah)(c:List V)(H:Hp)(Q:VK)(E:XK):Prop
 |mk(ws:List Str)(u:V)(F:Hp)(d:c=[u])(d:aD F H)(d:gN F u ws)(d:ws.length<=100000)(d:∀a b v,ag F H a b->Dt K a v (jd ws)->Q v b)
def Du:aV ["words","deeds","word"] ["words"] (aM Ds):=aX
theorem yU:∀(ws:List Str) (a:List (List Str)),a≠[]->(ws.foldl iU a).length<=a.length+ws.length/\(((ws.foldl iU a).getLastD []).length<=(a.getLastD []).length+ws.length)
 |[],a,_=>%[bx _|bx _]
 |z::r,a,h=>by?
  rw[fI];obtain⟨i,l,rfl⟩:X2 λi l=>a=i++[l]:=%[a.dropLast,a.getLast h|(ad_ h).symm]
  by_cases c:z="or"
  .subst c;rw[yT];have b:=yU r (i++[l]++[[]]) (by simp);rw[Iz]at b⊢;simp only[dB,iu,wU]at b⊢;exact%[by simp_all+arith|by lia]
  .rw[Dq i l z c];have b:=yU r (i++[l++[z]]) (by simp);rw[Iz]at b⊢;simp only[dB,iu,wU]at b⊢;exact%[by lia|by simp_all+arith]
def WT(X:aH K "told_deeds" "told_deeds" Ds f y):aJ P w K r h aR 1 f y ["words"] (MJ K):=by?
 refine X.go Du λY A outer s H vs Q E hr a=>?_;obtain⟨ws,u,F,rfl,L,⟨l,rfl,Z,hn⟩,hw,k⟩:=a;refine%[_,aw (bp 1 Du (bH (ai (bH e_))))
  (aw (eO d9 rfl (cq (pv 0)) (bE 2 Du)
   (au (bW (bY dY (pv 2) cK (b_ _)) (au (eN (iG (pv 1) (ai (bH e_))))) (au (eN (iG (aQ bA (pv 1) (uo uq aL) (λY Y=>rfl)) (ai (pv 2))))))))
  (au (aF (pv 1))))|?_]
 have M:=L _ _ Z;refine%[bM _|λR B=>%[dc|λD hD=>?_]];have S:D≠R:=λe=>by simp_all [ak]
 have G:H D=aq:=by simp_all [aB]
 have U:=(ag.bD (o:=.lst []) L B).trans (ag.bD (o:=.lst [.ref R]) (ag.bD (o:=.lst []) L B).sub hD);refine%[%[_|af.of (U.same _ _ M)]|iB (K:=K) (a:=l) (xs:=ws.map V.str) (λi σ I=>X6 λ(C:Hp) (d:List V) (init:List (List Str)) (c:List Str) (la:ae) (q:Option V)=>U6 (σ=[some (.ref l),some (.ref D),q]) (ag F H C I) (C D=aq) (C la=aq) (la≠D) (H la=aq) (I D=some (.lst (d++[.ref la]))) (I la=some (.lst (c.map V.str))) (Paired (gN C) d init) ((ws.take i).foldl iU [[]]=init++[c]))
  %[F,[],[],[],R,none,rfl,U,L.free G,L.free B,S.symm,B,ak,by grind [aB,ak],.nil|rfl] (λi σ I _ %[_,_,_,_,_,_,_,g,_,_,_,_,_,_,_|_]=>af.of (g.same _ _ M)) ?_ ?_]
 .rintro i b σ I hi ⟨C,d,init,c,la,q,rfl,g,W,n,ne,j,J,o,pr,ef⟩;obtain⟨z,hz,rfl⟩:∃z,ws[i]?=some z/\b=V.str z:=by grind
  have m:=yU (ws.take i) [[]] (by simp);rw[ef]at m;simp only[dB,iu,wU,Iz,jK,ad',aea]at m;have cl:=bu pr;refine%[rfl|⟨?_⟩];rw[take_snoc hz,Ip,fI,Iq,ef,jc];by_cases a:z="or"
  .subst a;rw[bT rfl];refine a_ %[.inl %[rfl,_|af.of J],bM _|λp hp=>?_];have N:D≠p:=eZ J hp;have aa:la≠p:=eZ o hp;have T:H p=aq:=g.same.free hp;refine%[by rw[aB N];exact J,?_|?_]
   .refine eW ?_
    (cbv;lia)
   .have O:=g.fix j o (.inl n);have t:(upd C la (.lst (c.map V.str))) D=aq:=by grind [aB]
    have g2:=O.trans (ag.bD (o:=.lst []) O.sub hp);refine%[_,d++[.ref la],init++[c],[],p,_,rfl,g2.iE G t,t,O.sub.free hp,N.symm,T,ak,by grind [aB,ak],?_|yT _];refine gM (cT pr λv x q=>q.mono (cQ n)) (.cons %[la,rfl,ak|?_] .nil)
    lia
  .rw[bK (λe=>a (TL.nA e))];refine bt %[af.of J,xO d (.ref la),.inl %[rfl,_|af.of o],o,?_|?_]
   .refine eW ?_
    (cbv;lia)
   .refine%[C,d,init,c++[z],la,_,rfl,g.iE j n,W,n,ne,j,by grind [aB],?_,pr|Dq init c z a];rw[ak,cF];rfl
 .rintro σ I ⟨C,d,init,c,la,q,rfl,g,W,n,ne,j,J,o,pr,ef⟩;rw[aY,eK]at ef;have m:=yU ws [[]] (by simp);rw[ef]at m;simp only[dB,iu,wU,Iz,ad',aea]at m;have cl:=bu pr;have O:=g.fix j o (.inl n);have t:(upd C la (.lst (c.map V.str))) D=aq:=by grind [aB]
  have gg:=O.fix G J (.inl t);refine(k _ _ _ gg %[D,_,rfl,ak,?_|?_])
  .show Paired _ _ (jd ws);unfold jd;rw[ef];have sm:=(cQ (o:=.lst (c.map V.str)) n).trans (cQ (o:=.lst (d++[.ref la])) t);refine gM (cT pr λv x q=>q.mono sm) (.cons %[la,rfl,?_|by lia] .nil)
   simp_all [aB,ak]
  (cbv;lia)
def chars:List Nat:=sI++sJ++[32,10]
def fN(n:Nat):Nat:=if n∈chars then n else 63
def qr(c:Nat):Key×V:=(fu (c:Int),V.str ⟨#[c]⟩)
theorem WU:tl (("abcdefghijklmnopqrstuvwxyz":Str)++("0123456789":Str)++(" \n":Str))=chars:=by rfl
theorem WV:chars.Nodup:=by decide+kernel
def WX{N:Type}[DecidableEq N]{a:List (N×V)}{k:N}(h:k∉a.map (·.1)):putK a k O=a++[(k,O)]:=by simp_all [putK]
theorem MK(n:Nat):∀l:List Nat,dN (l.map qr) (fu (n:Int))=if n∈l then some (V.str ⟨#[n]⟩)else aq
 |[]=>rfl
 |c::r=>by
  rw[cx];by_cases h:c=n
  .simp_all [mC,qr]
  .rw[gS (λe=>h (by have:=fu.inj e;lia)),MK n r]
   grind
theorem ML:∀l:List Nat,TL.dQ [] (l.map λc=>[c])=l
 |[]=>rfl
 |[c]=>rfl
 |c::d::r=>by have a:=ML (d::r);show[c]++([]++TL.dQ [] ((d::r).map λc=>[c]))=_;rw[a];rfl
abbrev Dx:Stmt:=top 53
inductive yV(b:List V)(H:Hp)(Q:VK)(E:XK):Prop
 |mk(ns:List Nat)(u:V)(F:Hp)(d:b=[u])(d:aD F H)(d:dO F u (ns.map λ(n:Nat)=>(n:Int)))(d:ns.length<=100000)(d:∀c a (z:Str),ag F H c a->tl z=ns.map fN->Q (.str z) a)
def vi:aV ["row","signs","sign","byte"] ["row"] (aM Dx):=aX
def WY(S:aH K "signs_of" "signs_of" Dx f y)(G:vb r)(o:r "ord"=aq):aJ P w K r h aR 1 f y ["row"] yV:=by?
 refine S.go vi λT A outer s H U Q E W b=>?_;obtain⟨ns,u,F,rfl,I,⟨l,rfl,X,hn⟩,O,k⟩:=b;have J:=Lb W;refine%[_,aw (rO (i:=1) vi.nd rfl (rf rfl) KO)
  (aw (eO d9 rfl (BF (bJ xJ (bJ xJ (bC G.CV) (bC G.digits)) cK)) (bE 2 vi)
   (au (KN J (pv 1) (cg JQ (by rfl) o boot_ord (ai (pv 2))) (pv 2) rfl)))
  (au (aF (xY cK (dC (own:=[("byte",3)]) vi (cq (pv 0)) (bE 3 vi) cR (KQ J (pv 1) (pv 3) (bC G.Wb) %[rfl,rfl,rfl|rfl]))))))|?_]
 have p:=I _ _ X;intro d hd;refine%[_,_,rfl,rfl,(by decide+kernel),_,_,rfl,rfl,(by exact fit_le rfl),_,rfl|?_];generalize Y:(("abcdefghijklmnopqrstuvwxyz":Str)++("0123456789":Str)++(" \n":Str))=t;have tz:tl t=chars:=by grind [WU]
 have sz:t.cps.size=chars.length:=by rw[Dd,tz]
 refine qm (n:=t.cps.size) (λi σ m=>∃q:Option V,σ=[some (.ref l),some (.ref d),q,aq]/\m=upd H d (.dK ((chars.take i).map qr))) %[none,rfl|rfl] ?_ (λi σ m L T=>L) ?_
 .rintro σ m ⟨q,rfl,rfl⟩;refine%[bx _|?_];rw[sz,eK];have z:=ag.bD (o:=.dK (chars.map qr)) I hd;have Z:(upd H d (.dK (chars.map qr))) d=some (.dK (chars.map qr)):=ak;have el:=z.same _ _ p;refine%[%[_|rfl],%[_|af.of el]|dI (K:=K) (S:=λF v (c:Nat)=>v=V.str ⟨#[c]⟩) (R:=λv (n:Nat)=>v=V.int (n:Int)) fN (xs:=ns) z.sub (af.of el) (by grind [oS]) (by cbv) (λT T T T T q=>q) ?_ ?_]
  .rintro i v n M m hx rfl g Qk kk;have N:=g.same _ _ Z;refine%[d,rfl,.inl %[_| .inl N],_,rY.k (k:=fu (n:Int)) N|?_];refine kk _ _ M (ag.refl g.sub) ?_;rw[MK];unfold fN;by_cases b:n∈chars
   .simp_all
   .rw[aE b,aE b];rfl
  .rintro M m D g ⟨T,U,e,B,pp,nn⟩;cases e;have ev:=lH (f:=λ(c:Nat)=>V.str ⟨#[c]⟩) pp;rw[ev]at B;have e2:(ns.map fN).map (λ(c:Nat)=>V.str ⟨#[c]⟩)=((ns.map fN).map λc=>(⟨#[c]⟩:Str)).map V.str:=by simp
   rw[e2]at B;refine%[_,D,(ns.map fN).map λc=>(⟨#[c]⟩:Str),rfl,rfl,.inl (af.of (g.sub _ _ B)),?_|?_]
   .have e3:(((ns.map fN).map λc=>(⟨#[c]⟩:Str)).map (·.length)).sum=ns.length:=by
     rw[cC,cC];have:∀l:List Nat,(l.map ((λx:Str=>x.length)∘(λc=>(⟨#[c]⟩:Str))∘fN)).sum=l.length:=by
      intro l;induction l with
      |nil=>rfl
      |cons a j ih=>rw[cx,jk,ih,iu];show 1+_=_;exact wX 1 j.length
     exact this ns
    rw[e3];show ns.length+_*0<=_;exact bq (by assumption) (by decide)
   .refine k _ _ _ (z.trans g) ?_;rw[TL.join_eq,TL.qa,vc,cC];exact ML (ns.map fN)
 .rintro i v σ m aa L ⟨q,rfl,rfl⟩ ⟨rfl,c,hc,rfl⟩;have C:chars[i]?=some c:=by grind
  have fresh:(fu (c:Int):Key)∉((chars.take i).map qr).map (·.1):=by
   intro R;rw[cC]at R;obtain⟨c',ao,e⟩:=bF.mp R;have e':c'=c:=by have:=fu.inj e;lia
   grind-order [wY,UR,WV]
  refine%[_,rfl,rfl,d,_,rfl,rZ.k (k:=fu (c:Int)) ak ?_|?_]
  .rw[aY,jK];have:chars.length<=100:=by decide
   exact uM (by lia)
  .refine%[_,rfl|?_];rw[xt,WX fresh,take_snoc C,cF];rfl
def W0(w:List Nat)(c:Nat):oh (w++[c])=10*oh w+(c-48):=by unfold oh;simp
def W2:∀(n:Nat) (w:List Nat),w.length=n->w≠[]->w.head?≠some 48->(∀c∈w,48<=c/\c<=57)->TL.i8 (oh w)=w/\1<=oh w:=by?
 intro n;induction n with
 |zero=>simp
 |succ n h=>
  intro w i a f hd;obtain⟨v,c,rfl⟩:X2 λv c=>w=v++[c]:=%[w.dropLast,w.getLast a|(ad_ a).symm]
  have k:=hd c (nW _ (fJ.mpr rfl));rw[W0];by_cases g:v=[]
  .subst g;have j:c≠48:=λe=>f (by rw[e];rfl)
   rw[show oh []=0 from rfl,TL.BN (by lia)];exact%[congrArg (λx=>[x]) (by lia)|by lia]
  .have r:=h v (by simpa using i) g (λe=>f (by exact head_of_append e)) λd b=>hd d (mS _ b)
   refine%[?_|by lia];rw[TL.BO (by lia)]
   grind
def MM{n:Nat}(h:dP (tl x)=some n):tl x=TL.i8 n/\x=Qe (toString ((n:Nat):Int)):=by?
 have i:=De h;obtain⟨c,r,a⟩:X2 λc r=>tl x=c::r:=by
  cases e:tl x with
  |nil=>rw[e]at h;cases h
  |cons c r=>exact%[c,r|rfl]
 have b:(dP (c::r)).isSome=true:=by rw[<-a,h];rfl
 rw[Mp]at b;have f:=tW.mp b;have g:=tW.mp f.2;have nm:=W2 _ (tl x) rfl (by rw[a];simp) (by
  grind) (λd hd=>by
  rw[a]at hd;have:=nY.mp g.2 d hd;unfold gP at this
  cbv)
 grind [TL.nA,TL.BM]
def W3{n:Nat}(h:dP (tl x)=some n):adx x=some (n:Int)/\x.length<=640:=by
 have a:=De h;obtain⟨b,c⟩:=MM h;have d:(TL.i8 n).length<=4:=TL.UM (by decide) (by lia)
 grind [TL.gU,TL.UN]
def yW{j:Nat}(h:d6 (ν.map tl) (tl x)=some j):(ν.map V.str)[j]?=some (.str x)/\∀m b,m<j->(ν.map V.str)[m]?=some b->lA b (.str x)=false:=by?
 unfold d6 at h;dsimp only at h;split at h
 .have e:=cE h;refine%[?_|λm b f a=>?_]
  .grind [TL.nA]
  .rw[eJ]at a;have c:m<ν.length:=by(cbv;lia)
   rw[cA c]at a;have d:=(cE a).symm;rw[d];show(ν[m]==x)=false
   grind
 .cases h
theorem MN{Α:List (List Nat)}{κ:List Nat}(h:κ∈Α):∃j,d6 Α κ=some j/\j<Α.length:=by have a:(Α.findIdx λy=>y==κ)<Α.length:=List.findIdx_lt_length_of_exists %[κ,h|by simp];refine%[_,?_|a];unfold d6;exact aS a
structure DM where
 words:List Str
 kilos:Nat
 MO:Option Nat
 places:List Nat
def df(a b c d:V):List (Str×V):=cb "places" d (cb "lot" c (cb "kilos" b (cb "words" a [])))
def Dy(a b c d:V):(df a b c d).lookup ("words":Str)=some a:=by rfl
def qu(a b c d:V):(df a b c d).lookup ("kilos":Str)=some b:=by rfl
def W4(a b c d:V):(df a b c d).lookup ("lot":Str)=some c:=by rfl
def qv(a b c d:V):(df a b c d).lookup ("places":Str)=some d:=by rfl
structure mG(K:ah)(C:ae):Prop where
 cl:gJ K C
 nw:eS K C "words"
 nk:eS K C "kilos"
 nl:eS K C "lot"
 np:eS K C "places"
def Dz:Option Nat->V
 |none=>.bB
 |some l=>.int (l:Int)
inductive sO(K:ah)(C:ae)(F:Hp)(v:V)(d:DM):Prop
 |mk a c wv b pv(e:v=.ref a)(e:F a=some (.ins C c (df wv b (Dz d.MO) pv)))(e:gN F wv d.words)(e:bS K F b ((d.kilos:Int):Rat))(e:dO F pv (d.places.map λ(n:Nat)=>(n:Int)))
theorem sO.mono{H J:Hp}{d:DM}(h:sO K a H O d)(s:aD H J):sO K a J O d:=by obtain⟨b,c,k,f,pv,e,q,g,i,j⟩:=h;exact%[b,c,k,f,pv,e,s _ _ q,g.mono s,i.mono s|j.mono s]
abbrev DA:Stmt:=inClass (top 52) 0
inductive DB(C:ae)(g:List V)(H:Hp)(Q:VK)(E:XK):Prop
 |mk(p f:ae)(a b c d:V)(h:g=[.ref p,a,b,c,d])(h:H p=some (.ins C f []))(h:∀e:Hp,e p=some (.ins C f (df a b c d))->(∀b o,H b=some o->b≠p->e b=some o)->Q .bB e)
def W5:aV ["self","words","kilos","lot","places"] ["self","words","kilos","lot","places"] (aM DA):=aX
def W6(i:aH K "__init__" "Deed.__init__" DA f y)(T:mG K a):aJ P w K r h aR 1 f y ["self","words","kilos","lot","places"] (DB a):=by? refine i.go W5 ?_;rintro m m m m m m m m m ⟨p,j,g,b,c,d,rfl,hp,k⟩;refine%[_,aw (fR (pv 0) (pv 1) rfl) (aw (fR (pv 0) (pv 2) rfl) (aw (fR (pv 0) (pv 3) rfl) (au (fR (pv 0) (pv 4) rfl))))|?_];refine%[hp,T.cl,T.nw,(by decide)|?_];refine%[ak,T.cl,T.nk,(by show 1<1000;decide)|?_];refine%[ak,T.cl,T.nl,(iP (nj _ _ _) (by show 1+1<1000;decide))|?_];refine%[ak,T.cl,T.np,(iP (nj _ _ _) (iP (QJ (nj _ _ _)) (by show 1+1+1<1000;decide)))|?_];exact k _ ak λb o e l=>by simp_all [aB]
abbrev DC:Stmt:=top 63
abbrev picks(ws f:List Str)(y:Str):List Str:=(ws.zip f).filterMap λp=>if p.2=y then some p.1 else none
inductive yX(K:ah)(CD CL:ae)(f:List V)(H:Hp)(Q:VK)(E:XK):Prop
 |mk(z:Str)(r:List Str)(x:Str×List Str)(lots places:List Str)(bj:List Bool)(a:Str)(g:List Str)(b:Nat)(pl:List Nat)(u v:V)(F:Hp)(h:f=[u,v])(h:aD F H)(h:gN F u (z::r))(h:jE CL H v lots places bj)(h:x∈kE)(h:x.1=z)(h:(z::r).length=x.2.length)(h:picks (z::r) x.2 "KG"=a::g)(h:dP (tl a)=some b)(h:∀n∈picks (z::r) x.2 "LOT",tl n∈lots.map tl)(h:Paired (λn j=>d6 (places.map tl) (tl n)=some j) (picks (z::r) x.2 "PLACE") pl)(h:∀c e d,ag F H c e->sO K CD c d %[z::r,b,(picks (z::r) x.2 "LOT").foldl (λh n=>d6 (lots.map tl) (tl n)) none|pl]->Q d e)
def qw:aV ["words","layout","kilos","lot","name","places"] ["words","layout"] (aM DC):=aX
abbrev yY{X:Cx}{o e:Expr}{to c:TE}{b a:Pos}:=@Bm X o e [] to (e9 c fS) "index" b a "list" "list.index" (Bq X.K) Ir adg PySem.F.type_list_index TH
def W7{R:Str->Nat->Prop}:∀{ns:List Str} {pl:List Nat},Paired R ns pl->Paired (λ(v:V) (p:Str×Nat)=>v=V.str p.1/\R p.1 p.2) (ns.map V.str) (ns.zip pl):=by
 intro a a h;induction h with
 |nil=>exact .nil
 |cons h _ t=>exact .cons %[rfl|h] t
def W8{l:ae}(Fn:aH K "deed_of" "deed_of" DC f y)(t:iI K l)(Q:r "int"=aq)(A:aW P w K r h "whole" 1 ["number"] (Ma K))(m:aW P w K r h "words_for" 1 ["words","wanted"] Dl)
  (E:jX P w K r h "Deed" a 1 ["self","words","kilos","lot","places"] (DB a)):aJ P w K r h aR 3 f y ["words","layout"] (yX K a l):=by?
 refine Fn.go qw ?_;rintro _ _ _ _ _ _ _ _ I ⟨z,b,x,lots,places,bj,kz,kr,kk,pl,u,v,F,rfl,hF,R,hL,U,ex,hlen,W,X,J,L,k⟩;refine%[_,aw (bp 2 qw (aI A I (ai (nr UQ (by rfl) Q boot_int (ai (aQ bA (aI m I (ay (pv 0) (ai cK))) aL (λ_ _=>rfl)))))))
  (aw (bp 3 qw j_)
  (aw (eO d9 rfl (cq (aI m I (ay (pv 0) (ai cK)))) (bE 4 qw) (au (bp 3 qw (yY (aG (pv 1)) (ai (pv 4))))))
  (aw (oM (i:=5) (own:=[("name",4)]) (te:=Kc K "list" (Bq K) (fL K (cf 1) "places") (e9 (cf 4) fS)) rfl qw.nd rfl rfl (oN rfl rfl rfl rfl) (cq (aI m I (ay (pv 0) (ai cK)))) (nu rfl) (λ_ _ _ _ _=>bE 4 qw) (λ_ _ _ _ _=>cR) (λ_ _ _ _ _=>yY (aG (pv 1)) (ai (pv 4))))
  (au (aF (lD E I (by decide) rfl (ay (pv 0) (ay (pv 2) (ay (pv 3) (ai (pv 5)))))))))))|?_]
 obtain⟨c,dx,la,pa,sa,rfl,h1,h2,h3,h4⟩:=hL.ex;refine%[z,b,x,_,u,F,rfl,hF,R,U,ex,hlen|λF1 H1 nv g1 o=>?_];obtain⟨nl,rfl,Y,a3⟩:=o;have M:H1 nl=some (.lst ((kz::kr).map V.str)):=by have:=g1.sub _ _ Y;rw[<-W];exact this
 have Z:=W3 X;refine%[af.of M,bg (j:=0) rfl,kz,_,rfl,Z.1,Z.2,(kk:Int),F1,rfl,g1.sub|λF2 H2 kv g2 aa=>?_];have G:=g1.trans g2;refine%[z,b,x,_,u,F2,rfl,G.sub,R.mono G.fs,U,ex,hlen|λF3 H3 nv g3 o=>?_];obtain⟨ll,rfl,ao,az⟩:=o;have s:=G.trans g3;have B:=g3.sub _ _ ao;refine%[%[_|af.of B]|iB (K:=K) (a:=ll) (xs:=(picks (z::b) x.2 "LOT").map V.str) (λi σ N=>∃q:Option V,N=H3/\σ=[some u,some (.ref c),some kv,some (Dz (((picks (z::b) x.2 "LOT").take i).foldl (λ_ n=>d6 (lots.map tl) (tl n)) none)),q,aq])
  %[none,rfl|rfl] (λi σ N _ %[_,e|_]=>by rw[e];exact af.of B) ?_ ?_]
 .rintro i d σ N Z ⟨q,rfl,rfl⟩;obtain⟨n,hn,rfl⟩:∃n,(picks (z::b) x.2 "LOT")[i]?=some n/\d=V.str n:=by grind
  obtain⟨j,S,_⟩:=MN (J n (bO hn));have ix:=yW S;have eL:=s.same _ _ h2;refine%[s.same _ _ h1,t.cl,t.nl,lJ _ _ _,.inl %[rfl,_|af.of eL],la,_,_,j,_,rfl,rfl,af.of eL,rfl,mF _,ix.1,(by show(n==n)=true;simp),ix.2|?_];refine%[some (V.str n),rfl|?_];rw[take_snoc hn,Ip,fI,Iq,S];rfl
 .rintro σ N ⟨q,rfl,rfl⟩;rw[aY,eK];refine%[z,b,x,_,u,F3,rfl,s.sub,R.mono s.fs,U,ex,hlen|λF4 H4 nv g4 o=>?_];obtain⟨l4,rfl,ar,a0⟩:=o;have H:=s.trans g4;have C:=g4.sub _ _ ar;refine%[%[_|af.of C]|?_];refine dI (K:=K) (S:=λF v (n:Int)=>v=V.int n) (R:=λv (p:Str×Nat)=>v=V.str p.1/\d6 (places.map tl) (tl p.1)=some p.2) (λp:Str×Nat=>(p.2:Int)) (xs:=(picks (z::b) x.2 "PLACE").zip pl) H.sub (af.of C) ?_ (by cbv) (λ_ _ _ _ _ q=>q) ?_ ?_
  .exact W7 L
  .rintro i v' p F' N hp ⟨rfl,S⟩ g Qk av;have ix:=yW S;have sm:=H.same.trans g.same;have eP:=sm _ _ h3;exact%[sm _ _ h1,t.cl,t.np,kF _ _ _,.inl %[rfl,_|af.of eP],pa,_,_,p.2,_,rfl,rfl,af.of eP,rfl,mF _,ix.1,(by show(p.1==p.1)=true;simp),ix.2|av _ _ F' (ag.refl g.sub) rfl]
  .intro F5 H5 D g5 hD;have O:=H.trans g5;intro d dy ny nd a4;refine%[d,dy,_,_,_,_,rfl,ak|λH6 hy kp=>%[rfl|?_]];have T:=ag.made g5.sub ny nd hy kp;refine k _ _ _ (O.trans T) %[d,dy,_,_,_,rfl,ak,R.mono (O.fs.trans T.fs),aa.mono ((g3.fs.trans (g4.fs.trans g5.fs)).trans T.fs)|?_];have hI:=hD.ints.mono T.fs;have e:((picks (z::b) x.2 "PLACE").zip pl).map (λp:Str×Nat=>(p.2:Int))=pl.map λ(n:Nat)=>(n:Int):=by
    have hl:=bu L;have:((picks (z::b) x.2 "PLACE").zip pl).map (·.2)=pl:=by rw[aec];simp[*]
    conv=>rhs;rw[<-this]
    rw[cC];rfl
   cbv
abbrev DF:Stmt:=inClass (top 41) 0
inductive yZ (C:ae) (vs:List V) (H:Hp) (Q:VK) (E:XK):Prop
 |mk (p dx:ae) (h0:vs=[.ref p]) (h1:H p=some (.ins C dx [])) (h2:∀(H':Hp) (la pa sa:ae),H la=aq->H pa=aq->H sa=aq->la≠pa->la≠sa->pa≠sa->
 H' p=some (.ins C dx (lf (.ref la) (.ref pa) (.ref sa)))->H' la=some (.lst [])->H' pa=some (.lst [])->H' sa=some (.lst [])->(∀b o,H b=some o->b≠p->H' b=some o)->Q .bB H'):yZ C vs H Q E
def W9:aV ["self"] ["self"] (aM DF):=aX
def W_(t:aH K "__init__" "Layout.__init__" DF f y)(T:iI K a):aJ P w K r h aR 1 f y ["self"] (yZ a):=by?
 refine t.go W9 ?_;rintro b b b b H b b b b ⟨p,u,rfl,hp,k⟩;refine%[_,aw (fR (pv 0) (bH e_) rfl) (aw (fR (pv 0) (bH e_) rfl) (au (fR (pv 0) (bH e_) rfl)))|?_];refine%[bM _|λla g=>%[(aB (eZ hp g)).trans hp,T.cl,T.nl,(by show 0<1000;decide)|?_]];have i:p≠la:=eZ hp g;refine%[bM _|λpa d=>%[(aB (eZ ak d)).trans ak,T.cl,T.np,(by show 1<1000;decide)|?_]];have s:p≠pa:=eZ ak d;rw[aB s.symm]at d;have j:la≠pa:=eZ ak d;have m:H pa=aq:=by rw[aB j.symm]at d;exact d
 refine%[bM _|λsa c=>%[(aB (eZ ak c)).trans ak,T.cl,T.ns,(by show 2<1000;decide)|?_]];have n:p≠sa:=eZ ak c;rw[aB n.symm]at c;have q:pa≠sa:=eZ ak c;rw[aB q.symm,aB n.symm]at c;have l:la≠sa:=eZ ak c;rw[aB l.symm]at c;refine k _ la pa sa g m c j l q ak ?_ ?_ ?_ λb o e v=>?_
 .rw[aB i.symm,aB l,aB i.symm,aB j,aB i.symm];exact ak
 all_goals grind [aB,ak]
abbrev DG:Stmt:=inClass (top 41) 1
inductive DH(C:ae)(a:List V)(H:Hp)(Q:VK)(E:XK):Prop
 |mk(z:Str)(lots places:List Str)(bj:List Bool)(v:V)(b:a=[v,.str z])(b:jE C H v lots places bj)(b:Q (.bl (decide (tl z∈lots.map tl)||decide (tl z∈places.map tl))) H)
def W':aV ["self","name"] ["self","name"] (aM DG):=aX
def Xa(d:aH K "has_name" "Layout.has_name" DG f y)(T:iI K a):aJ P w K r h aR 1 f y ["self","name"] (DH a):=by?
 refine d.go W' ?_;rintro n n n n n n n n n ⟨z,lots,places,bj,v,rfl,g,k⟩;refine%[_,au (aF (Jn (i7 pX (pv 1) (aG (pv 0)) rfl) (xy (i7 pX (pv 1) (aG (pv 0)) rfl))))|?_];obtain⟨b,l,la,pa,sa,rfl,c,i,j,m⟩:=g.ex;refine%[c,T.cl,T.nl,lJ _ _ _,la,_,rfl,.inl (af.of i),rfl,mF _|⟨?_⟩];rw[sN];cases e:decide (tl z∈lots.map tl)with
 |true=>
  cbv
 |false=>
  refine bt %[c,T.cl,T.np,kF _ _ _,pa,_,rfl,.inl (af.of j),rfl,mF _|?_]
  grind [sN]
abbrev DI:Stmt:=inClass (top 41) 2
inductive DJ(C:ae)(c:List V)(H:Hp)(Q:VK)(E:XK):Prop
 |mk(z:Str)(a d la:ae)(x y:V)(b:List V)(e:c=[.ref a,.str z])(e:H a=some (.ins C d (lf (.ref la) x y)))(e:H la=some (.lst b))(e:b.length<1000)(e:Q .bB (upd H la (.lst (b++[.str z]))))
def Xb:aV ["self","name"] ["self","name"] (aM DI):=aX
def Xc(e:aH K "add_lot" "Layout.add_lot" DI f y)(T:iI K a):aJ P w K r h aR 1 f y ["self","name"] (DJ a):=by?
 refine e.go Xb ?_;rintro l l l l l l l l l ⟨z,b,i,la,x,c,xs,rfl,g,d,j,k⟩;refine%[_,au (eN (iG (aG (pv 0)) (ai (pv 1))))|?_];refine%[g,T.cl,T.nl,lJ _ _ _,.inl %[rfl,_|af.of d],d,?_|?_]
 .exact eW (by lia)
 .exact k
abbrev DK:Stmt:=inClass (top 41) 3
inductive DL(C:ae)(e:List V)(H:Hp)(Q:VK)(E:XK):Prop
 |mk(z:Str)(b:Bool)(a f pa sa:ae)(x:V)(d c:List V)(h:e=[.ref a,.str z,.bl b])(h:H a=some (.ins C f (lf x (.ref pa) (.ref sa))))(h:pa≠sa)(h:H pa=some (.lst d))(h:H sa=some (.lst c))(h:d.length<1000)(h:c.length<1000)(h:Q .bB (upd (upd H pa (.lst (d++[.str z]))) sa (.lst (c++[.bl b]))))
def Xd:aV ["self","name","silo"] ["self","name","silo"] (aM DK):=aX
def Xe(m:aH K "add_place" "Layout.add_place" DK f y)(T:iI K a):aJ P w K r h aR 1 f y ["self","name","silo"] (DL a):=by?
 refine m.go Xd ?_;rintro t t t t H t t t t ⟨z,b,c,n,pa,sa,x,xs,o,rfl,g,ne,i,p,q,hm,k⟩;refine%[_,aw (eN (iG (aG (pv 0)) (ai (pv 1)))) (au (eN (iG (aG (pv 0)) (ai (pv 2)))))|?_];have j:c≠pa:=eA g i (by intro e;cases e);refine%[g,T.cl,T.np,kF _ _ _,.inl %[rfl,_|af.of i],i,eW (by lia)|?_];have l:(upd H pa (.lst (xs++[.str z]))) c=some (.ins a n (lf x (.ref pa) (.ref sa))):=by rw[aB j];exact g
 have d:(upd H pa (.lst (xs++[.str z]))) sa=some (.lst o):=by grind [aB]
 exact%[l,T.cl,T.ns,yR _ _ _,.inl %[rfl,_|af.of d],d,eW (by lia)|k]
abbrev mH(K:ah)(C:ae)(F:Hp)(v:V)(a:List (List PR)):Prop:=dj (fF K C F) K F v a
def mH.up{H J:Hp}{b:List (List PR)}(h:mH K a H O b)(s:aD H J):mH K a J O b:=dj.mono h s λc c q=>dj.mono q s λc c r=>r.mono s
def MP{N Ξ:Type}{R:N->Ξ->Prop}:∀{b:List N} {a:List Ξ} (i:Nat) {x:N} {y:Ξ},Paired R b a->R x y->Paired R (b.set i x) (a.set i y):=by
 intro c c i c c h r;induction h generalizing i with
 |nil=>exact .nil
 |cons q t h=>
  cases i with
  |zero=>exact .cons r t
  |succ i=>exact .cons q (h i)
abbrev DN:Stmt:=top 68
inductive qx(K:ah)(C:ae)(e:List V)(H:Hp)(Q:VK)(E:XK):Prop
 |mk(a:List (List PR))(i:Nat)(b:List PR)(u v:V)(F:Hp)(f:e=[u,.int i,v])(f:aD F H)(f:mH K C F u a)(f:fF K C F v b)(f:i<a.length)(f:∀c d r,ag F H c d->mH K C c r (a.set i b)->Q r d)
def MQ:aV ["places","place","parts","changed"] ["places","place","parts"] (aM DN):=aX
def Xf(n:aH K "with_place" "with_place" DN f y)(d:r "list"=aq):aJ P w K r h aR 1 f y ["places","place","parts"] (qx K a):=by?
 refine n.go MQ ?_;rintro x x x x x x x x x ⟨o,i,z,u,v,F,rfl,m,⟨l,ws,rfl,p,pr,A⟩,s,B,k⟩;refine%[_,aw (bp 3 MQ (nr uD (by rfl) d boot_list (ai (pv 0))))
  (aw (Jv (pv 2) (Ju (pv 3) (pv 1) set_list)) (au (aF (pv 3))))|?_]
 have e:=m _ _ p;have pl:=bu pr;refine%[l,ws,rfl,.inl (af.of e)|λD t=>?_];have j:jQ ws.length (i:Int)=some i:=by simp_all [jQ]
 refine%[ak,j|?_];rw[xt];have g:=ag.put (o:=.lst (ws.set i v)) m t;refine k _ _ _ g %[D,_,rfl,ak,MP i (cT pr λx b q=>dj.mono q g.fs λx x c=>c.mono g.fs) (dj.mono s g.fs λx x c=>c.mono g.fs)|?_]
 cbv
end
def Xg(n:Nat):QK n=TL.i8 n:=by unfold QK TL.i8;simp[toString]
section
variable{N Ξ:Type}{j n:Nat}{Α:List (List Nat)}{Η:Bool}{κ:List Nat}
def Xh(h:dP κ=some n):QK n=κ:=by have e:tl (⟨κ.toArray⟩)=κ:=rfl;rw[<-e]at h;rw[Xg,<-(MM h).1]
def vj(h:d6 Α κ=some j):Α[j]?=some κ:=by
 unfold d6 at h
 grind
def Xi(h:d6 Α κ=none):κ∉Α:=λm=>by grind [MN]
def Xj{s:cH}(h:t5 s κ=some j):aed s j=κ:=by
 have:=vj h;unfold aed
 cbv
def MR{s:cH}(h:jt s κ=some j):aee s j=κ:=by have:=vj h;rw[eJ]at this;unfold aee;rw[this];rfl
inductive qy{α:Type}(g:α->List Nat)(s:cH):List α->dM->Prop
 |come{k l w t p:α}{j n i:Nat}(a:g k=wd "come")(a:g t=wd "to")(a:dP (g w)=some n)(a:cy (g l)=true)(a:cy (g p)=true)(a:t5 s (g l)=some j)(a:jt s (g p)=some i):qy g s [k,l,w,t,p] (.come j n i)
 |move{k w f p t q:α}{n i j:Nat}(a:g k=wd "move")(a:g f=wd "from")(a:g t=wd "to")(a:dP (g w)=some n)(a:cy (g p)=true)(a:cy (g q)=true)(a:jt s (g p)=some i)(a:jt s (g q)=some j):qy g s [k,w,f,p,t,q] (.move n i j)
 |weigh{k p w:α}{n i:Nat}(a:g k=wd "weigh")(a:dP (g w)=some n)(a:cy (g p)=true)(a:jt s (g p)=some i):qy g s [k,p,w] (.weigh i n)
 |sell{k w f p:α}{n i:Nat}(a:g k=wd "sell")(a:g f=wd "from")(a:dP (g w)=some n)(a:cy (g p)=true)(a:jt s (g p)=some i):qy g s [k,w,f,p] (.sell n i)
 |waste{k w f p:α}{n i:Nat}(a:g k=wd "waste")(a:g f=wd "from")(a:dP (g w)=some n)(a:cy (g p)=true)(a:jt s (g p)=some i):qy g s [k,w,f,p] (.waste n i)
def y3{o:Option Nat}{g:Nat->Nat⊕N}{d:N}(h:(match o with|none=>.inl 1|some w=>g w)=eE d):∃n,o=some n/\g n=.inr d:=by
 cases o
 .cases h
 .exact%[_,rfl|h]
def MS{o:Option Nat}{g:Nat->N}{d:N}(h:(if Η=false then .inl 1 else match o with|some p=>.inr (g p)|none=>.inl 3)=eE (α:=Nat) d):Η=true/\∃n,o=some n/\g n=d:=by
 cases Η
 .cases h
 cases o
 .cases h
 .cases h;exact%[rfl,_,rfl|rfl]
def MT{o q:Option Nat}{g:Nat->Nat->N}{d:N}(h:(if Η=false then .inl 1 else match o,q with|some p,some q=>.inr (g p q)|_,_=>.inl 3)=eE (α:=Nat) d):Η=true/\∃n m,o=some n/\q=some m/\g n m=d:=by
 cases Η
 .cases h
 cases o
 .cases h
 cases q
 .cases h
 .cases h;exact%[rfl,_,_,rfl,rfl|rfl]
def y4{c:Prop}[Decidable c]{x:Nat⊕N}{d:N}(h:(if c then x else .inl 1)=.inr d):c/\x=.inr d:=by
 by_cases e:c
 .rw[aS e]at h;exact%[e|h]
 .rw[aE e]at h;cases h
def MU{g:N->List Nat}{s:cH}{ws:List N}{d:dM}(h:dW s (ws.map g)=.inr d):qy g s ws d:=by?
 rcases ws with _|⟨k,_|⟨a,_|⟨b,_|⟨c,_|⟨e,_|⟨f,_|⟨g,r⟩⟩⟩⟩⟩⟩⟩
 .cases h
 .cases h
 .cases h
 .obtain⟨k,h⟩:=y4 h;obtain⟨n,w,h⟩:=y3 h;obtain⟨x,i,p,rfl⟩:=MS h;exact .weigh k w x p
 .obtain⟨⟨m,l⟩,h⟩:=y4 h;obtain⟨n,w,h⟩:=y3 h;obtain⟨x,i,p,rfl⟩:=MS h;by_cases e:g k=wd "sell"
  .rw[aS e];exact .sell e l w x p
  .rw[aE e];exact .waste (m.resolve_left e) l w x p
 .obtain⟨⟨m,l⟩,h⟩:=y4 h;obtain⟨n,w,h⟩:=y3 h;obtain⟨x,i,j,p,q,rfl⟩:=MT h;obtain⟨x,y⟩:=tW.mp x;exact .come m l w x y p q
 .obtain⟨⟨m,l,o⟩,h⟩:=y4 h;obtain⟨n,w,h⟩:=y3 h;obtain⟨x,i,j,p,q,rfl⟩:=MT h;obtain⟨x,y⟩:=tW.mp x;exact .move m l o w x y p q
 .cases h
def MV{s:cH}{d:dM}(h:dW s Α=.inr d):qy (λx=>x) s Α d:=MU (by rw[Ax];exact h)
theorem MW{s:cH}{d:dM}(h:dW s Α=.inr d):fQ s d=Α:=by?
 replace h:=MV h;obtain⟨rfl,rfl,w,a,a,l,p⟩|⟨rfl,rfl,rfl,w,a,a,p,q⟩|⟨rfl,w,a,p⟩|⟨rfl,rfl,w,a,p⟩|⟨rfl,rfl,w,a,p⟩:=h<;>rw[<-Xh w,<-MR p]
 .rw[<-Xj l];rfl
 .rw[<-MR q];rfl
 all_goals rfl
def y6(a:List Nat):gz a (wd "KG")=(dP a).isSome:=by rfl
def Xk(a:List Nat):gz a (wd "LOT")=cy a:=by rfl
def y8(a:List Nat):gz a (wd "PLACE")=cy a:=by rfl
def sP(c:κ≠wd "KG")(d:κ≠wd "LOT")(e:κ≠wd "PLACE")(a:List Nat):gz a κ=decide (a=κ):=by simp_all [gz]
def Xl(a:List Nat):gz a (wd "come")=decide (a=wd "come"):=sP (by decide+kernel) (by decide+kernel) (by decide+kernel) a
def Xm(a:List Nat):gz a (wd "move")=decide (a=wd "move"):=sP (by decide+kernel) (by decide+kernel) (by decide+kernel) a
def Xn(a:List Nat):gz a (wd "weigh")=decide (a=wd "weigh"):=sP (by decide+kernel) (by decide+kernel) (by decide+kernel) a
def MX(a:List Nat):gz a (wd "to")=decide (a=wd "to"):=sP (by decide+kernel) (by decide+kernel) (by decide+kernel) a
def MY(a:List Nat):gz a (wd "from")=decide (a=wd "from"):=sP (by decide+kernel) (by decide+kernel) (by decide+kernel) a
def Xo:iH (wd "come")=some [wd "come",wd "LOT",wd "KG",wd "to",wd "PLACE"]:=by rfl
def Xp:iH (wd "move")=some [wd "move",wd "KG",wd "from",wd "PLACE",wd "to",wd "PLACE"]:=by rfl
def Xq:iH (wd "weigh")=some [wd "weigh",wd "PLACE",wd "KG"]:=by rfl
def Xr:iH (wd "sell")=some [wd "sell",wd "KG",wd "from",wd "PLACE"]:=by rfl
def Xs:iH (wd "waste")=some [wd "waste",wd "KG",wd "from",wd "PLACE"]:=by rfl
def Xt{b y:List Nat}{f:List (List Nat)}(h:b=y):pick (κ::Α) (b::f) y=κ::pick Α f y:=by unfold pick;simp[h]
def qA{b y:List Nat}{f:List (List Nat)}(h:b≠y):pick (κ::Α) (b::f) y=pick Α f y:=by unfold pick;simp[h]
def MZ:pick [] [] κ=[]:=rfl
def Xu(h:d6 Α κ=some j):decide (κ∈Α)=true:=bT (bO (vj h))
def Xv(h:d6 Α κ=none):decide (κ∈Α)=false:=bK (Xi h)
def nH(l:List (List Nat))(x:List Nat):(∃j,d6 l x=some j/\decide (x∈l)=true)\/(d6 l x=none/\decide (x∈l)=false):=by
 cases h:d6 l x with
 |none=>exact .inr %[rfl|Xv h]
 |some j=>exact .inl %[j,rfl|Xu h]
def lK(lots places ws:List (List Nat)):Nat⊕dM->Prop
 |.inl e=>ig lots places ws=(e:Int)/\e≠0
 |.inr _=>ig lots places ws=0
theorem j0{places ws:List (List Nat)}(h:fh ws=false):lK Α places ws (.inl 1):=by
 refine%[?_|by decide]
 simp_all [ig]
def Xw(s:cH)(l w to p:List Nat):lK s.lots (s.places.map λp=>p.1) [wd "come",l,w,to,p] (dW s [wd "come",l,w,to,p]):=by?
 have n:fh [wd "come",l,w,to,p]=(cy l&&((dP w).isSome&&(decide (to=wd "to")&&cy p))):=by simp_all [fh,Xo,Xl,Xk,y6,MX,y8]
 have e:pick [wd "come",l,w,to,p] (formOf [wd "come",l,w,to,p]) (wd "LOT")=[l]:=by rfl
 have f:pick [wd "come",l,w,to,p] (formOf [wd "come",l,w,to,p]) (wd "PLACE")=[p]:=by rfl
 unfold dW;dsimp only;by_cases g:to=wd "to"
 .rw[aS %[rfl|g]];cases m:dP w with
  |none=>simp_all [j0]
  |some k=>
   dsimp only;by_cases h:(cy l&&cy p)=false
   .simp_all [j0]
   .rw[aE h];have ok:fh [wd "come",l,w,to,p]=true:=by cbv
    unfold t5 jt;rcases nH s.lots l with⟨j,a,b⟩|⟨a,b⟩<;>rcases nH (s.places.map λp=>p.1) p with⟨i,c,d⟩|⟨c,d⟩<;>rw[a,c]<;>dsimp only[lK]<;>unfold ig<;>rw[aE (by rw[ok];simp),e,f]<;>simp only[o7,b,d]<;>simp
 simp_all [j0]
def Xx(s:cH)(w a p to q:List Nat):lK s.lots (s.places.map λp=>p.1) [wd "move",w,a,p,to,q] (dW s [wd "move",w,a,p,to,q]):=by?
 have n:fh [wd "move",w,a,p,to,q]=((dP w).isSome&&(decide (a=wd "from")&&(cy p&&(decide (to=wd "to")&&cy q)))):=by simp_all [fh,Xp,Xm,MY,y6,MX,y8]
 have f:pick [wd "move",w,a,p,to,q] (formOf [wd "move",w,a,p,to,q]) (wd "LOT")=[]:=by rfl
 have g:pick [wd "move",w,a,p,to,q] (formOf [wd "move",w,a,p,to,q]) (wd "PLACE")=[p,q]:=by rfl
 unfold dW;dsimp only;by_cases h:a=wd "from"/\to=wd "to"
 .rw[aS %[rfl|h]];cases m:dP w with
  |none=>simp_all [j0]
  |some k=>
   dsimp only;by_cases l:(cy p&&cy q)=false
   .simp_all [j0]
   .rw[aE l];have ok:fh [wd "move",w,a,p,to,q]=true:=by cbv
    unfold jt;rcases nH (s.places.map λp=>p.1) p with⟨j,b,c⟩|⟨b,c⟩<;>rcases nH (s.places.map λp=>p.1) q with⟨i,d,e⟩|⟨d,e⟩<;>rw[b,d]<;>dsimp only[lK]<;>unfold ig<;>rw[aE (by rw[ok];simp),f,g]<;>simp only[o7,c,e]<;>simp
 grind [j0]
def Xy(s:cH)(p w:List Nat):lK s.lots (s.places.map λp=>p.1) [wd "weigh",p,w] (dW s [wd "weigh",p,w]):=by?
 have g:fh [wd "weigh",p,w]=(cy p&&(dP w).isSome):=by simp[fh,Xq,aef,aeg,Xn,y6,y8]
 have c:pick [wd "weigh",p,w] (formOf [wd "weigh",p,w]) (wd "LOT")=[]:=by rfl
 have d:pick [wd "weigh",p,w] (formOf [wd "weigh",p,w]) (wd "PLACE")=[p]:=by rfl
 unfold dW;dsimp only;rw[aS rfl];cases f:dP w with
 |none=>simp_all [j0]
 |some k=>
  dsimp only;by_cases e:cy p=false
  .simp_all [j0]
  .rw[aE e];have ok:fh [wd "weigh",p,w]=true:=by simp[*]
   unfold jt;rcases nH (s.places.map λp=>p.1) p with⟨j,a,b⟩|⟨a,b⟩<;>rw[a]<;>dsimp only[lK]<;>unfold ig<;>rw[aE (by rw[ok];simp),c,d]<;>simp only[o7,b]<;>simp
def Xz(s:cH)(k w a p:List Nat)(b:k=wd "sell"\/k=wd "waste"):lK s.lots (s.places.map λp=>p.1) [k,w,a,p] (dW s [k,w,a,p]):=by?
 have c:iH k=some [k,wd "KG",wd "from",wd "PLACE"]:=by
  rcases b with q|q<;>rw[q]
  .exact Xr
  .exact Xs
 have d:k≠wd "KG"/\k≠wd "LOT"/\k≠wd "PLACE":=by rcases b with q|q<;>rw[q]<;>decide+kernel
 have g:fh [k,w,a,p]=((dP w).isSome&&(decide (a=wd "from")&&cy p)):=by unfold fh;dsimp only;rw[c];dsimp only;simp only[aef,aeg,sP d.1 d.2.1 d.2.2,y6,MY,y8];simp
 have n:pick [k,w,a,p] (formOf [k,w,a,p]) (wd "LOT")=[]:=by show pick _ ((iH k).getD []) _=_;rw[c];dsimp only[aeh];rw[qA d.2.1,qA (by decide+kernel),qA (by decide+kernel),qA (by decide+kernel),MZ]
 have o:pick [k,w,a,p] (formOf [k,w,a,p]) (wd "PLACE")=[p]:=by show pick _ ((iH k).getD []) _=_;rw[c];dsimp only[aeh];rw[qA d.2.2,qA (by decide+kernel),qA (by decide+kernel),Xt rfl,MZ]
 unfold dW;dsimp only;by_cases e:a=wd "from"
 .rw[aS %[b|e]];cases i:dP w with
  |none=>exact j0 (by rw[g,i];simp)
  |some r=>
   dsimp only;by_cases f:cy p=false
   .rw[aS f];exact j0 (by rw[g,f];simp)
   .rw[aE f];have ok:fh [k,w,a,p]=true:=by
     have h:cy p=true:=by simpa using f
     rw[g,i,h,bT e];rfl
    unfold jt;rcases nH (s.places.map λp=>p.1) p with⟨j,l,m⟩|⟨l,m⟩<;>rw[l]<;>dsimp only[lK]<;>unfold ig<;>rw[aE (by rw[ok];simp),n,o]<;>simp only[o7,List.all_nil,m]<;>simp
 .rw[aE (λq=>e q.2)];exact j0 (by rw[g,bK e];simp)
def XA(h:iH κ=some Α):(κ=wd "come"/\Α.length=5)\/(κ=wd "move"/\Α.length=6)\/(κ=wd "weigh"/\Α.length=3)\/((κ=wd "sell"\/κ=wd "waste")/\Α.length=4):=by?
 unfold iH at h;split at h
 .cases h;exact .inl %[by assumption|rfl]
 .split at h
  .cases h;exact .inr (.inl %[by assumption|rfl])
  .split at h
   .cases h;exact .inr (.inr (.inl %[by assumption|rfl]))
   .split at h
    .cases h;exact .inr (.inr (.inr %[.inl (by assumption)|rfl]))
    .split at h
     .cases h;exact .inr (.inr (.inr %[.inr (by assumption)|rfl]))
     .cases h
def qB(h:¬fh (κ::Α)=false):(κ=wd "come"/\(κ::Α).length=5)\/(κ=wd "move"/\(κ::Α).length=6)\/(κ=wd "weigh"/\(κ::Α).length=3)\/((κ=wd "sell"\/κ=wd "waste")/\(κ::Α).length=4):=by
 have h:fh (κ::Α)=true:=by simpa using h
 unfold fh at h;dsimp only at h;split at h
 .cases h
 .rename_i f e;have a:=of_decide_eq_true (tW.mp h).1;rw[a];exact XA e
def XB(s:cH)(ws:List (List Nat)):lK s.lots (s.places.map λp=>p.1) ws (dW s ws):=by?
 have g:∀{k r},dW s (k::r)=.inl 1->(¬fh (k::r)=false->False)->lK s.lots (s.places.map λp=>p.1) (k::r) (dW s (k::r)):=λe h=>by rw[e];exact j0 (Decidable.byContradiction h)
 rcases ws with _|⟨k,_|⟨a,_|⟨b,_|⟨c,_|⟨d,_|⟨e,_|⟨f,r⟩⟩⟩⟩⟩⟩⟩
 .exact j0 rfl
 .exact g rfl λq=>by simpa using qB q
 .exact g rfl λq=>by simpa using qB q
 .by_cases h:k=wd "weigh"
  .subst h;exact Xy s a b
  .exact g (aE h) λq=>by simpa[h]using qB q
 .by_cases h:k=wd "sell"\/k=wd "waste"
  .exact Xz s k a b c h
  .exact g (aE λq=>h q.1) λq=>by simpa[h]using qB q
 .by_cases h:k=wd "come"
  .subst h;exact Xw s a b c d
  .exact g (aE λq=>h q.1) λq=>by simpa[h]using qB q
 .by_cases h:k=wd "move"
  .subst h;exact Xx s a b c d e
  .exact g (aE λq=>h q.1) λq=>by simpa[h]using qB q
 .exact g rfl λq=>by simpa using qB q
def ij(lots places:List (List Nat)):List (List (List Nat))->Int
 |[]=>0
 |ws::r=>if ig lots places ws=0 then ij lots places r else ig lots places ws
def XC(s:cH)(a:List (List (List Nat))):Nat⊕List dM->Prop
 |.inl e=>ij s.lots (s.places.map λp=>p.1) a=(e:Int)/\e≠0
 |.inr l=>ij s.lots (s.places.map λp=>p.1) a=0/\a.map (dW s)=l.map .inr/\l.map (fQ s)=a
theorem M0(s:cH):∀told,XC s told (t6 s told)
 |[]=>%[rfl,rfl|rfl]
 |ws::r=>by?
  have f:=XB s ws;have g:=M0 s r;unfold t6;cases hd:dW s ws with
  |inl e=>
   rw[hd]at f;obtain⟨a,b⟩:=f;refine%[?_|b]
   simp_all [ij]
  |inr d=>
   rw[hd]at f;have f:ig _ _ _=0:=f;cases hw:t6 s r with
   |inl e=>
    rw[hw]at g;obtain⟨a,b⟩:=g;refine%[?_|b]
    simp_all [ij]
   |inr l=>
    rw[hw]at g;obtain⟨a,b,c⟩:=g;refine%[?_,?_|?_]
    all_goals grind [ij,MW]
theorem y9(f:N->Ξ):∀l:List N,(l.map f).Nodup->l.Nodup
 |[],_=>rm
 |a::l,h=>by rw[cx,lV]at h;exact lV.mpr %[λm=>h.1 (g_ m)|y9 f l h.2]
def XD:∀l:List Ξ,l.Nodup->(l.map (eE (α:=N))).Nodup
 |[],_=>rm
 |a::l,h=>by grind
theorem M4:∀l:List dM,Ay l=true↔l.Nodup
 |[]=>by simp[Ay]
 |d::r=>by unfold Ay;rw[o8,M4 r];simp
theorem M7{s:cH}{a:List (List (List Nat))}{l:List dM}(b:a.map (dW s)=l.map .inr)(c:l.map (fQ s)=a):(Ay l=false↔¬a.Nodup):=by?
 rw[<-Bool.not_eq_true,M4];constructor
 .intro n t;exact n (y9 (fQ s) l (by rw[c];exact t))
 .intro n t;exact n (y9 (dW s) a (by rw[b];exact XD l t))
def jF(x:Nat):Nat->Nat
 |0=>x
 |n+1=>5*jF x n+1
def qC:Nat->Nat
 |0=>0
 |n+1=>5*qC n+1
theorem DO(x:Nat):∀n,jF x n=5^n*x+qC n
 |0=>by simp[jF,qC]
 |n+1=>by show 5*jF x n+1=5^(n+1)*x+(5*qC n+1);rw[DO x n,wZ,Nat.mul_add,<-Nat.mul_assoc,Nat.mul_comm 5 _];rfl
theorem DP(x:Nat)(m:Nat):∀n,jF x (m+n)=jF (jF x m) n
 |0=>rfl
 |n+1=>by show 5*jF x (m+n)+1=5*jF _ n+1;rw[DP x m n]
def XE(n:Nat):qC (n+n)=qC n*(5^n+1):=by
 have a:=DP 0 n n
 grind [DO]
def M8(k:Nat):∃a,5^(2^k)=1+a*2^(k+2):=by?
 induction k with
 |zero=>exact%[1|by exact Nat.succ_eq_one_add 4]
 |succ k b=>
  obtain⟨a,c⟩:=b;have e:(5)^2^(k+1)=5^2^k*5^2^k:=by rw[wZ,Nat.mul_two,Ih]
  refine%[a+a*a*2^(k+1)|?_]
  grind
def XF(k:Nat):∃b,qC (2^k)=2^k+b*2^(k+1):=by?
 induction k with
 |zero=>exact%[0|by rfl]
 |succ k c=>
  obtain⟨b,g⟩:=c;obtain⟨a,f⟩:=M8 k;have e:(2)^(k+1)=2^k+2^k:=by exact Nat.two_pow_succ k
  have d:=XE (2^k);rw[f]at d;have h:(2)^(k+1)=2*2^k:=by exact Nat.pow_succ'
  have i:(2)^(k+2)=4*2^k:=by grind
  refine%[b+a*2^k+2*a*b*2^k|?_]
  (cbv;lia)
def M9(h:j<n*2):j%n=if j<n then j else j-n:=by
 split
 .simp_all [t7]
 .rw[aej (by cbv),t7 (by omega)]
theorem XG{d:Nat}(f:0<n)(b:j<n*2)(c:d<n*2)(e:j%n=d%n)(a:¬j=d):(j+n)%(n*2)=d:=by
 rw[M9 b,M9 c]at e;by_cases g:j<n
 .grind [t7]
 .rw[aej (by lia),t7 (by omega)]
  grind
end
def XH(k:Nat):∀(x y:Nat),∃n,n<2^k/\jF x n%2^k=y%2^k:=by?
 induction k with
 |zero=>(cbv;lia)
 |succ k d=>
  intro x y;obtain⟨n,j,i⟩:=d x y;have c:(2)^(k+1)=2^k*2:=wZ ..;by_cases h:jF x n%2^(k+1)=y%2^(k+1)
  .grind
  .refine%[n+2^k,by(cbv;lia)|?_];obtain⟨a,f⟩:=M8 k;obtain⟨b,g⟩:=XF k;rw[DP,DO,f,g];have l:(2)^(k+2)=2^(k+1)*2:=wZ ..;generalize m:jF x n=z at i h⊢;have e:(1+a*2^(k+2))*z+(2^k+b*2^(k+1))=z+2^k+2^(k+1)*(a*2*z+b):=by grind
   rw[e,Nat.add_mul_mod_self_left];have o:=aek z (%[2|c]);have p:=aek y (%[2|c]);have q:=tV z (show 0<2^(k+1)by exact ael (k+1));have ly:=tV y (show 0<2^(k+1)by exact ael (k+1))
   grind [Nat.add_mod,t7,XG]
section
open PySem
open PySem.SetTable (below insertAt has runEnd leap turns bits)
theorem M_:∀(l:List Nat),l.Pairwise (· <·)->∀j,∃c,c<=l.length/\∀i (h:i<l.length),l[i]<j↔i<c
 |[],_,j=>%[0,bx _|λi h=>aT h (by simp)]
 |a::r,hp,j=>by?
  have%[e|f]:=aen.mp hp;by_cases d:a<j
  .obtain⟨c,g,k⟩:=M_ r f j;refine%[c+1,by simpa using g|λi h=>?_];cases i with
   |zero=>simpa using d
   |succ i=>
    have:=k i (by simpa using h);simpa using this
  .refine%[0,bM _|λi h=>?_];constructor
   .intro b;exfalso;cases i with
    |zero=>exact d (by simpa using b)
    |succ i=>
     have m:i<r.length:=by simpa using h
     have:=e r[i] (wL m);have:r[i]<j:=by simpa using b
     lia
   .intro b;cbv
section
variable{j n:Nat}
theorem DQ{f:Array Nat}(k:∀i (h:i<f.size),f[i]<j↔i<n):∀(a d b:Nat),b-d<=a->d<=n->n<=b->b<=f.size->SetTable.below.go f j a d b=n
 |0,d,b,s,o,p,r=>by?
  show d=n
  lia
 |a+1,d,b,s,o,p,r=>by?
  unfold SetTable.below.go;by_cases g:d<b
  .rw[aS g];have m:(d+b)/2<f.size:=by lia
   have e:f.getD ((d+b)/2) j=f[(d+b)/2]:=by simp[m]
   dsimp only;rw[e];by_cases l:f[(d+b)/2]<j
   .rw[aS l];have:=(k _ m).mp l;exact DQ k a _ _ (by(cbv;lia)) (by trivial) p r
   .rw[aE l];have:¬(d+b)/2<n:=λq=>l ((k _ m).mpr q)
    exact DQ k a _ _ (by(cbv;lia)) o (by exact og this) (by exact dZ m)
  .rw[aE g];lia
def y_(a:Array Nat)(d:a.toList.Pairwise (· <·))(j:Nat):below a j<=a.size/\∀i (h:i<a.size),a[i]<j↔i<below a j:=by?
 obtain⟨c,f,g⟩:=M_ a.toList d j;have b:∀i (h:i<a.size),a[i]<j↔i<c:=λi h=>by cbv
 have e:below a j=c:=DQ b a.size 0 a.size (by simp) (bM _) (by simpa using f) (bx _)
 cbv
def XI{b:Array Nat}(e:b.toList.Pairwise (· <·))(h:n<b.size):below b b[n]=n:=by?
 obtain⟨j,f⟩:=y_ b e b[n];have a:=f n h;by_cases d:below b b[n]<n
 .exfalso;have g:below b b[n]<b.size:=by exact Nat.lt_trans d h
  have c:¬b[below b _]<b[n]:=λq=>by cbv
  have p:=aep.mp e _ n (by simpa using g) (by simpa using h) d;trivial
 .lia
def vk{t:SetTable}(a:t.place.toList.Pairwise (· <·))(h:n<t.place.size):t.slot t.place[n]=.live n:=by
 unfold SetTable.slot
 simp_all [XI]
def vm{t:SetTable}(hd:t.dummies=#[])(h:j∉t.place.toList):t.slot j=.empty:=by
 unfold SetTable.slot;rw[aE]
 .unfold SetTable.has
  cbv
 grind
def zc{t:SetTable}(h:j∈t.place.toList):∃i,∃a:i<t.place.size,t.place[i]=j:=by obtain⟨i,a,e⟩:=QL h;exact%[i,by simpa using a|by simpa using e]
theorem vn{N:Type}(a:Array N)(p:Nat)(x:N)(h:p<=a.size):(insertAt a p x).toList=a.toList.take p++x::a.toList.drop p:=by rw[SetTable.toList_insertAt]
def XJ{c:Array Nat}(l:c.toList.Pairwise (· <·))(h:j∉c.toList):(insertAt c (below c j) j).toList.Pairwise (· <·):=by?
 obtain⟨m,g⟩:=y_ c l j;rw[vn c _ j m];have r:(c.toList.take (below c j)++c.toList.drop (below c j)).Pairwise (· <·):=by cbv
 obtain⟨n,o,p⟩:=aeq.mp r;refine aeq.mpr %[n,aen.mpr %[λb d=>?_|o]|λa k b d=>?_]
 .obtain⟨i,f,e⟩:=QL d;rw[List.getElem_drop]at e;rw[<-e];exact Nat.lt_of_le_of_ne (og λq=>Nat.not_lt.mpr (wW _ _) ((g _ (Nat.add_lt_of_lt_sub' (q0▸f))).mp q)) λz=>h (by rw[z];exact wL _)
 .rcases cU.mp d with rfl|d
  .obtain⟨i,f,e⟩:=QL k;rw[List.getElem_take]at e;rw[jK]at f;rw[<-e];exact(g i (fz f (Nat.min_le_right ..))).mpr (fz f (Nat.min_le_left ..))
  .exact p a k b d
end
end
section
open PySem
open PySem.SetTable (below insertAt has runEnd leap turns bits Probe)
def path(t:SetTable)(p:Probe):Nat->Probe
 |0=>p
 |n+1=>t.advance (path t p n)
theorem nJ(t:SetTable)(p:Probe)(m:Nat):∀n,path t p (m+n)=path t (path t p m) n
 |0=>rfl
 |n+1=>by show t.advance (path t p (m+n))=t.advance _;rw[nJ t p m n]
def XM{t a:SetTable}(h:t.mask=a.mask)(p:Probe):t.advance p=a.advance p:=by unfold AA;rw[h]
theorem DR{t t':SetTable}(h:t.mask=t'.mask)(p:Probe):∀n,path t p n=path t' p n
 |0=>rfl
 |n+1=>by show t.advance _=t'.advance _;rw[DR h p n,XM h]
def M'(t:SetTable)(p:Probe):(t.advance p).dummy=p.dummy:=by
 unfold AA;split
 .rfl
 .rfl
theorem Na(t:SetTable)(p:Probe):∀n,(path t p n).dummy=p.dummy
 |0=>rfl
 |n+1=>by show(t.advance _).dummy=_;rw[M',Na t p n]
def lp(t:SetTable)(p:Probe):Probe:=path t p (p.more+1)
theorem zd(t:SetTable):∀(m:Nat) (p:Probe),m<=p.more->path t p m={p with j:=p.j+m,more:=p.more-m}
 |0,p,_=>by cases p;rfl
 |m+1,p,h=>by
  show t.advance _=_;rw[zd t m p (by exact dZ h)];unfold AA
  grind
def vo(t:SetTable)(p:Probe):lp t p={j:=(p.i*5+1+p.perturb/32)%(t.mask+1),more:=runEnd t.mask ((p.i*5+1+p.perturb/32)%(t.mask+1))-(p.i*5+1+p.perturb/32)%(t.mask+1),i:=(p.i*5+1+p.perturb/32)%(t.mask+1),perturb:=p.perturb/32,dummy:=p.dummy}:=by show t.advance _=_;rw[zd t p.more p (bx _)];unfold AA leap;simp
def Nb(a i:Nat):runEnd a i-i<=9:=by unfold runEnd;split<;>simp
section
variable{j n:Nat}
theorem Nc(h:j<=n):runEnd n j<=n:=by unfold runEnd;split<;>omega
def runs(t:SetTable)(p:Probe):Nat->Probe
 |0=>p
 |n+1=>lp t (runs t p n)
theorem XN(t:SetTable)(p:Probe)(h:p.more<=9):∀n,(runs t p n).more<=9
 |0=>h
 |n+1=>by show(lp t _).more<=9;rw[vo];exact Nb _ _
theorem Nd(t:SetTable)(p:Probe)(h:p.more<=9):∀n,∃k,k<=10*n/\runs t p n=path t p k
 |0=>%[0,by exact Nat.le_mul_self 0|rfl]
 |n+1=>by obtain⟨k,a,e⟩:=Nd t p h n;refine%[k+((runs t p n).more+1),by grind [XN]|?_];rw[nJ,<-e];rfl
theorem Nf(t:SetTable)(p:Probe):∀n,(runs t p n).perturb=p.perturb/32^n
 |0=>by show p.perturb=_;simp
 |n+1=>by show(lp t _).perturb=_;rw[vo,Nf t p n,Nat.div_div_eq_div_mul,wZ]
theorem XO{p:Probe}(h:p.perturb<2^64)(a:13<=n):p.perturb/32^n=0:=by
 refine Nat.div_eq_of_lt (fz h ?_)
 calc (2)^64<=32^13:=by simp
  _<=32^n:=gj (by decide) a
theorem Ng(t:SetTable)(p:Probe)(h:p.perturb<2^64):∀n,(runs t p (12+n)).i%(t.mask+1)=jF (runs t p 12).i n%(t.mask+1)
 |0=>rfl
 |n+1=>by?
  show(lp t (runs t p (12+n))).i%_=(5*jF _ n+1)%_;have hp:(runs t p (12+n)).perturb/32=0:=by grind [Nf,XO]
  rw[vo,hp];have a:=Ng t p h n
  grind [Nat.mod_mod,Nat.add_mod,Nat.mul_mod]
def XQ(t:SetTable)(p:Probe)(n:Nat):(runs t p (n+1)).j=(runs t p (n+1)).i/\(runs t p (n+1)).i<=t.mask:=by show(lp t _).j=(lp t _).i/\(lp t _).i<=t.mask;rw[vo];exact%[rfl|oj (tV _ (QN _))]
def Nh{t:SetTable}(c:t.mask+1=2^n){p:Probe}(i:p.more<=9)(hp:p.perturb<2^64)(h:j<=t.mask):∃r,r<t.mask+13/\1<=r/\(runs t p r).i=j/\(runs t p r).j=j:=by?
 obtain⟨a,d,b⟩:=XH n _ j;rw[<-c]at d b;have o:=Ng t p hp a;rw[b,t7 (by exact w8 h:j<t.mask+1)]at o;have f:=XQ t p (11+a);have g:11+a+1=12+a:=by exact kR (aer 11 a)
 rw[g]at f;rw[t7 (by lia)]at o
 grind
def XR{t:SetTable}(c:t.mask+1=2^n){p:Probe}(b:p.more<=9)(hp:p.perturb<2^64)(g:j<=t.mask):∃a,a<10*turns t.mask/\(path t p a).j=j:=by
 obtain⟨r,h,e,e,d⟩:=Nh c b hp g;obtain⟨a,i,f⟩:=Nd t p b r;refine%[a,?_|by rw[<-f];exact d];unfold turns
 lia
end
def Ni(t:SetTable)(h:Int):(t.probeStart h).more<=9:=by exact Nb _ _
def XS(h:Int):bits h<2^64:=by
 unfold bits
 lia
def Nj(t:SetTable)(h:Int):(t.probeStart h).perturb<2^64:=XS h
def sQ(t:SetTable)(a:Nat->Int)(h:Int)(q:Probe):Prop:=t.slot q.j=.empty\/∃i,t.slot q.j=.live i/\a i=h
def sR(t:SetTable)(d:Option Nat)(q:Probe):Option SetTable.Met:=match t.slot q.j with
 |.live i=>some (.candidate q.j i (t.advance q))
 |_=>some (.empty q.j d)
theorem DS{t:SetTable}{hashAt:Nat->Int}{h:Int}(hd:∀j,t.slot j≠.dummy):∀(n a:Nat) (p:Probe),n<a->(∀m,m<n->¬sQ t hashAt h (path t p m))->sQ t hashAt h (path t p n)->
  QO t hashAt h a p=sR t p.dummy (path t p n)
 |n,0,p,hf,_,_=>by? cbv
 |0,a+1,p,hf,_,b=>by?
  unfold QO;show _=sR t p.dummy p;unfold sR;rcases b with e|⟨i,e,k⟩
  .have c:t.slot p.j=.empty:=e;rw[c]
  .have c:t.slot p.j=.live i:=e
   cbv
 |n+1,a+1,p,hf,d,b=>by?
  unfold QO;have f:=d 0 (by exact Nat.zero_lt_succ n);have e:∀m,path t p _=path t (t.advance p) m:=λm=>by have:=nJ t p 1 m;rw[wX]at this;exact this
  have l:=DS hd n a _ (by cbv) (λm g q=>d (m+1) (by exact aes g 1) (by rw[e m];exact q)) (by rw[<-e n];exact b);cases q:t.slot p.j with
  |empty=>exact aT (.inl q) f
  |dummy=>exact aT q (hd _)
  |live i=>
   have ne:=λz=>f (.inr %[i,q|z])
   simp_all [M']
end
section
open PySem
open PySem.SetTable (below insertAt has runEnd leap turns bits Probe)
theorem oT{N:Type}[DecidableEq N]:∀(l m:List N),l.Nodup->(∀x∈l,x∈m)->l.length<=m.length
 |[],m,_,_=>bM _
 |a::l,m,c,d=>by
  obtain⟨f,g⟩:=lV.mp c;have h:=oT l (m.erase a) g λx b=>(List.mem_erase_of_ne (λe=>f (by rw[<-e];exact b))).mpr (d x (bG _ b))
  grind
def Nk{P:Nat->Prop}[DecidablePred P]:∀(n:Nat),P n->∃m,m<=n/\P m/\∀k,k<m->¬P k:=by?
 intro n;induction n using Qg with
 |_ n d=>
  intro h;by_cases q:∃k,k<n/\P k
  .obtain⟨k,c,pk⟩:=q;obtain⟨m,a,b⟩:=d k c pk;exact%[m,bq a (gC c)|b]
  .exact%[n,bx _,h|λk c pk=>q %[k,c|pk]]
structure Tab(t:SetTable)(a:List Int):Prop where
 pow:∃k,3<=k/\t.mask+1=2^k
 rise:t.place.toList.Pairwise (· <·)
 lL:t.dummies=#[]
 len:t.place.size=a.length
 vp:∀j∈t.place.toList,j<=t.mask
 reach:∀i (b:i<t.place.size) h,a[i]?=some h->∃n,(path t (t.probeStart h) n).j=t.place[i]/\∀m,m<n->(path t (t.probeStart h) m).j∈t.place.toList
section
variable{U:List Int}
def Tab.DT{t:SetTable}(T:Tab t U)(j:Nat):t.slot j≠.dummy:=by
 by_cases h:j∈t.place.toList
 .obtain⟨i,a,e⟩:=zc h;rw[<-e,vk T.rise a];intro q;cases q
 .rw[vm T.lL h];intro q;cases q
theorem Tab.live{j n:Nat}{t:SetTable}(T:Tab t U)(h:t.slot j=.live n):∃c:n<t.place.size,t.place[n]=j:=by
 by_cases b:j∈t.place.toList
 .obtain⟨d,a,e⟩:=zc b;have:=vk T.rise a
  cbv
 .rw[vm T.lL b]at h;cases h
def Tab.free{t:SetTable}(T:Tab t U)(g:U.length<=t.mask)(h:Int):∃n,n<10*turns t.mask/\(path t (t.probeStart h) n).j∉t.place.toList/\∀m,m<n->(path t (t.probeStart h) m).j∈t.place.toList:=by?
 have ex:∃e,e<=t.mask/\e∉t.place.toList:=by
  by_cases q:∃e,e<=t.mask/\e∉t.place.toList
  .exact q
  .exfalso;have all:∀x∈bV (t.mask+1),x∈t.place.toList:=λx i=>by simp_all+arith
   have:=oT _ _ QQ all;have l:=T.len;simp at this
   lia
 obtain⟨e,f,a⟩:=ex;obtain⟨k,r,b⟩:=T.pow;obtain⟨n,c,d⟩:=XR b (Ni t h) (Nj t h) f;obtain⟨m,p,j,o⟩:=Nk (P:=λn=>(path t _ n).j∉t.place.toList) n (by rw[d];exact a)
 grind
end
def Nl{t t':SetTable}(h:t.mask=t'.mask)(x:Int):t.probeStart x=t'.probeStart x:=by unfold aet;rw[h]
theorem DU{t:SetTable}{p:Probe}(a:p.j+p.more<=t.mask):∀n,(path t p n).j+(path t p n).more<=t.mask
 |0=>a
 |n+1=>by?
  have b:=DU a n;show(t.advance _).j+(t.advance _).more<=t.mask;unfold AA;split
  .dsimp only;lia
  .unfold leap;have l:((path t p n).i*5+1+(path t p n).perturb/32)%(t.mask+1)<=t.mask:=oj (tV _ (QN _))
   grind [Nc]
def Nm(t:SetTable)(h:Int):(t.probeStart h).j+(t.probeStart h).more<=t.mask:=by
 unfold aet;have l:bits h%(t.mask+1)<=t.mask:=oj (tV _ (QN _))
 grind [Nc]
theorem Tab.put{t:SetTable}{hs:List Int}(T:Tab t hs){h:Int}{n:Nat}(h1:(path t (t.probeStart h) n).j∉t.place.toList)(h2:∀m,m<n->(path t (t.probeStart h) m).j∈t.place.toList):
  (t.put (path t (t.probeStart h) n).j).2<=hs.length/\Tab (t.put (path t (t.probeStart h) n).j).1 (hs.take (t.put (path t (t.probeStart h) n).j).2++h::hs.drop (t.put (path t (t.probeStart h) n).j).2):=by?
 generalize hj:(path t (t.probeStart h) n).j=j at h1;obtain⟨b1,b2⟩:=y_ t.place T.rise j;have hnd:has t.dummies j=false:=by unfold SetTable.has;rw[T.lL];simp
 have e1:(t.put j).1={t with place:=insertAt t.place (below t.place j) j,dummies:=t.dummies}:=by
  unfold SetTable.put
  cbv
 have e2:(t.put j).2=below t.place j:=rfl;rw[e1,e2];generalize hp:below t.place j=p at*;have il:=vn t.place p j b1;have len:=T.len;have mem:∀x,x∈t.place.toList->x∈(insertAt t.place p j).toList:=λx hx=>by grind [lZ]
 have pm:∀q n,path {t with place:=insertAt t.place p j,dummies:=t.dummies} q n=path t q n:=λq n=>DR (t:={t with place:=insertAt t.place p j,dummies:=t.dummies}) (t':=t) rfl q n;have sm:=λx=>Nl (t:={t with place:=insertAt t.place p j,dummies:=t.dummies}) (t':=t) rfl x;have szn:(insertAt t.place p j).size=t.place.size+1:=by grind [dB]
 refine⟨by cbv,⟨T.pow,by rw[<-hp];exact XJ T.rise h1,T.lL,?_,?_,?_⟩⟩
 .simp_all+arith
 .intro x hx;have hx':x∈(insertAt t.place p j).toList:=hx;rw[il]at hx';rcases eF.mp hx' with q|q
  .exact T.vp x (lY q)
  .rcases cU.mp q with rfl|q
   .show x<=t.mask;rw[<-hj];have:=DU (Nm t h) n;exact aeu this
   .exact T.vp x (QR q)
 .intro i hi x hx;have hi':i<t.place.size+1:=by rw[<-szn];exact hi
  have gi:(insertAt t.place p j)[i]'hi=((t.place.toList.take p++j::t.place.toList.drop p)[i]'(by grind)):=by grind
  rw[sm];simp only[pm];show∃n,_=(insertAt t.place p j)[i]'hi/\_;rcases QS i p with c|c|c
  .have ht:i<t.place.size:=by exact fz c b1
   have hx':hs[i]?=some x:=by grind
   obtain⟨k,k1,k2⟩:=T.reach i ht x hx';refine⟨k,?_,λm hm=>mem _ (k2 m hm)⟩;rw[gi,List.getElem_append_left (by simp;lia),List.getElem_take,k1];simp
  .subst c;have hx':h=x:=by rw[w9 (QT ..),jK,t8 (by lia),AB]at hx;simpa using hx
   subst hx';refine⟨n,?_,λm hm=>mem _ (h2 m hm)⟩;rw[hj,gi,aev (QT ..)];simp[t8 b1]
  .have ht:i-1<t.place.size:=by lia
   have hx':hs[i-1]?=some x:=by
    rw[w9 (by rw[jK];lia),jK]at hx;have e:i-min p hs.length=(i-1-p)+1:=by lia
    rw[e,HR,AD]at hx;have e3:p+(i-1-p)=i-1:=by lia
    rw[e3]at hx;exact hx
   obtain⟨k,k1,k2⟩:=T.reach (i-1) ht x hx';refine⟨k,?_,λm hm=>mem _ (k2 m hm)⟩;rw[k1,gi,aev (by rw[jK];(cbv;lia))];have e:i-(List.take p t.place.toList).length=(i-1-p)+1:=by rw[jK];simp;lia
   simp only[e,List.getElem_cons_succ,List.getElem_drop];have e3:p+(i-1-p)=i-1:=by lia
   simp[e3]
end
section
variable{U:List Int}{κ:List Nat}
section
open PySem
open PySem.SetTable (below insertAt has runEnd leap turns bits Probe)
abbrev oU(a:Array (Option Nat))(j:Nat):Prop:=(a.getD j (some 0)).isSome=true
theorem Nn{t:SetTable}{owner:Array (Option Nat)}:∀(a:Nat) (q:Probe),q.j=q.i->q.more=runEnd t.mask q.i-q.i->(∃r,r<a/\¬oU owner (runs t q r).j)->
  X1 λn=>A3 (IA t.mask owner a q.i q.perturb=some (path t q n).j) (¬oU owner (path t q n).j) (∀m,m<n->oU owner (path t q m).j)
 |0,q,_,_,h=>by cbv
 |a+1,q,p,hm,h=>by
  unfold IA;have G:q.i<=runEnd t.mask q.i:=by unfold runEnd;split<;>simp
  cases e:(bV _).find? λk=>(owner.getD (q.i+k) (some 0)).isNone with
  |some k=>
   have B:=kT.mp (List.mem_of_find?_eq_some e);have i:∀m,m<=k->(path t q m).j=q.i+m:=λm b=>by grind [zd]
   refine%[k,by rw[i k (bx _)],?_|λm b=>?_]
   .simp_all
   .rw[i m (by exact dZ b)]
    simp_all [oU]
  |none=>
   have all:∀m,m<=q.more->oU owner (path t q m).j:=λm b=>by
    rw[zd t m q b,p];have:=List.find?_eq_none.mp e m (kT.mpr (by omega));unfold oU;cases C:owner.getD (q.i+m) (some 0)with
    |none=>cbv
    |some v=>rfl
   have le:=vo t q;have s:(lp t q).j=(lp t q).i:=by rw[le]
   have A:(lp t q).more=runEnd t.mask (lp t q).i-(lp t q).i:=by rw[le]
   obtain⟨r,D,j⟩:=h;have d:r≠0:=λz=>by subst z;exact j (all 0 (bM _))
   have u:∀k,runs t q (k+1)=runs t (lp t q) k:=by
    intro k;induction k with
    |zero=>rfl
    |succ k E=>simp_all [runs]
   obtain⟨f,rfl⟩:∃f,r=f+1:=%[r-1|by exact kR (Nat.succ_pred_eq_of_ne_zero d)];obtain⟨n,w,x,F⟩:=Nn a (lp t q) s A %[f,by cbv|by rw[<-u];exact j];have l:∀m,path t q (q.more+1+m)=path t (lp t q) m:=λm=>nJ t q (q.more+1) m
   refine%[q.more+1+n,?_,by rw[l];exact x|λm b=>?_]
   .rw[l,<-w];have y:(lp t q).i=(leap t.mask q.i q.perturb).1:=by rw[le];rfl
    have g:(lp t q).perturb=(leap t.mask q.i q.perturb).2:=by rw[le];rfl
    rw[y,g]
   .by_cases c:m<=q.more
    .exact all m c
    .obtain⟨o,rfl⟩:∃o,m=q.more+1+o:=%[m-(q.more+1)|by(cbv;omega)]
     grind
structure Laid(t:SetTable)(a:Array (Option Nat))(b:List Nat)(c:List Int):Prop where
 size:a.size=t.mask+1
 len:b.length=c.length
 nd:b.Nodup
 vp:∀j∈b,j<=t.mask
 own:∀(j k:Nat),a[j]?=some (some k)↔b[k]?=some j
 reach:∀(k j:Nat) (h:Int),b[k]?=some j->c[k]?=some h->∃n,(path t (t.probeStart h) n).j=j/\∀m,m<n->(path t (t.probeStart h) m).j∈b
def Laid.DV{j:Nat}{t:SetTable}{a:Array (Option Nat)}(L:Laid t a κ U)(b:j<=t.mask):oU a j↔j∈κ:=by?
 have c:j<a.size:=by rw[L.size];exact w8 b
 unfold oU;have e:a.getD j (some 0)=a[j]:=by simp[c]
 rw[e];constructor
 .intro h;cases q:a[j]with
  |none=>rw[q]at h;cases h
  |some k=>
   have:a[j]?=some (some k):=by cbv
   exact bO ((L.own j k).mp this)
 .intro h;obtain⟨k,d⟩:=wY h;have:=(L.own j k).mpr d
  cbv
def Laid.next{t:SetTable}{d:Array (Option Nat)}(L:Laid t d κ U)(i:∃k,t.mask+1=2^k)(v:U.length<=t.mask)(h:Int):
  ∃j,IA t.mask d (turns t.mask) (bits h%(t.mask+1)) (bits h)=some j/\Laid t (d.setIfInBounds j (some U.length)) (κ++[j]) (U++[h]):=by?
 have ex:∃e,e<=t.mask/\e∉κ:=by
  by_cases q:∃e,e<=t.mask/\e∉κ
  .exact q
  .exfalso;have all:∀x∈bV (t.mask+1),x∈κ:=λx f=>by
    by_cases m:x∈κ
    .exact m
    .exact aT %[x,by have:=kT.mp f;exact oj this|m] q
   have:=oT _ _ QQ all;rw[QU,L.len]at this
   lia
 obtain⟨e,u,w⟩:=ex;obtain⟨k,i⟩:=i;obtain⟨r,N,_,_,A⟩:=Nh i (Ni t h) (Nj t h) u;have B:(t.probeStart h).j=(t.probeStart h).i:=rfl;have C:(t.probeStart h).more=runEnd t.mask (t.probeStart h).i-(t.probeStart h).i:=rfl;obtain⟨n,D,E,F⟩:=Nn (t:=t) (owner:=d) (turns t.mask) (t.probeStart h) B C %[r,by unfold turns;lia|by rw[A,L.DV u];exact w];have pl:∀m,(path t (t.probeStart h) m).j<=t.mask:=λm=>by have:=DU (Nm t h) m;exact aeu this
 refine%[(path t (t.probeStart h) n).j,D|?_];generalize p:(path t (t.probeStart h) n).j=j at*;have l:j<=t.mask:=by rw[<-p];exact pl n
 have s:j∉κ:=λq=>E ((L.DV l).mpr q);have G:j<d.size:=by rw[L.size];exact w8 l
 refine%[by rw[Array.size_setIfInBounds];exact L.size,by rw[dB,dB,L.len];rfl,?_,?_,?_|?_]
 .exact List.nodup_append.mpr %[L.nd,by simp|λa H b I=>by rw[fJ.mp I];exactλe=>s (e▸H)]
 .intro x f;rcases eF.mp f with q|q
  .exact L.vp x q
  .rw[fJ.mp q];exact l
 .intro x k;rw[Array.getElem?_setIfInBounds];by_cases c:j=x
  .subst c;rw[aS rfl,aS G];constructor
   .intro q;have:k=U.length:=by have:=cE (cE q);exact this.symm
    subst this;rw[<-L.len,w9 (bx _),AB];rfl
   .intro q;rcases QS k κ.length with z|z|z
    .rw[AE z]at q;exact aT (bO q) s
    .rw[z,L.len]
    .rw[mU (by rw[dB];simp;trivial)]at q;cases q
  .rw[aE c,L.own x k];constructor
   .intro q;rw[AE (by have:=(fP.mp q).1;exact this)]
    exact q
   .intro q;rcases om k κ.length with z|z
    .rw[AE z]at q;exact q
    .exfalso;rw[w9 z]at q;have:=bO q;exact c (fJ.mp this).symm
 .intro k x y f g;rcases QS k κ.length with z|z|z
  .rw[AE z]at f;rw[AE (by rw[<-L.len];exact z)]at g;obtain⟨a,M,K⟩:=L.reach k x y f g;exact%[a,M|λm o=>mS _ (K m o)]
  .rw[z,w9 (bx _),AB]at f;rw[z,L.len,w9 (bx _),AB]at g;have ex:j=x:=by simpa using f
   have J:h=y:=by simpa using g
   subst ex J;exact%[n,p|λm o=>mS _ ((L.DV (pl m)).mp (F m o))]
  .rw[mU (by rw[dB];simp;trivial)]at f;cases f
end
end
section
open PySem
open PySem.SetTable (below insertAt has runEnd leap turns bits Probe)
theorem Np{t:SetTable}(i:∃k,t.mask+1=2^k):∀(d pre:List Int) (a:Array (Option Nat)) (f:List Nat),Laid t a f pre->pre.length+d.length<=t.mask+1->
  ∃b c,(d.foldl (λg h=>do
    let(a,k)<-g
    let j<-IA t.mask a (turns t.mask) (bits h%(t.mask+1)) (bits h)
    pure (a.setIfInBounds j (some k),k+1)) (some (a,pre.length)):Option (Array (Option Nat)×Nat))=some (b,pre.length+d.length)/\Laid t b c (pre++d)
 |[],pre,a,f,L,_=>%[a,f,rfl|by cbv]
 |h::r,pre,a,f,L,l=>by? rw[iu]at l;obtain⟨j,m,n⟩:=L.next i (by lia) h;obtain⟨o,c,e,L2⟩:=Np i r _ _ _ n (by simp_all+arith);rw[lW]at L2;rw[dB,List.length_singleton]at e;refine%[o,c,?_|L2];rw[fI,iu,wX r.length,<-aew,<-e];dsimp only[bind,Option.bind];rw[m];rfl
def XT{t:SetTable}(c:∃k,t.mask+1=2^k)(a:Array Int)(d:a.size<=t.mask+1):∃owner b,QV t.mask a=some owner/\Laid t owner b a.toList:=by?
 have f:Laid t (Array.replicate (t.mask+1) none) [] []:=by
  refine%[Array.size_replicate,rfl,rm,λj h=>(by cases h),λj k=>?_|λk j h g=>(by simp at g)]
  grind-order
 obtain⟨o,b,e,L⟩:=Np c a.toList [] _ _ f (by simpa using d);refine%[o,b,?_|L];unfold QV
 cbv
theorem Nq:∀(a e n:Nat),3<=e->n<2^(e+a)->∃k,3<=k/\IB n a (2^e)=2^k/\n<2^k
 |0,e,n,he,h=>%[e,he,rfl|by simpa using h]
 |a+1,e,n,he,h=>by?
  unfold IB;by_cases c:2^e<=n
  .rw[aS c];have b:2^e*2=2^(e+1):=(wZ ..).symm;exact Nq a (e+1) n (by exact Ar he) (by simp_all+arith)
  grind
def Nr{n:Nat}(h:n<2^60):∃k,3<=k/\AF n=2^k/\n<2^k:=by have:=Nq 64 3 n (by simp) (fz h (gj (by decide) (by decide)));exact this
def XU{U:List Int}{κ:List Nat}{t:SetTable}{a:Array (Option Nat)}(L:Laid t a κ U)(j k:Nat):(j,k)∈((bV (t.mask+1)).filterMap λj=>(a.getD j none).map (j,·))↔κ[k]?=some j:=by?
 rw[HB,<-L.own j k];constructor
 .rintro⟨c,d,q⟩;have b:c<a.size:=by grind
  have e:a.getD c none=a[c]:=by simp[b]
  rw[e]at q;cases z:a[c]with
  |none=>rw[z]at q;cases q
  |some f=>
   grind
 .intro q;obtain⟨b,z⟩:=Array.getElem?_eq_some_iff.mp q;refine%[j,kT.mpr (by rw[<-L.size];exact b)|?_]
  cbv
theorem Nt(b:Array (Option Nat)):∀l:List Nat,(l.filterMap λj=>(b.getD j none).map (j,·)).map (·.1)=l.filter λj=>(b.getD j none).isSome
 |[]=>rfl
 |a::r=>by
  have c:=Nt b r;cases z:b.getD a none with
  |none=>cbv
  |some v=>cbv
theorem DW{t a:SetTable}(h:t.mask=a.mask)(x:Int)(n:Nat):(path t (t.probeStart x) n).j=(path a (a.probeStart x) n).j:=by rw[Nl h,DR h]
def Nu{mask finger moves:Nat}{led plain:Bool}{hashes:Array Int}(hk:∃k,3<=k/\mask+1=2^k)(hl:hashes.size<=mask+1):
  ∃t' order,QW mask finger moves led plain hashes=some (t',order)/\order.toList.Perm (bV hashes.size)/\t'.mask=mask/\t'.led=led/\t'.plain=plain/\Tab t' (order.toList.map λk=>hashes.getD k 0):=by?
 obtain⟨k0,h3,hk0⟩:=hk;obtain⟨owner,js,e,L⟩:=XT (t:={mask:=mask,place:=#[],dummies:=#[],finger:=finger,led:=led,moves:=moves,plain:=plain}) ⟨k0,hk0⟩ hashes hl;have e:QV mask hashes=some owner:=e;have memL:=XU L;have fstL:=Nt owner (bV (mask+1));have rise:(((bV (mask+1)).filterMap λj=>(owner.getD j none).map (j,·)).map (·.1)).Pairwise (· <·):=by grind [List.pairwise_lt_range]
 have un:QW mask finger moves led plain hashes=some ({mask,place:=(((bV (mask+1)).filterMap λj=>(owner.getD j none).map (j,·)).map (·.1)).toArray,dummies:=#[],finger,led,moves,plain},(((bV (mask+1)).filterMap λj=>(owner.getD j none).map (j,·)).map (·.2)).toArray):=by unfold QW;rw[e];rfl
 generalize((bV (mask+1)).filterMap λj=>(owner.getD j none).map (j,·))=live at memL fstL rise un;refine⟨_,_,un,?_,rfl,rfl,rfl,?_⟩
 ·
  show(live.map (·.2)).toArray.toList.Perm _;rw[List.toList_toArray];have nd2:(live.map (·.2)).Nodup:=by grind [List.Pairwise.imp_of_mem]
  refine(aex nd2 QQ).mpr λk=>?_;have ln:=L.len;rw[bF,kT];constructor
  .grind
  cbv
 .refine⟨⟨k0,h3,hk0⟩,by omega,rfl,?_,?_,?_⟩
  .simp
  .grind
  .intro i hi x hx;have hil:i<live.length:=by grind
   have hx':x=hashes.getD (live[i]).2 0:=by cbv
   have mem:=(memL (live[i]).1 (live[i]).2).mp (wL hil);have kl:=(fP.mp mem).1;rw[L.len]at kl;have hxs:hashes.toList[(live[i]).2]?=some x:=by
    rw[hx',cA kl];have:(live[i]).2<hashes.size:=by simpa using kl
    simp[Array.getD,this]
   obtain⟨n,n1,n2⟩:=L.reach _ _ _ mem hxs;refine⟨n,?_,λm hm=>?_⟩
   .grind [DW]
   .have q:=n2 m hm;obtain⟨k,hkk⟩:=wY q;have:=(memL _ _).mpr hkk
    grind [DW]
end
section
variable{A:Around}{E Q:Value->aj->Prop}{N:Type}{P:aC}{U:List Int}{Y:SetTable}{a f l:ae}{h u:ax}{j n:Nat}{s:aj}{w:World}{Ρ:Array Value}{ρ:Array (Int×Value)}{χ:Obj}
section
variable{prog:aC}{w:World}{K:Type}[DecidableEq K]{knd:KeyKind prog w K}
theorem ze{Ξ:Type}{M:Model}{f:N->Ξ->Sem (ForInStep Ξ)}{I:Ξ->Prop}{Q:Ξ->aj->Prop}(done:∀r,I r->Q r s):∀{c:List N} {d:Ξ},I d->(∀x∈c,∀r,I r->∀{a},(∀b,I b->a (.yield b) s/\a (.done b) s)->wpAny M A (f x r) a E s)->wpAny M A (forIn c d f) Q E s
 |[],_,h,_=>by rw[adh];exact bh (done _ h)
 |x::c,_,h,st=>by rw[adi];exact aA (st x bQ _ h λr e=>%[ze done e λy g=>st y (bG _ g)|bh (done _ e)])
def XW{η:Value}(n:Nat)(h:carriedByValue η=true):ofAClassStatement n η=pure false:=by?
 cases η with
 |ref a=>simp[carriedByValue]at h
 |_=>cases n<;>rfl
theorem XX{ks:List K}{Q:Bool->aj->Prop}(c:iS knd s.heap ks a)(h:Q false s):wpAny (model prog w) A (ofAClassStatement 8 (.ref a)) Q E s:=by?
 have d:=c.typeIs;obtain⟨o,b,n,e,j,hd,f⟩:=c;unfold ofAClassStatement;refine aA (wpAny_typeOf d ?_);refine aA (bh ?_);refine aA (oB e hd ?_);refine aA ?_;rw[<-aey];refine ze (I:=λr=>r.1=none) (λr g=>?_) rfl λv i r g l k=>?_
 .simp_all [bh]
 .rw[XW _ (f.byValue v i)];exact aA (bh (bh (k _ rfl).1))
def XY{Φ:List Value}{ks:List K}{Q:Bool->aj->Prop}(d:iS knd s.heap ks a)(f:∀y∈Φ,X2 λk b=>A2 (y=.ref b) (iS knd s.heap k b))(h:Q false s):
  wpAny (model prog w) A (searchCouldBeSeen (.ref a) Φ) Q E s:=by?
 refine aA ?_;refine ze (I:=λr=>r.1=none) (λr g=>?_) rfl λv i r g j k=>?_
 .simp_all [bh]
 .obtain⟨c,b,rfl,l⟩:=f v i;by_cases e:((a==b)||(carriedByValue (.ref a)&&carriedByValue (.ref b)))=true
  .simp_all [bh]
  .rw[aE e];refine aA (wpAny_eqIsQuiet_tuple d ?_)
   grind [aA,wpAny_eqIsQuiet_tuple,XX,bh]
def XZ{ks:List K}{Q:Bool->aj->Prop}(f:iS knd s.heap ks a)(i:∀k v,knd.is k v=true->∀n,∃b,ug n v=pure b)(h:∀b,Q b s):wpAny (model prog w) A (ug 8 (.ref a)) Q E s:=by?
 have j:=f.typeIs;obtain⟨o,c,n,l,t,hd,g⟩:=f;have all:∀v∈c.toList,∀n,∃b,ug n v=pure b:=by
  generalize c.toList=L at g;induction g with
  |nil=>intro v d;simp at d
  |cons m _ p=>
   intro v d;rcases cU.mp d with rfl|d
   .exact i _ _ m
   .exact p v d
 refine aA (wpAny_specialOf j F.slot_tuple_hash.lookup ?_);refine aA (oB l hd ?_);refine aA ?_;rw[<-aey];refine ze (I:=λr=>r.1=none\/r.1=some false) (λr q=>?_) (.inl rfl) λv d r q u k=>?_
 .grind [bh]
 .obtain⟨b,e⟩:=all v d 7;rw[e];refine aA (bh ?_);cases b<;>simp_all [bh]
end
section
variable{prog:aC}{w:World}{K:Type}[DecidableEq K]{knd:KeyKind prog w K}
def el(knd:KeyKind prog w K)(p:List K×ae):Int×Value:=(eY knd p.1,.ref p.2)
def hashOf(knd:KeyKind prog w K)(l:List (List K×ae)):List Int:=l.map λp=>eY knd p.1
def Tab.odd(T:Tab Y U):Y.gaveWay=false:=by
 obtain⟨k,a,e⟩:=T.pow;unfold SetTable.gaveWay
 grind
theorem Tab.fits(T:Tab Y U)(a:U.length<=Y.mask):Y.fits U.length=true:=by unfold SetTable.fits QX;rw[T.lL,T.len];simp;exact a
def X8{l:List (List K×ae)}{k:List K}{Q:SetFound->aj->Prop}
  (Z:s.heap.get? a=some χ)(hd:χ.data=.set ρ j Y)(H:ρ.toList=l.map (el knd))(T:Tab Y (hashOf knd l))(M:l.length<=Y.mask)
  (keys:∀p∈l,iS knd s.heap p.1 p.2)(hb:iS knd s.heap k f)(hu:A.units<cLine)
  (n1:n<10*SetTable.turns Y.mask)(n2:(path Y (Y.probeStart (eY knd k)) n).j∉Y.place.toList)(n3:∀m,m<n->(path Y (Y.probeStart (eY knd k)) m).j∈Y.place.toList)
  (az:(∃p∈l,p.1=k)->Q (.there none) s)(no:(∀p∈l,p.1≠k)->Q (.free (path Y (Y.probeStart (eY knd k)) n).j false) s):
  ∀(d m x:Nat) (v:Option SetTable.Probe),n-m=d->m<=n->d<x->v.getD (Y.probeStart (eY knd k))=path Y (Y.probeStart (eY knd k)) m->
   (∀r,r<m->∀i p,Y.slot (path Y (Y.probeStart (eY knd k)) r).j=.live i->l[i]?=some p->p.1≠k)->
   wpAny (model prog w) A (setSearchFrom a (.ref f) (eY knd k) true x v) Q E s:=by?
 intro d;induction d using Qg with
 |_ d ih=>
 intro m x v ar hm hf O z;generalize B:Y.probeStart (eY knd k)=st at*;have hl:ρ.size=l.length:=by grind [aY]
 have P:(hashOf knd l).length=l.length:=aY _;have fit:Y.fits ρ.size=true:=by
  have:=T.fits (by rw[P];exact M)
  cbv
 have at_:∀i:Nat,ρ[i]?=(l[i]?).map (el knd):=λi=>by rw[<-AG,H,eJ]
 obtain⟨g,rfl⟩:∃g,x=g+1:=%[x-1|by lia];have F:SetTable.Slot.empty=Y.slot (path Y st n).j:=(vm T.lL n2).symm;have hP:sQ Y (λi=>(ρ[i]?.map (·.1)).getD 0) (eY knd k) (path Y (path Y st m) (n-m)):=by rw[<-nJ,show m+(n-m)=n by exact QY hm];exact .inl F.symm
 obtain⟨r,hr,r1,R⟩:=@Nk (λr=>sQ Y (λi=>(ρ[i]?.map (·.1)).getD 0) (eY knd k) (path Y (path Y st m) r)) (λ_=>Classical.propDecidable _) (n-m) hP;have N:Y.probe (λi=>(ρ[i]?.map (·.1)).getD 0) (eY knd k) (v.getD st)=sR Y (path Y st m).dummy (path Y (path Y st m) r):=by rw[O];exact DS T.DT r _ _ (by lia) R r1
 have dm:(path Y st m).dummy=none:=by rw[Na,<-B];rfl
 rw[dm,<-nJ]at N;rw[<-nJ]at r1;refine aA (pK Z hd fit ?_);dsimp only;rw[T.odd];simp only[Aj,if_false];rw[B];erw [N];unfold sR;cases q:Y.slot (path Y st (m+r)).j with
 |dummy=>exact aT q (T.DT _)
 |empty=>
  dsimp only;have aa:(path Y st (m+r)).j∉Y.place.toList:=λU=>by obtain⟨i,C,e⟩:=zc U;rw[<-e,vk T.rise C]at q;cases q
  have en:m+r=n:=by grind-order
  rw[en];refine bh (no λp hp e=>?_);obtain⟨i,C⟩:=wY hp;have V:i<l.length:=(fP.mp C).1;have ip:i<Y.place.size:=by rw[T.len,P];exact V
  have hx:(hashOf knd l)[i]?=some (eY knd k):=by simp_all [hashOf]
  obtain⟨D,p1,p2⟩:=T.reach i ip _ hx;rw[B]at p1 p2;have lt:D<n:=by grind
  have live:Y.slot (path Y st D).j=.live i:=by rw[p1];exact vk T.rise ip
  rcases om D m with c|c
  .exact(λ{u} h↦(iff_false_intro h).mp) (z D c i p live C) e
  .refine R (D-m) (Nat.sub_lt_left_of_lt_add c (by rw[en];exact lt)) ?_;show sQ _ _ _ (path Y (path Y st m) (D-m));rw[<-nJ,show m+(D-m)=D by exact QY c];refine .inr %[i,live|?_];dsimp only;rw[at_,C,<-e];rfl
 |live i=>
  dsimp only;have lt:m+r<n:=by grind
  obtain⟨C,hj⟩:=T.live q;have V:i<l.length:=by rw[T.len,P]at C;exact C
  obtain⟨p,hp⟩:∃p,l[i]?=some p:=%[_|cA V];have W:=bO hp;have he:ρ[i]?=some (el knd p):=by rw[at_,hp];rfl
  cases ao:Y.led
  case' false=>
   simp only[Bool.not_false,if_true];refine aA (XY hb (λy hy=>by
    obtain⟨e,h1,rfl⟩:=bF.mp hy;have h2:e∈ρ.toList:=by cbv
    rw[H]at h2;obtain⟨I,h3,rfl⟩:=bF.mp h2;exact%[I.1,I.2,rfl|keys I h3]) ?_)
  all_goals
   simp only[Bool.not_true,Aj,if_false];rw[he];refine aA (kX (wpAny_eqBool_tuple hu (keys p W) hb ?_));refine aA (pK Z hd fit ?_);dsimp only;by_cases e:p.1=k
   .grind [bh]
   .rw[bK e];simp only[Bool.true_and,Aj,if_false];have X:Y.sameMemory Y.moves Y.mask=some true:=by unfold SetTable.sameMemory;simp
    rw[X];dsimp only;rw[aS rfl,q];dsimp only;rw[he];dsimp only[el];refine aA (wpAny_isSame_ref_self (aA (bh ?_)));rw[aS rfl];dsimp only;refine ih (n-(m+r+1)) (by lia) (m+r+1) g (some _) rfl (by trivial) (by lia) (by rfl) λG av i' I J L ee=>?_
    rcases om G m with c|c
    .exact(λ{u} h↦(iff_false_intro h).mp) (z G c i' I J L) ee
    .rcases om G (m+r)with c2|c2
     .refine R (G-m) (by exact Nat.sub_lt_left_of_lt_add c c2) ?_;show sQ _ _ _ (path Y (path Y st m) (G-m));rw[<-nJ,show m+(G-m)=G by exact QY c];refine .inr %[i',J|?_];dsimp only;rw[at_,L,<-ee];rfl
     grind
end
theorem DX:∀(a e n:Nat),e<=13->n<2^13->IB n a (2^e)<=2^13
 |0,e,n,he,_=>by exact gj (by decide) he
 |a+1,e,n,he,b=>by
  unfold IB;by_cases c:2^e<=n
  .rw[aS c];refine DX a (e+1) n ?_ b
   (cbv;lia)
  .rw[aE c];exact gj (by decide) he
theorem range_all(l:List N):(bV l.length).filterMap (λi=>l[i]?)=l:=by
 induction l with
 |nil=>rfl
 |cons a l b=>
  rw[iu,HK,IC];simp only[HQ];rw[Av];congr 1
def Tab.same{a:SetTable}(T:Tab Y U)(c:a.mask=Y.mask)(b:a.place=Y.place)(f:a.dummies=Y.dummies):Tab a U:=by?
 have l:=λx n=>DW c x n;refine%[by rw[c];exact T.pow,by rw[b];exact T.rise,by rw[f];exact T.lL,by rw[b];exact T.len,λj e=>?_|λi g h k=>?_]
 .rw[c];rw[b]at e;exact T.vp j e
 .have d:i<Y.place.size:=by rw[<-b];exact g
  obtain⟨n,m,o⟩:=T.reach i d h k
  grind
section
variable{prog:aC}{w:World}{K:Type}[DecidableEq K]{knd:KeyKind prog w K}
theorem Nv{ks:List K}{g i t}(x:iS knd h ks a)(p:h.get? f=some χ)(hd:χ.data=.set g i t)(j:gD f h u):iS knd u ks a:=by
 obtain⟨k,b,n,c,l,d,m⟩:=x;have e:a≠f:=by grind
 exact%[k,b,n,(j.2 a e).trans c,l,d|m]
structure iz(knd:KeyKind prog w K)(h:ax)(S:ae)(l:List (List K×ae)):Prop where
 ex:∃o a b t,h.get? S=some o/\o.ExactSet/\o.data=.set a b t/\a.toList=l.map (el knd)/\Tab t (hashOf knd l)/\l.length*5<t.mask*3/\t.mask<=8191
 keys:∀p∈l,iS knd h p.1 p.2
def zf(d:h.get? a=some χ)(hd:χ.data=.set ρ n Y)(b:Array (Int×Value))(c:SetTable):
  (h.update a (QZ b c)).get? a=some {χ with data:=.set b (n+1) c}:=by
 have:=tT (QZ b c) d (by rw[putSet_of b c hd];rfl)
 grind [putSet_of]
def X9{l:List (List K×ae)}{Q:Unit->aj->Prop}
  (u:s.heap.get? a=some χ)(F:χ.ExactSet)(hd:χ.data=.set ρ n Y)(v:ρ.toList=l.map (el knd))(T:Tab Y (hashOf knd l))(r:l.length<=Y.mask)(keys:∀p∈l,iS knd s.heap p.1 p.2)
  (V:j=4*l.length)(P:l.length<2048)(hp:0<l.length)
  (h:∀x z,gD a s.heap x->iz knd x a z->z.Perm l->Q () {s with heap:=x}):wpAny (model prog w) A (setRelay a j) Q E s:=by?
 have B:ρ.size=l.length:=by grind [aY]
 have G:(hashOf knd l).length=l.length:=aY _;have fit:Y.fits ρ.size=true:=by
  have:=T.fits (by rw[G];exact r)
  cbv
 have at_:∀i:Nat,ρ[i]?=(l[i]?).map (el knd):=λi=>by rw[<-AG,v,eJ]
 obtain⟨k,H,R,lt⟩:=Nr (n:=j) (by lia);have le:AF j<=2^13:=DX 64 3 j (by decide) (by lia);obtain⟨I,order,J,U,L,o,o,C⟩:=Nu (mask:=AF j-1) (finger:=Y.finger) (led:=Y.led) (plain:=Y.plain) (hashes:=ρ.map (·.1)) %[k,H|by grind-order] (by(cbv;lia));have e:Y.relaid (ρ.map (·.1)) j=some (I,order):=J;have O:(order.filterMap (ρ[·]?)).toList=(order.toList.filterMap (l[·]?)).map (el knd):=by simp_all [Aw]
 have c:(order.toList.filterMap (l[·]?)).Perm l:=by grind [range_all]
 have d:(order.toList.map λk=>(ρ.map (·.1)).getD k 0)=hashOf knd (order.toList.filterMap (l[·]?)):=by
  unfold hashOf;rw[Aw];have:∀(q:List Nat),(∀i∈q,i<l.length)->(q.map λk=>(ρ.map (·.1)).getD k 0)=q.filterMap λi=>Q0 (λp:List K×ae=>eY knd p.1) l[i]?:=by
   intro q;induction q with
   |nil=>intro o;rfl
   |cons i q M=>
    intro D;have y:=D i bQ;rw[cx,IC,M λb N=>D b (bG _ N),cA y];simp only[aez];congr 1;have f:i<ρ.size:=by rw[B];exact y
    have:=at_ i;rw[t9 f,cA y]at this;have this:=cE this;rw[Q1,aeA,t9 f,this];rfl
  grind
 rw[d]at C;have m:=c.length_eq;have g:(order.filterMap (ρ[·]?)).size=ρ.size:=by grind [aY]
 unfold setRelay;refine aA (pK u hd fit ?_);dsimp only;rw[aE (by
  have:bf=2^24:=rfl
  lia)]
 rw[e];refine aA ?_;show wpAny _ _ (if((order.filterMap (ρ[·]?)).size !=ρ.size)=true then _ else _) _ _ _;rw[aE (by rw[g];simp)];refine bh ?_;dsimp only;refine wpAny_storeSet_of u hd (h _ (order.toList.filterMap (l[·]?)) (kU s.heap a _) %[%[_,_,_,_,zf u hd _ _,F,rfl,O,C,?_|?_]|λp hp=>?_] c) ?_
 .rw[m,L];(cbv;lia)
 .simp_all
 .grind [Nv,kU]
 .rw[g,B];have:bf=2^24:=rfl
  lia
end
section
variable{prog:aC}{w:World}{K:Type}[DecidableEq K]{knd:KeyKind prog w K}
def Nw{S b:ae}{o:Obj}{es:Array (Int×Value)}{ep:Nat}{t:SetTable}{l:List (List K×ae)}{k:List K}{n:Nat}{Q:Bool->aj->Prop}{bv:Bool}
  (ho:s.heap.get? S=some o)(hx:o.ExactSet)(hd:o.data=.set es ep t)(els:es.toList=l.map (el knd))(T:Tab t (hashOf knd l))(room:l.length*5<t.mask*3)(hm:t.mask<=8191)
  (keys:∀p∈l,iS knd s.heap p.1 p.2)(hb:iS knd s.heap k b)(hn:l.length+1<2048)
  (n2:(path t (t.probeStart (eY knd k)) n).j∉t.place.toList)(n3:∀m,m<n->(path t (t.probeStart (eY knd k)) m).j∈t.place.toList)
  (h:∀h' l',gD S s.heap h'->iz knd h' S l'->l'.Perm ((k,b)::l)->Q true {s with heap:=h'}):
  wpAny (model prog w) A (do
   let t2:SetTable:=if bv then(t.put (path t (t.probeStart (eY knd k)) n).j).1 else{(t.put (path t (t.probeStart (eY knd k)) n).j).1 with plain:=false}
   storeSet S (rp es (t.put (path t (t.probeStart (eY knd k)) n).j).2 (eY knd k,.ref b)) t2
   if(!false&&t2.tooFull)=true then do
    setRelay S (w_ (es.size+1))
    pure true
   else pure true) Q E s:=by?
 have hl:es.size=l.length:=by grind [aY]
 have hh:(hashOf knd l).length=l.length:=aY _;obtain⟨ple,T1⟩:=T.put n2 n3;generalize hj:(path t (t.probeStart (eY knd k)) n).j=j at*;generalize hp:(t.put j).2=p at*;rw[hh]at ple;have ems:(rp es p (eY knd k,iO b)).toList=(l.take p++(k,b)::l.drop p).map (el knd):=by rw[vn es p _ (by simp[*]),els,cF,cx,rh,t_];rfl
 have perm:(l.take p++(k,b)::l.drop p).Perm ((k,b)::l):=by grind [lZ]
 have hlen:(l.take p++(k,b)::l.drop p).length=l.length+1:=perm.length_eq;have T1:Tab (t.put j).1 (hashOf knd (l.take p++(k,b)::l.drop p)):=by simp_all [hashOf,rh,t_]
 have m1:(t.put j).1.mask=t.mask:=rfl;generalize ht1:(t.put j).1=t1 at*;obtain⟨t2,et2⟩:∃t2:SetTable,(if bv=true then t1 else{t1 with plain:=false})=t2:=⟨_,rfl⟩;have T2:Tab t2 (hashOf knd (l.take p++(k,b)::l.drop p)):=by
  rw[<-et2];cases bv
  .exact T1.same rfl rfl rfl
  .exact T1
 have m2:t2.mask=t.mask:=by grind
 dsimp only;rw[et2];have keys1:∀q∈l.take p++(k,b)::l.drop p,iS knd (s.heap.update S (QZ (rp es p (eY knd k,iO b)) t2)) q.1 q.2:=λq hq=>by grind [Nv,kU]
 have sl:bf=16777216:=rfl;have h24:(2:Nat)^24=16777216:=rfl;refine aA (wpAny_storeSet_of ho hd ?_ (by grind [aY]));have g1:=zf ho hd (rp es p (eY knd k,iO b)) t2;have ff:t2.fill=l.length+1:=by
  unfold QX;rw[T2.lL,T2.len]
  simp_all [hashOf]
 by_cases full:t2.tooFull=true
 .rw[aS (by rw[full];rfl)];have gr:w_ (es.size+1)=4*(l.take p++(k,b)::l.drop p).length:=by
   unfold w_
   (cbv;lia)
  refine aA (X9 (l:=l.take p++(k,b)::l.drop p) g1 hx rfl ems T2 (by rw[hlen,m2];lia) keys1 gr (by rw[hlen];omega) (by rw[hlen];simp) λh' l' sb X pp=>?_);exact bh (h h' l' ((kU s.heap S _).trans sb) X (pp.trans perm))
 .rw[aE (by simpa using full)];refine bh (h _ (l.take p++(k,b)::l.drop p) (kU s.heap S _) ⟨⟨_,_,_,_,g1,hx,rfl,ems,T2,?_,by rw[m2];exact hm⟩,keys1⟩ perm);unfold SetTable.tooFull at full
  cbv
def add_tuple{S b:ae}{l:List (List K×ae)}{k:List K}{Q:Bool->aj->Prop}(X:iz knd s.heap S l)(hb:iS knd s.heap k b)(hu:A.units<cLine)(hn:l.length+1<2048)
  (hbv:∀k v,knd.is k v=true->∀n,∃b,ug n v=pure b)
  (yes:(∃p∈l,p.1=k)->Q false s)
  (no:(∀p∈l,p.1≠k)->∀h' l',gD S s.heap h'->iz knd h' S l'->l'.Perm ((k,b)::l)->Q true {s with heap:=h'}):
  wpAny (model prog w) A (setAddHashed S (.ref b) (eY knd k)) Q E s:=by?
 obtain⟨o,es,ep,t,ho,hx,hd,els,T,room,hm⟩:=X.ex;have keys:=X.keys;have hl:es.size=l.length:=by grind [aY]
 have hh:(hashOf knd l).length=l.length:=aY _;have fit:t.fits es.size=true:=by
  have:=T.fits (by lia)
  cbv
 obtain⟨n,n1,n2,n3⟩:=T.free (by lia) _;refine kX (aA (pK ho hd fit ?_));dsimp only;rw[show byScan _ es=false from rfl];refine aA (X8 ho hd els T (by lia) keys hb hu n1 n2 n3 (λy=>?_) (λy=>?_) _ 0 _ none rfl (bM _) ?_ rfl λr hr=>aT hr (ID _))
 .exact bh (yes y)
 .refine aA (pK ho hd fit ?_);have fin:=no y;by_cases pl:(t.put (path t (t.probeStart (eY knd k)) n).j).1.plain=true
  .rw[aS pl];refine aA (XZ hb hbv λbv=>?_);exact Nw ho hx hd els T room hm keys hb hn n2 n3 fin
  .rw[aE pl];refine aA (bh ?_);exact Nw ho hx hd els T room hm keys hb hn n2 n3 fin
 .unfold SetTable.turns at n1
  lia
end
theorem Ny[DecidableEq N]:∀l:List N,¬l.Nodup->∃m:List N,m.length<l.length/\∀x∈l,x∈m
 |[],h=>aT rm h
 |a::t,h=>by
  by_cases b:a∈t
  .grind
  .obtain⟨m,c,d⟩:=Ny t λn=>h (lV.mpr %[b|n])
   refine%[a::m,by simpa using c|λx e=>?_]
   grind
def X_[DecidableEq N]{l m:List N}(b:l.Nodup)(h:∀x,x∈l↔x∈m):l.length<m.length↔¬m.Nodup:=by
 constructor
 .intro lt nd;have:=oT m l nd λx a=>(h x).mpr a
  lia
 .intro nd;obtain⟨q,d,c⟩:=Ny m nd;have:=oT l q b λx a=>c x ((h x).mp a)
  exact iP (by assumption) (by assumption)
section
variable{prog:aC}{w:World}{K:Type}[DecidableEq K]{knd:KeyKind prog w K}
def iz.kept{l:List (List K×ae)}(X:iz knd h a l)(k:∀b o,(b=a\/∃p∈l,b=p.2)->h.get? b=some o->u.get? b=some o):iz knd u a l:=by? obtain⟨⟨o,f,g,t,i,r⟩,keys⟩:=X;refine%[%[o,f,g,t,k a o (.inl rfl) i|r]|λp hp=>?_];obtain⟨e,c,n,d,j⟩:=keys p hp;exact%[e,c,n,k p.2 e (.inr %[p,hp|rfl]) d|j]
def qD(a:Nat->List K)(i:Nat)(l:List (List K×ae)):Prop:=(l.map (·.1)).Nodup/\∀k,k∈l.map (·.1)↔∃j,j<i/\a j=k
def qD.le{b:Nat->List K}{l:List (List K×ae)}(c:qD b j l):l.length<=j:=by
 have:=oT _ ((bV j).map b) c.1 λx d=>by
  obtain⟨a,f,e⟩:=(c.2 x).mp d
  grind
 simpa using this
def Ya{Μ wr:List ae}{R:Result->aj->Prop}{G:Array GenState->Array GenState->Prop}{P:Nat->Value->Prop}{St:Nat->aj->Prop}(W:WalksS prog w A.in1 a Μ wr G n P St)(S:ae)(C:S∉Μ)(hu:A.in1.units<cLine)(M:∀k v,knd.is k v=true->∀n,∃b,ug n v=pure b)(ka:Nat->List K)(hb:n+1<2048):
  ∀(d i:Nat) (s:aj) (l:List (List K×ae)),n-i=d->i<=n->St i s->iz knd s.heap S l->qD ka i l->(∀p∈l,p.2∉wr)->
   (∀j v,P j v->∃b,v=.ref b/\b≠S/\b∉wr/\iS knd s.heap (ka j) b)->
   (∀f g,Moved (S::wr) G s f->iz knd f.heap S g->qD ka n g->R (.ok (.ret .none)) f)->
   codeAny (model prog w) A (.builtin "set.update.loop" %[[.ref S,.ref a]|[]]) R s:=by?
 have ao:S∉wr:=λq=>C (W.sub _ q);have up:∀b∈wr,b∈S::wr:=λb q=>bG _ q;have mk:∀{s f:aj} {k:List K} {b:ae},Moved (S::wr) G s f->b≠S->b∉wr->iS knd s.heap k b->iS knd f.heap k b:=λ{s f k b} B h1 h2 x=>by obtain⟨o',z,m,N,rr⟩:=x;refine%[o',z,m,B.heap b o' ?_ N|rr];exact List.not_mem_cons_of_ne_of_not_mem h1 h2
 intro d;induction d with
 |zero=>
  intro i s l hk hi r O h hw hP Q;obtain rfl:i=n:=by lia
  refine rG IE ?_;show wpAny _ A.in1 (pyNext (.ref a)>>=_) _ _ s;refine aA (W.done s _ _ r λf B=>bh (Q f l (B.mono up) (O.kept λb o q e=>B.heap b o ?_ e) h))
  grind
 |succ d ih=>
  intro i s l hk hi r O h hw hP Q;have lt:i<n:=by exact IF hk
  refine rG IE ?_;show wpAny _ A.in1 (pyNext (.ref a)>>=_) _ _ s;refine aA (W.item i s _ _ lt r λv f hv D B=>?_);obtain⟨b,rfl,b1,b2,bk⟩:=hP i v hv;have E:Moved (S::wr) G s f:=B.mono up;have F:=mk E b1 b2 bk;have H:iz knd f.heap S l:=O.kept λc o q e=>B.heap c o (by grind) e
  refine aA (kX ?_);unfold setAdd;refine kX (aA (wpAny_pyHash_tuple hu F ?_));have next:∀(t:ax) (tk:Nat) (g:List (List K×ae)),f.toks<=tk->gD S f.heap t->iz knd t S g->qD ka (i+1) g->(∀p∈g,p.2∉wr)->codeAny (model prog w) A (.builtin "set.update.loop" %[[.ref S,.ref a]|[]]) R {f with heap:=t,toks:=tk}:=by
   intro t tk g J L T c' w';have U:Moved (S::wr) G s {f with heap:=t,toks:=tk}:=E.then_heap J λc o u e=>by rw[L.2 c λq=>u (by simp[*])];exact e
   refine ih (i+1) _ g (by lia) lt (W.frame _ f _ _ D J λc u o e=>?_) T c' w' (λj v q=>?_) λV X Y Z aa=>Q V X (Moved.trans W.gtrans U Y) Z aa
   .rw[L.2 c λq:c=S=>C (by rw[<-q];exact u)];exact e
   grind
  have hl:=h.le;refine add_tuple (s:={f with toks:=f.toks+((ka i).length+1)}) H F hu (by lia) M (λy=>?_) λy t g L T pm=>?_
  .refine bh %[uh IG _|next f.heap _ l (wW _ _) (gD.refl _ _) H %[h.1|λk=>?_] hw];rw[h.2 k];constructor
   .grind
   .rintro⟨j,hj,e⟩;rcases om j i with q|q
    .exact%[j,q|e]
    .have:j=i:=by exact aeC q hj
     subst this;obtain⟨p,hp,e'⟩:=y;exact(h.2 k).mp (bF.mpr %[p,hp|e'.trans e])
  .refine bh %[uh IG _|next t _ g (wW _ _) L T %[?_|λk=>?_] λp hp=>?_]
   .refine((pm.map (·.1)).nodup_iff).mpr ?_;rw[cx,lV];refine%[λq=>?_|h.1]
    grind
   .rw[(pm.map (·.1)).mem_iff,cx,cU,h.2 k]
    grind
   grind
end
abbrev iJ(w:World):Bool:=!w.params.followText "set-order"
def nL(led:Bool):Obj:={cls:=.type "set",dict:=none,data:=.set #[] 0 (.fresh 0 0 led)}
def lM(w:World)(h:ax)(l:ae):ax:=(h.push (nL (iJ w))).push {cls:=.type "list_iterator",data:=.fields #[.ref l,.int 0 0]}
def Yb(a:Value):codeAny (model P w) A (.call (.builtin "set.__new__") %[[.type "set",a]|[]]) (wants (λv t=>v=.ref ↥s/\t={s with heap:=s.heap.push (nL (iJ w))}) E) s:=by?
 refine codeAny_of_tree ?_;refine aA (wpAny_of_eq (PySem.F.newCall_set_1 a) (bh %[uh PySem.F.plain_set_new _|rG PySem.F.entry_set_new ?_]));have b:=sub_set_self;obtain⟨hp,g,d,tk,os⟩:=s
 wp_walk
 refine AO (bh ?_);refine aA (wpAny_alloc (bh ?_));exact bh %[rfl|rfl]
def Nz{X:aj->Prop}(G:s.heap.IsList l Ρ)
  (g:∀(B:Around) (R:Result->aj->Prop),(A.handled=none->B.in1.handled=none)->B.in1.units<=A.units+8->(∀t,X t->R (.ok (.ret .none)) t)->codeAny (model P w) B (.builtin "set.update.loop" %[[.ref ↥s,.ref (↥s+1)]|[]]) R {s with heap:=lM w s.heap l})
  (v:∀t,X t->Q (.ref ↥s) t):wpAny (model P w) A (call (.type "set") [.ref l]) Q E s:=by?
 obtain⟨c,tl,y⟩:=rq.mro;have j:=rq.made;have z:=rq.sub;refine wpAny_call (codeAny_of_tree ?_);refine bh %[Code.quiet_builtin _ (by decide+kernel)|rG aeE ?_];rw[Around.under_plain (weight_type_call_type "set" [.ref l] []) rfl];have S:=rq.notType;have T:=rq.canCreate;have H:=PySem.F.typeCall_set_1 (.ref l)
 wp_walk
 refine rE (Yb (E:=E) (.ref l)) λr U k=>?_;cases r with
 |error e=>exact k
 |ok I=>
  cases I with
  |ret obj=>
   obtain⟨rfl,rfl⟩:=k;have J:(s.heap.push (nL (iJ w))).get? ↥s=some (nL (iJ w)):=cV _ rfl;have K:Q2 {s with heap:=s.heap.push (nL (iJ w))} (.ref ↥s) "set":=%[_,J|rfl];have L:=rq.init.lookup;have M:=rq.init.bind (.ref ↥s)
   wp_walk
   refine rE (codeAny_call_builtin (R:=wants (λr t=>r=.none/\X t) E) rq.init.plain PySem.F.entry_set_init (check_set_init_1 K ?_)) λN V a=>?_
   .obtain⟨O,m,b,nl,d⟩:=G;obtain⟨C,n,o,i⟩:=O;simp only at b d;subst b;subst d;have f:(s.heap.push (nL (iJ w))).get? l=some _:=bL _ m;have D:=PySem.F.sub_list_set;have F:=PySem.F.sub_list_frozenset;have p:(s.heap.push (nL (iJ w))).IsList l Ρ:=%[_,f,rfl,nl|rfl]
    delta Builtin.«set.__init__» noKeywords Builtin.Frozenset.updateFrom
    generalize q:pyIter=PI
    wp_walk
    subst q;refine xk p (aA (wpAny_runValue ?_));rw[eG _ _];refine g _ _ (λh=>by simp[h]) (by simp) λt x=>?_
    exact bh (bh %[rfl|x])
   .cases N with
    |error e=>exact a
    |ok u=>
     cases u with
     |ret r=>
      obtain⟨rfl,x⟩:=a
      wp_walk
      exact v _ x
     |_=>exact a.elim
  |_=>exact k.elim
section
variable{prog:aC}{w:World}{K:Type}[DecidableEq K]{knd:KeyKind prog w K}
def NA(led:Bool):Tab (SetTable.fresh 0 0 led) []:=by
 refine%[%[3,by decide|rfl],List.Pairwise.nil,rfl,rfl,λj a=>?_|λi b=>?_]
 .exact aT a (by simp[SetTable.fresh])
 trivial
def Yc{ka:Nat->List K}
  (M:A.handled=none)(N:A.units+8<cLine)(I:s.heap.IsList l Ρ)(y:∀k v,knd.is k v=true->∀n,∃b,ug n v=pure b)
  (O:∀(i:Nat) v,Ρ[i]?=some v->∃b,v=.ref b/\iS knd s.heap (ka i) b)(P:Ρ.size+1<2048)
  (h:∀(u:ax) (tk:Nat) (m:List (List K×ae)),s.toks<=tk->iz knd u ↥s m->qD ka Ρ.size m->
   (∀b o,b<↥s->s.heap.get? b=some o->u.get? b=some o)->Q (.ref ↥s) {s with heap:=u,toks:=tk}):
  wpAny (model prog w) A (call (.type "set") [.ref l]) Q E s:=by?
 obtain⟨ol,d,r⟩:=id I;have J:=bU d;have at_:∀b o,s.heap.get? b=some o->(lM w s.heap l).get? b=some o:=λb o e=>bL _ (bL _ e)
 have sz:(s.heap.push (nL (iJ w))).objs.size=↥s+1:=eG _ _;have G:(lM w s.heap l).IsListIter (↥s+1) l 0:=%[_,by rw[<-sz];exact cV _ rfl,rfl|rfl];have f:(lM w s.heap l).get? ↥s=some _:=bL _ (cV _ rfl);have C:=dn (o_ J);have D:↥s∉[↥s+1,l]:=λq=>(cU.mp q).elim (λz=>aT z (dn (wu _))) λz=>aT (fJ.mp z) (j5 J);have L:∀{t:aj},Moved _ (λa b=>b=a) {s with heap:=lM w s.heap l} t->∀b o,b<↥s->s.heap.get? b=some o->t.heap.get? b=some o:=λm b o bl e=>m.heap b o (λq=>(cU.mp q).elim (λz=>aT z (dn bl)) λz=>aT (fJ.mp z) (dn (o_ bl))) (at_ b o e);refine Nz (X:=λt=>X1 λm=>A3 (Moved (↥s::[↥s+1]) (λa b=>b=a) {s with heap:=lM w s.heap l} t) (iz knd t.heap ↥s m) (qD ka Ρ.size m)) I (λB R S T k=>?_) λt %[m,H,X|c]=>?_
 .refine Ya (ka:=ka) ((HL (S M) _ l C Ρ).toS) _ D (by exact iP T N) y P (Ρ.size-0) 0 _ [] (by simp) (bM _) %[G|%[ol,at_ _ _ d|r]] %[%[_,#[],0,_,f,%[rfl,rfl|rfl],rfl,rfl,NA _,(by show 0*5<7*3;decide)|(by show 7<=8191;decide)]|(λp hp=>nomatch hp)] %[rm|λx=>%[(λq=>nomatch q)|λ%[j,U|_]=>aT U (ID _)]] (λp hp=>nomatch hp) (λj v q=>?_) λt m H X c=>k t %[m,H,X|c];obtain⟨b,e,V,F,W,g,Y⟩:=O j v q;have bl:=bU g;exact%[b,e,dn bl,λz=>aT (fJ.mp z) (dn (o_ bl)),V,F,W,at_ _ _ g|Y]
 .obtain⟨u,g',d',Z,aa⟩:=t;obtain⟨p,eg,ed,eo,et⟩:=H
  grind
end
def vq(S:ae)(n:Nat):HO:=.ext λh=>n<=4096/\X4 λo a b t=>A5 (h.get? S=some o) o.ExactSet (o.data=.set a b t) (SetTable.fits t a.size=true) (a.size=n)
def Yd(K:ah)(H:Hp)(b:List V)(a:List (List Str)):Prop:=b.length=a.length/\∀(i:Nat) (v:V),b[i]?=some v->X2 λ(T:ae) (ks:List Str)=>A3 (v=V.ref T) (a[i]?=some ks) (bN K H T (ks.map V.str))
theorem NB:∀{ks:List Str} {a:List Value},Vals (ks.map V.str) a->ItemsAre (IH P w) ks a
 |[],a,h=>by cases h;exact .nil
 |k::ks,a,h=>by
  cases h with
  |cons r rest=>
   obtain⟨t,rfl⟩:=r;exact .cons (by simp[IH,PH]) (NB rest)
def Ye:∀k v,(IH P w).is k v=true->∀n,∃b,ug n v=pure b:=by intro k v h n;obtain⟨t,rfl⟩:=ac1 h;exact%[false|by cases n<;>rfl]
end
def Yf{X:Cx}(M:X.calm=true)(N:X.A.units+8<cLine):iC X (.type "set") (λJ H Q=>X3 λp f a=>A5 (J=[.ref p]) (af X.K H p f) (f.length+1<2048) (Yd X.K H f a) (∀S n,H S=aq->(n<a.length↔¬a.Nodup)->Q (.ref S) (upd H S (vq S n)))):=by?
 intro L s σ H J us Q I r h;obtain⟨p,f,a,rfl,O,hn,⟨w,tup⟩,q⟩:=h;obtain⟨u,rfl,P⟩:=vals1 r;cases P;obtain⟨g,E,pl,hz⟩:=I.list O;have il:g.length=a.length:=by rw[<-w];exact E.length.symm
 refine Yc (ka:=λi=>(a[i]?).getD []) (I.ok.hd M) N pl.isList Ye (λi v x=>?_) (by cbv) λh' tk m tl T c D=>?_
 .rw[aeG]at x;have R:=(fP.mp x).1;obtain⟨C,j⟩:∃C,f[i]?=some C:=%[_|cA (by cbv)];obtain⟨T,ks,rfl,hk,st⟩:=tup i C j;obtain⟨u,l,U⟩:=E.get j;rw[x]at l;obtain rfl:v=u:=cE l;cases U;obtain⟨y,r2,pt,_⟩:=I.tuple st;obtain⟨o,e,c,n,d⟩:=(pt);refine%[T,rfl,o,y.toArray,n,e,c,d|?_]
  simp_all [NB]
 .have sz:g.toArray.size=a.length:=by omega
  have V:=by
   have:=X_ (m:=a) c.1 λk=>by
    rw[c.2 k]
    grind-order [wY]
   rw[aY]at this;exact this
  obtain⟨o,z,W,t,F,Y,hd,Z,tb,K,hm⟩:=T.ex;have hl:z.size=m.length:=by grind [aY]
  have hh:(hashOf (IH X.prog X.w) m).length=m.length:=aY _;have fit:t.fits z.size=true:=by
   have:=tb.fits (by lia)
   cbv
  have ml:=c.le;refine%[.ref ↥s,_,I.laid (o:=vq ↥s m.length) (λb u e=>D b u (bU e) e) (bx _) %[%[by lia,o,z,W,t,F,Y,hd,fit|hl],%[o|F]|λh1 h2 %[a0,G,A,B,t',q1,q2,q3,q4|q5] k=>%[a0,G,A,B,t',k G q1,q2,q3,q4|q5]],rfl|q _ _ I.fresh V]
def Yg{X:Cx}:iC X (.builtin "len") (λb H Q=>X2 λS n=>A3 (b=[.ref S]) (H S=some (vq S n)) (Q (.int n) H)):=by?
 intro a s σ H b k Q I r h;obtain⟨S,n,rfl,e,q⟩:=h;obtain⟨u,rfl,c⟩:=vals1 r;cases c;obtain⟨⟨d,o,f,j,t,g,i,hd,fit,rfl⟩,l⟩:=I.aU S _ e;have z:(f.size:Int)<=4096:=by exact_mod_cast d
 exact call_len_set g i hd fit (Int.lt_of_le_of_lt z (by decide)) %[.int _,H,I.tok _,%[_|rfl]|q]
def ef(a b c:V):List (Str×V):=cb "layers" c (cb "entries" b (cb "layout" a []))
def fX(a b c:V):(ef a b c).lookup ("layout":Str)=some a:=by rfl
def j3(a b c:V):(ef a b c).lookup ("entries":Str)=some b:=by rfl
def vt(a b c:V):(ef a b c).lookup ("layers":Str)=some c:=by rfl
structure ik(K:ah)(C:ae):Prop where
 cl:gJ K C
 na:eS K C "layout"
 ne:eS K C "entries"
 nl:eS K C "layers"
structure sS(mg:Str->Option Value):Prop where
 good:GV mg "GOOD" (.int 0)
 yK:GV mg "WRONG_FORM" (.int 1)
 twice:GV mg "TWICE" (.int 2)
 many:GV mg "TOO_MANY" (.int 4)
 Yh:GV mg "TOO_LATE" (.int 5)
 Yi:GV mg "MOST_DEEDS" (.int 4)
 entries:GV mg "MOST_ENTRIES" (.int 40)
 lots:GV mg "MOST_LOTS" (.int 6)
 places:GV mg "MOST_PLACES" (.int 8)
def gX(lots places:List (List Nat))(a:List (List (List Nat)))(n:Nat):Int:=
 if ij lots places a≠0 then ij lots places a else if ¬a.Nodup then 2 else if 4<a.length\/n=40 then 4 else 0
theorem DY(lots places:List (List Nat)):∀xs a:List (List (List Nat)),ij lots places xs=0->ij lots places (xs++a)=ij lots places a
 |[],_,_=>rfl
 |x::xs,a,h=>by?
  have b:∀r,ij lots places (x::r)=if ig lots places x=0 then ij lots places r else ig lots places x:=λc=>rfl;rw[List.cons_append,b];rw[b]at h;by_cases e:ig lots places x=0
  .rw[aS e]at h⊢;exact DY lots places xs a h
  .rw[aE e]at h;exact aT h e
def Yj{N Ξ:Type}{f:N->Ξ}(c:∀a b,f a=f b->a=b):∀l:List N,l.Nodup->(l.map f).Nodup
 |[],_=>rm
 |a::l,h=>by grind
theorem NC:∀a b:List Str,a.map tl=b.map tl->a=b
 |[],[],_=>rfl
 |[],_::_,h=>by cases h
 |_::_,[],h=>by cases h
 |x::a,y::b,h=>by obtain⟨c,d⟩:=II h;rw[TL.nA c,NC a b d]
def ND(a:List (List Str)):(a.map λws=>ws.map tl).Nodup↔a.Nodup:=%[y9 _ a|Yj NC a]
abbrev DZ:Stmt:=inClass (top 90) 5
inductive D_(K:ah)(CG CL:ae)(f:List V)(H:Hp)(Q:VK)(E:XK):Prop
 |mk(a g ea:ae)(e h u:V)(c:List V)(lots places:List Str)(bj:List Bool)(b:List (List Str))(F:Hp)(j:f=[.ref a,u])(j:aD F H)(j:H a=some (.ins CG g (ef e (.ref ea) h)))(j:H ea=some (.lst c))(j:jE CL H e lots places bj)(j:Dt K F u b)(j:b.length+1<2048)(j:∀ws∈b,∀z∈ws,z.cps.size<=1000000)(j:∀i d,ag F H i d->Q (.int (gX (lots.map tl) (places.map tl) (b.map λws=>ws.map tl) c.length)) d)
def vv:aV ["self","told","words","why"] ["self","told"] (aM DZ):=aX
section
variable{G:WR}{H J:Hp}{K:ah}{O:V}{P:aC}{a f l:ae}{d j n:Nat}{h:ax}{r:Str->Option Value}{w:World}{y:aK}
section
variable{D g:ae}{N:Type}{θ:List PR}{ν:List Str}
def Yk(Fn:aH K "why_no_entry" "Ledger.why_no_entry" DZ f y)(G:sS r)(T:ik K l)(o:r "len"=aq)(C:r "set"=aq)(E:r "tuple"=aq)
  (I:aW P w K r h "why_wrong" 5 ["words","layout"] (Dn a)):aJ P w K r h aR 6 f y ["self","told"] (D_ K l a):=by?
 refine Fn.go vv ?_;rintro _ _ _ s H _ Q _ hr ⟨b,dx,ea,lv,yv,u,es,lots,places,bj,told,F,rfl,hF,h1,h2,hL,⟨c,A,rfl,hl,pr,hn⟩,hm,hz,k⟩;refine%[_,aw (eO d9 rfl (cq (pv 1)) (bE 2 vv)
   (aw (bp 3 vv (aI I hr (ay (pv 2) (ai (aG (pv 0))))))
   (au (bW (bY pR (pv 3) (bC G.good) (b_ _)) (au (aF (pv 3))) bZ))))
  (aw (bW (bY ur (cg Yg (by rfl) o du (ai (nr (Yf rfl (iP (ady (by decide) _) hr.units)) (by rfl) C boot_set
    (ai (dC (own:=[("words",2)]) (te:=ux (λxs H Q=>X2 λp W=>A2 (xs=[.ref p]) ((af K H p W/\∀c,H c=aq->Q (.ref c) (upd H c (.tup W)))\/(bN K H p W/\Q (.ref p) H))) (e9 (cf 2) fS)) vv (cq (pv 1)) (bE 2 vv) cR (nr Tf (by rfl) E boot_tuple (ai (pv 2))))))))
    (cg dG (by rfl) o du (ai (pv 1))) (b_ _)) (au (aF (bC G.twice))) bZ)
  (aw (bW (PW.pt (kh (bY oH (cg dG (by rfl) o du (ai (pv 1))) (bC G.Yi) (b_ _)) (m_ (bY dY (cg dG (by rfl) o du (ai (aG (pv 0)))) (bC G.entries) (b_ _))))) (au (aF (bC G.many))) bZ)
  (au (aF (bC G.good)))))|?_]
 have t:=hF _ _ hl;have pl:=bu pr;have sv:∀i x,A[i]?=some x->∃ws,told[i]?=some ws/\gN F x ws:=λi x X=>dh pr X;refine%[%[_|af.of t]|iB (K:=K) (a:=c) (xs:=A) (λi σ J=>X3 λ(L:Hp) (Y Z:Option V)=>A3 (σ=[some (.ref b),some (.ref c),Y,Z]) (ag F H L J) (ij (lots.map tl) (places.map tl) ((told.take i).map λws=>ws.map tl)=0))
  %[F,none,none,rfl,ag.refl hF|rfl] (λi σ J _ %[_,_,_,_,g|_]=>af.of (g.same _ _ t)) ?_ ?_]
 .rintro i x σ J X ⟨L,Y,Z,rfl,g,fb⟩;obtain⟨ws,aa,sx⟩:=sv i x X;refine%[g.same _ _ h1,T.cl,T.na,fX _ _ _,ws,lots,places,bj,x,lv,L,rfl,g.sub,sx.mono g.fs,hz ws (bO aa),hL.mono g.same|λF1 H1 B=>?_];refine%[rfl|⟨?_⟩];by_cases e:ig (lots.map tl) (places.map tl) (ws.map tl)=0
  .rw[e,bT rfl];refine bt %[F1,_,_,rfl,g.trans B|?_]
   simp_all [take_snoc,DY,ij]
  .rw[bK (λq=>e (by injection q))];refine a_ ?_;have M:ij (lots.map tl) (places.map tl) (told.map λws=>ws.map tl)=ig (lots.map tl) (places.map tl) (ws.map tl):=by grind [lZ,tU,DY,ij]
   have:=k _ _ (g.trans B);unfold gX at this;rw[aS (by rw[M];exact e),M]at this;exact this
 .rintro σ J ⟨L,Y,Z,rfl,g,fb⟩;have fb:ij (lots.map tl) (places.map tl) (told.map λws=>ws.map tl)=0:=by cbv
  have N:J c=some (.lst A):=g.same _ _ t;refine%[%[_|af.of N]|dI (S:=λF v (ks:List Str)=>∃T,v=V.ref T/\F T=some (.tup (ks.map V.str))) (R:=gN L) (λks:List Str=>ks) g.sub (af.of N) (cT pr λx d q=>q.mono g.fs) hn (λ_ _ _ _ s %[T,e|q]=>%[T,e|s _ _ q]) ?_ ?_]
  .rintro i v ks F1 H1 hi ⟨p,rfl,hp,av⟩ B Qk kk;refine%[p,_,rfl| .inl %[af.of (B.sub _ _ (B.fs _ _ hp))|λTn hT=>?_]];exact kk _ _ _ (ag.put B.sub hT) %[Tn,rfl|ak]
  .rintro F3 H3 D g3 ⟨D',ao,e,q,pp,az⟩;cases e;rw[Ax]at pp;have O:=g.trans g3;have ar:=bu pp;refine%[D,ao,told,rfl,af.of (g3.sub _ _ q),by simp[*],%[ar|λi v hv=>?_]|λS n hS hc=>?_]
   .obtain⟨ks,hk,Tn,e,hT⟩:=dh pp hv;exact%[Tn,ks,e,hk|bN.of (g3.sub _ _ hT)]
   have U:=O.trans (ag.bD (o:=vq S n) O.sub hS);have R:(upd H3 S (vq S n)) c=some (.lst A):=U.same _ _ t;refine%[S,n,rfl,ak,c,A,rfl,.inl (af.of R)|⟨⟨?_⟩⟩];have j:=k _ _ U;unfold gX at j;rw[aE (by rw[fb];simp),aY]at j;by_cases nd:told.Nodup
   .rw[bK (by simp[*])]
    rw[aE (λz=>z ((ND told).mpr nd))]at j;refine bt %[c,A,rfl,.inl (af.of R)|⟨⟨?_⟩⟩];by_cases big:4<told.length
    .rw[bT (by rw[pl];exact xb big)];rw[aS (.inl big)]at j;exact a_ (a_ j)
    .rw[bK (by rw[pl];lia)];refine bt %[U.same _ _ h1,T.cl,T.ne,j3 _ _ _,ea,es,rfl,.inl (af.of (U.same _ _ h2)),rfl|⟨?_⟩];by_cases m:es.length=40
     .rw[m];rw[aS (.inr m)]at j;exact a_ j
     .rw[bK (λq=>m (by grind))];rw[aE (λq=>q.elim big m)]at j;exact bt j
   .rw[bT (by simp[*])]
    rw[aS (λz=>nd ((ND told).mp z))]at j;exact a_ j
def mI(lots places:List (List Nat))(ws:List (List Nat))(n:Nat):Int:=match ws with
 |[k,x]=>if cy x=false then 1 else if(decide (x∈lots)||decide (x∈places))=true then 2 else if n≠0 then 5 else if k=wd "lot" then(if lots.length=6 then 4 else 0)else if places.length=8 then 4 else 0
 |_=>1
def NF{m:Str}(a b c:V)(d:m≠"silos")(e:m≠"places")(f:m≠"lots"):(lf a b c).lookup m=aq:=by simp_all [lf,mr]
def Ea:tl ("lot":Str)=wd "lot":=by decide+kernel
def Yl{Α places ws:List (List Nat)}(h:ws.length≠2):mI Α places ws n=1:=by
 match ws,h with
 |[],_=>rfl
 |[_],_=>rfl
 |[_,_],h=>exact aT rfl h
 |_::_::_::_,_=>rfl
abbrev Eb:Stmt:=inClass (top 90) 4
inductive Ec(CG CL:ae)(e:List V)(H:Hp)(Q:VK)(E:XK):Prop
 |mk(a f ea:ae)(d g u:V)(b:List V)(lots places:List Str)(bj:List Bool)(ws:List Str)(F:Hp)(i:e=[.ref a,u])(i:aD F H)(i:H a=some (.ins CG f (ef d (.ref ea) g)))(i:H ea=some (.lst b))(i:jE CL H d lots places bj)(i:gN F u ws)(i:∀z∈ws,z.cps.size<=1000000)(i:∀h c,ag F H h c->Q (.int (mI (lots.map tl) (places.map tl) (ws.map tl) b.length)) c)
def Ed:aV ["self","words","full"] ["self","words"] (aM Eb):=aX
def Ym(S:aH K "why_no_name" "Ledger.why_no_name" Eb f y)(G:sS r)(T:ik K D)(i:iI K a)(g:r "len"=aq)
  (t:aW P w K r h "is_name" 2 ["word"] Dc)(v:gL P w K r h a "has_name" 1 ["self","name"] (DH a)):aJ P w K r h aR 3 f y ["self","words"] (Ec D a):=by?
 refine S.go Ed ?_;rintro _ _ _ _ _ _ _ _ I ⟨b,U,ea,lv,W,u,J,lots,places,bj,ws,F,rfl,L,X,Y,Z,⟨l,rfl,hl,hn⟩,M,k⟩;refine%[_,aw (bW (PW.pt (kh (bY pR (cg dG (by rfl) g du (ai (pv 1))) aL (b_ _)) (m_ (nh (eQ (aI t I (ai (aQ bA (pv 1) aL (λ_ _=>rfl)))) (λ_=>rfl)))))) (au (aF (bC G.yK))) bZ)
  (aw (bW (eQ (jY v I (by decide) (aG (pv 0)) (ai (aQ bA (pv 1) aL (λ_ _=>rfl)))) (λ_=>rfl)) (au (aF (bC G.twice))) bZ)
  (aw (bW (bY (Ww I.rQ) (aG (pv 0)) (bH e_) (b_ _)) (au (aF (bC G.Yh))) bZ)
  (aw (bW (bY dY (aQ bA (pv 1) aL (λ_ _=>rfl)) cK (b_ _))
   (au (bp 2 Ed (i7 dY (cg dG (by rfl) g du (ai (aG (aG (pv 0))))) (bC G.lots) rfl)))
   (au (bp 2 Ed (i7 dY (cg dG (by rfl) g du (ai (aG (aG (pv 0))))) (bC G.places) rfl))))
  (au (aF (rM (eQ (pv 2) (λ_=>rfl)) (bC G.many) (bC G.good)))))))|?_]
 have d:=L _ _ hl;refine%[l,_,rfl,.inl (af.of d),rfl|⟨?_⟩];by_cases e:ws.length=2
 .match ws,e,d,M,k with
  |[z,x],_,d,M,k=>
   refine bt %[af.of d,bg (j:=1) rfl,x,F,rfl,L,M x (by simp)|λF1 Q s=>%[_,rfl|?_]];have A:∀n,mI (lots.map tl) (places.map tl) ([z,x].map tl) n=if cy (tl x)=false then 1 else if(decide (tl x∈lots.map tl)||decide (tl x∈places.map tl))=true then 2 else if n≠0 then 5 else if tl z=wd "lot" then(if(lots.map tl).length=6 then 4 else 0)else if(places.map tl).length=8 then 4 else 0:=λ_=>rfl;rw[A]at k;cases B:cy (tl x)with
   |false=>
    have:=k _ _ s;rw[aS B]at this;exact a_ this
   |true=>
    have C:Q l=some (.lst ([z,x].map V.str)):=s.same _ _ d;have j:Q b=some (.ins D U (ef lv (.ref ea) W)):=s.same _ _ X;have N:Q ea=some (.lst J):=s.same _ _ Y;have E:=Z.mono s.same;obtain⟨aa,ao,la,pa,sa,rfl,O,k2,k3,k4⟩:=E.ex;rw[aE (by rw[B];simp)]at k;refine bt %[j,T.cl,T.na,fX _ _ _,O,NF _ _ _ (by decide+kernel) (by decide+kernel) (by decide+kernel),af.of C,bg (j:=1) rfl,x,lots,places,bj,_,rfl,E,_,rfl|?_];cases R:(decide (tl x∈lots.map tl)||decide (tl x∈places.map tl))with
    |true=>
     have:=k _ _ s;rw[aS R]at this;exact a_ this
    |false=>
     rw[aE (by rw[R];simp)]at k;refine bt %[j,T.cl,T.ne,j3 _ _ _,bM _|λp hp=>?_];have H:=s.trans (ag.bD (o:=.lst []) s.sub hp);have o:=cQ (o:=.lst []) hp;refine%[ea,J,p,rfl,rfl,af.of (o _ _ N),af.of ak|⟨?_⟩];cases J with
     |cons e0 er=>
      have:=k _ _ H;rw[aS (by simp)]at this;exact a_ this
     |nil=>
      rw[aE (by simp)]at k;refine bt %[af.of (o _ _ C),bg (j:=0) rfl,rfl|⟨?_⟩];rw[jc,Ea];by_cases m:tl z=wd "lot"
      .rw[bT m];rw[aS m,aY]at k;refine a_ %[o _ _ j,T.cl,T.na,fX _ _ _,o _ _ O,i.cl,i.nl,lJ _ _ _,la,_,rfl,.inl (af.of (o _ _ k2)),rfl|?_];rw[aY];by_cases c:lots.length=6
       .have:=k _ _ H;rw[aS c]at this;rw[c];exact%[_,rfl|a_ this]
       .have:=k _ _ H;rw[aE c]at this;rw[bK (λq=>c (by grind))];exact%[_,rfl|bt this]
      .rw[bK m];rw[aE m,aY]at k;refine bt %[o _ _ j,T.cl,T.na,fX _ _ _,o _ _ O,i.cl,i.np,kF _ _ _,pa,_,rfl,.inl (af.of (o _ _ k3)),rfl|?_];rw[aY];by_cases c:places.length=8
       .have:=k _ _ H;rw[aS c]at this;rw[c];exact%[_,rfl|a_ this]
       .have:=k _ _ H;rw[aE c]at this;rw[bK (λq=>c (by grind))];exact%[_,rfl|bt this]
 .rw[bK (λq=>e (by grind))];have:=k _ _ (ag.refl L);rw[Yl (by cbv)]at this;exact a_ (a_ this)
structure zg(K D:Nat)(w:WR):Prop where
 k0:0<K
 kb:K<=2^800
 d0:0<D
 db:D<=2^8000
 pl:∀a∈w.places,∀p∈a,Dv K p.kilos/\∀g∈p.green,Dv D g
 so:∀p∈w.sold,Dv K p.kilos/\∀g∈p.green,Dv D g
 th:∀p∈w.eV,Dv K p.kilos/\∀g∈p.green,Dv D g
def Yn:∀a,a<41->(40-a)*(a+1)<=420:=by decide
def Sz.iK(h:Sz n G)(k:n<=40):X2 λK D=>zg K D G:=by?
 obtain⟨K,D,a,b,f,g,ab,i,j,c,d,e⟩:=h.ex;refine%[K,D,f,bq i (gj (by decide) (by lia)),g,bq j (gj (by decide) ?_),c,λp hp=>d p (mS _ hp)|e];have l:b*(a+1)<=(40-a)*(a+1):=adT _ (by lia);have m:=Yn a (by lia)
 lia
def oV{N:Nat}(a:N<=41):(((9999*N:Nat):Int):Rat)<=(((2^19:Nat):Int):Rat):=by
 rw[i5]
 lia
def Sz.vw(h:Sz d G)(b:G.Ok n j)(c:θ∈G.places):bw θ<=(((9999*d:Nat):Int):Rat):=
 d5 (qf (λθ a=>yi (b.parts θ a)) c) h.yo
def Yo(a:G.Ok n j):0<=cX bI G.places:=by refine jB λx b=>?_;obtain⟨q,c,rfl⟩:=bF.mp b;exact nE (a.parts q c)
def Sz.vz(h:Sz d G)(a:G.Ok n j)(e:θ∈G.places):bI θ<=(((9999*d:Nat):Int):Rat):=by
 have f:=qf (λθ b=>nE (a.parts θ b)) e;have c:=h.uR;rw[ie]at c;have g:=nE a.sold;have i:=nE a.lost
 grind
def Sz.oW(h:Sz n G)(b:n<=40)(a:θ∈G.places):θ.length<=1000:=by?
 have c:=qf (f:=cj) (λθ i=>by show(0)<=((θ.length:Int):Rat);rw[mX];simp) a;have d:=h.cnt;have e:(0)<=cj G.eV:=by simp[cj,mX]
 have f:cj θ<=((n:Int)):=by grind
 grind [cj,i5]
def Sz.aZ(h:Sz n G):G.eV.length<=n:=by?
 have b:=h.cnt;have c:(0)<=cX cj G.places:=jB λx a=>by obtain⟨q,d,rfl⟩:=bF.mp a;show(0)<=((q.length:Int):Rat);rw[mX];simp
 have e:cj G.eV<=((n:Int)):=by grind
 simp_all [cj,i5]
def Yp:(((2^19:Nat):Int):Rat)+(((2^19:Nat):Int):Rat)<=(((2^20:Nat):Int):Rat):=by grind
def sT:(((2^19:Nat):Int):Rat)<=(((2^20:Nat):Int):Rat):=by rfl
def zg.gY{I υ:Nat}(r:zg I υ G)(h:Sz d G)(b:G.Ok n j)(c:d<=40)(a:θ∈G.places):fG n I υ θ:=
 %[b.parts θ a,r.k0,bq r.kb (gj (by decide) (by decide)),r.d0,bq r.db (gj (by decide) (by decide)),r.pl θ a,
  d5 (d5 (h.vw b a) (oV (by exact lX c))) sT|d5 (d5 (h.vz b a) (oV (by exact lX c))) sT]
def Ee{b:List PR}(c:fG n j d θ)(e:∀p∈b,p.Ok n)(hd:∀p∈b,Dv j p.kilos/\∀g∈p.green,Dv d g)(f:bw θ+bw b<=(((2^20:Nat):Int):Rat))(h:bI θ+bI b<=(((2^20:Nat):Int):Rat)):fG n j d (θ++b):=
 %[λp hp=>(eF.mp hp).elim (c.ok p) (e p),c.k0,c.kb,c.d0,c.db,λp hp=>(eF.mp hp).elim (c.dv p) (hd p),by simp_all [Lx]|by simp_all [ie]]
def fG.wide{I:Nat}(h:fG n j d θ)(b0:0<I)(b:d*I<=2^8900):fG n j (d*I) θ:=
 %[h.ok,h.k0,h.kb,rg h.d0 b0,b,λp hp=>%[(h.dv p hp).1|λg c=>((h.dv p hp).2 g c).mono I],h.ks|h.gs]
def Yq(a:n<=2^800)(b:j<=2^8000)(c:d<=2^19*n):j*d<=2^8900:=by refine bq (wR b (bq c (Ii _ a))) ?_;omega
def NG(h:n<=9999):cw ((n:Int):Rat):=by
 refine lG (by decide) Ig (Dv.int 1 n) ?_ ?_
 .rw[mX];exact tY n
 .rw[i5]
  lia
def zh(h:n<=9999):((n:Int):Rat)<=(((2^20:Nat):Int):Rat):=by
 rw[i5]
 lia
abbrev nI(l:List Nat):List Int:=l.map λ(n:Nat)=>(n:Int)
def wf(a b c d:V):List (Str×V):=cb "thrown" d (cb "sold" c (cb "places" b (cb "choices" a [])))
def nM(a b c d:V):(wf a b c d).lookup ("choices":Str)=some a:=by rfl
def iV(a b c d:V):(wf a b c d).lookup ("places":Str)=some b:=by rfl
def nN(a b c d:V):(wf a b c d).lookup ("sold":Str)=some c:=by rfl
def vA(a b c d:V):(wf a b c d).lookup ("thrown":Str)=some d:=by rfl
structure fY(K:ah)(C:ae):Prop where
 cl:gJ K C
 nc:eS K C "choices"
 np:eS K C "places"
 ns:eS K C "sold"
 nt:eS K C "thrown"
inductive fZ(K:ah)(b f:ae)(F:Hp)(v:V)(x:List Nat×WR):Prop
 |mk a g c pv d e(h:v=.ref a)(h:F a=some (.ins f g (wf c pv d e)))(h:dO F c (nI x.1))(h:mH K b F pv x.2.places)(h:fF K b F d x.2.sold)(h:fF K b F e x.2.eV)
theorem fZ.mono{x:List Nat×WR}(h:fZ K a f H O x)(s:aD H J):fZ K a f J O x:=by obtain⟨b,c,d,pv,g,i,e,q,j,k,l,m⟩:=h;exact%[b,c,d,pv,g,i,e,s _ _ q,j.mono s,k.up s,l.up s|m.up s]
abbrev fi(K:ah)(a b:ae)(F:Hp)(v:V)(c:cB):Prop:=dj (fZ K a b F) K F v c
def fi.up{b:cB}(h:fi K a f H O b)(s:aD H J):fi K a f J O b:=dj.mono h s λc c q=>q.mono s
abbrev Ef:Stmt:=inClass (top 66) 0
inductive Eg(C:ae)(g:List V)(H:Hp)(Q:VK)(E:XK):Prop
 |mk(p f:ae)(a b c d:V)(h:g=[.ref p,a,b,c,d])(h:H p=some (.ins C f []))(h:∀e:Hp,e p=some (.ins C f (wf a b c d))->(∀b o,H b=some o->b≠p->e b=some o)->Q .bB e)
def Yr:aV ["self","choices","places","sold","thrown"] ["self","choices","places","sold","thrown"] (aM Ef):=aX
def Ys(i:aH K "__init__" "Way.__init__" Ef f y)(T:fY K a):aJ P w K r h aR 1 f y ["self","choices","places","sold","thrown"] (Eg a):=by? refine i.go Yr ?_;rintro m m m m m m m m m ⟨p,j,g,b,c,d,rfl,hp,k⟩;refine%[_,aw (fR (pv 0) (pv 1) rfl) (aw (fR (pv 0) (pv 2) rfl) (aw (fR (pv 0) (pv 3) rfl) (au (fR (pv 0) (pv 4) rfl))))|?_];refine%[hp,T.cl,T.nc,(by decide)|?_];refine%[ak,T.cl,T.np,(by show 1<1000;decide)|?_];refine%[ak,T.cl,T.ns,iP (nj _ _ _) (by show 1+1<1000;decide)|?_];refine%[ak,T.cl,T.nt,iP (nj _ _ _) (iP (aeH (nj _ _ _) _) (by show 1+1+1<1000;decide))|?_];exact k _ ak λb o e l=>by simp_all [aB]
abbrev vB(P:aC)(w:World)(K:ah)(mg:Str->Option Value)(base:ax)(CW:ae):Prop:=jX P w K mg base "Way" CW 1 ["self","choices","places","sold","thrown"] (Eg CW)
abbrev Eh:Stmt:=top 67
inductive Ei(K:ah)(CP CW CL:ae)(c:List V)(H:Hp)(Q:VK)(E:XK):Prop
 |mk(lots places:List Str)(bj:List Bool)(v:V)(F:Hp)(d:c=[v])(d:aD F H)(d:jE CL H v lots places bj)(d:∀a b r,ag F H a b->fZ K CP CW a r ([],mD places.length)->Q r b)
def Ej:aV ["layout","name"] ["layout"] (aM Eh):=aX
def Yt{z:ae}(G:aH K "first_way" "first_way" Eh f y)(T:iI K z)(c:vB P w K r h l):aJ P w K r h aR 3 f y ["layout"] (Ei K a l z):=by?
 refine G.go Ej ?_;rintro _ _ _ s _ _ _ _ H ⟨lots,places,bj,v,F,rfl,I,B,k⟩;refine%[_,au (aF (lD c H (by decide) rfl (ay (bH e_) (ay (dC (own:=[("name",1)]) Ej (cq (aG (pv 0))) (bE 1 Ej) cR (bH e_)) (ay (bH e_) (ai (bH e_)))))))|?_];obtain⟨b,U,la,pa,sa,rfl,J,V,C,W⟩:=B.ex;refine%[bM _|λL o=>?_];have m:=ag.put (o:=.lst []) I o;refine%[m.same _ _ J,T.cl,T.np,kF _ _ _,%[_|af.of (m.same _ _ C)]|dI (K:=K) (S:=λF v (x:List PR)=>fF K a F v x) (xs:=places) (λ_=>[]) m.sub (af.of (m.same _ _ C)) (oS _) (by rw[aY];have:=B.dH;lia) (λ_ _ _ _ s q=>q.up s) ?_ ?_]
 .rintro i v x X Y E rfl g Z M;refine%[bM _|λN p=>M _ _ _ (ag.put (o:=.lst []) g.sub p) %[N,[],rfl,ak,.nil|bM _]]
 .intro F2 H2 D A O;refine%[bM _|λQ t=>?_];have n:=ag.put (o:=.lst []) A.sub t;refine%[bM _|λR u=>?_];have d:=ag.put (o:=.lst []) n.sub u;intro x e nx nd S;refine%[x,e,_,_,_,_,rfl,ak|λH5 E kp=>%[rfl|?_]];have j:=ag.made d.sub nx nd E kp;refine k _ _ _ ((((m.trans A).trans n).trans d).trans j) %[x,e,_,_,_,_,rfl,ak,%[L,rfl,((A.fs.trans n.fs).trans (d.fs.trans j.fs)) _ _ ak|bM _],?_,%[Q,[],rfl,(d.fs.trans j.fs) _ _ ak,.nil|bM _]|%[R,[],rfl,j.fs _ _ ak,.nil|bM _]];have q:=mH.up O ((n.fs.trans d.fs).trans j.fs)
  simp_all [mD,List.map_const']
abbrev Ek:Stmt:=top 69
inductive vC(K:ah)(CP CW:ae)(d:List V)(H:Hp)(Q:VK)(E:XK):Prop
 |mk(x:List Nat×WR)(a:List (List PR))(u v:V)(F:Hp)(e:d=[u,v])(e:aD F H)(e:fZ K CP CW F u x)(e:mH K CP F v a)(e:∀b c r,ag F H b c->fZ K CP CW b r (x.1,{x.2 with places:=a})->Q r c)
def Yu:aV ["way","places"] ["way","places"] (aM Ek):=aX
def Yv(m:aH K "with_places" "with_places" Ek f y)(T:fY K D)(d:vB P w K r h D):aJ P w K r h aR 3 f y ["way","places"] (vC K a D):=by? refine m.go Yu ?_;rintro M M M M M M M M n ⟨x,o,u,v,F,rfl,j,⟨b,E,G,p,H,I,rfl,e,q,J,s,t⟩,z,k⟩;have i:=j _ _ e;refine%[_,au (aF (lD d n (by decide) rfl (ay (aG (pv 0)) (ay (pv 1) (ay (aG (pv 0)) (ai (aG (pv 0))))))))|?_];refine%[i,T.cl,T.nc,nM _ _ _ _,i,T.cl,T.ns,nN _ _ _ _,i,T.cl,T.nt,vA _ _ _ _|?_];intro c l A nd B;refine%[c,l,_,_,_,_,rfl,ak|λL C kp=>%[rfl|?_]];have g:=ag.made j A nd C kp;exact k _ _ _ g %[c,l,_,_,_,_,rfl,ak,q.mono g.fs,z.up g.fs,s.up g.fs|t.up g.fs]
abbrev El:Stmt:=top 77
inductive vD(K:ah)(CP CW:ae)(d:List V)(H:Hp)(Q:VK)(E:XK):Prop
 |mk(x:List Nat×WR)(c:List Nat)(u v:V)(F:Hp)(e:d=[u,v])(e:aD F H)(e:fZ K CP CW F u x)(e:dO F v (nI c))(e:∀a b r,ag F H a b->fZ K CP CW a r (c,x.2)->Q r b)
def Yw:aV ["way","choices"] ["way","choices"] (aM El):=aX
def Yx(m:aH K "chosen" "chosen" El f y)(T:fY K D)(d:vB P w K r h D):aJ P w K r h aR 3 f y ["way","choices"] (vD K a D):=by? refine m.go Yw ?_;rintro J J J J J J J J n ⟨x,cs,u,v,F,rfl,j,⟨b,C,E,o,G,H,rfl,e,I,p,q,s⟩,t,k⟩;have i:=j _ _ e;refine%[_,au (aF (lD d n (by decide) rfl (ay (pv 1) (ay (aG (pv 0)) (ay (aG (pv 0)) (ai (aG (pv 0))))))))|?_];refine%[i,T.cl,T.np,iV _ _ _ _,i,T.cl,T.ns,nN _ _ _ _,i,T.cl,T.nt,vA _ _ _ _|?_];intro c l z nd A;refine%[c,l,_,_,_,_,rfl,ak|λJ B kp=>%[rfl|?_]];have g:=ag.made j z nd B kp;exact k _ _ _ g %[c,l,_,_,_,_,rfl,ak,t.mono g.fs,p.up g.fs,q.up g.fs|s.up g.fs]
def DM.Is(d:DM):dM->Prop
 |.come l k i=>d.words.head?=some "come"/\d.kilos=k/\d.MO=some l/\d.places=[i]
 |.move k i j=>d.words.head?=some "move"/\d.kilos=k/\d.places=[i,j]
 |.weigh i k=>d.words.head?=some "weigh"/\d.kilos=k/\d.places=[i]
 |.sell k i=>d.words.head?=some "sell"/\d.kilos=k/\d.places=[i]
 |.waste k i=>d.words.head?=some "waste"/\d.kilos=k/\d.places=[i]
abbrev gA(places:List Str)(bj:List Bool):List (rA×Bool):=(places.map tl).zip bj
def Yy{bj:List Bool}(h:bj.length=ν.length):(gA ν bj).length=ν.length:=by cbv
def NH{bj:List Bool}(h:bj.length=ν.length)(a:n<ν.length):(bj.map V.bl)[n]?=some (.bl (silo (gA ν bj) n)):=by simp_all [silo,aY]
structure sU(K:ah)(a b c f:ae)(F H:Hp)(u v g:V)(x:List Nat×WR)(d:DM)(e:dM)(lots places:List Str)(bj:List Bool):Prop where
 s:aD F H
 way:fZ K a b F u x
 bX:sO K c F v d
 is:d.Is e
 lay:jE f H g lots places bj
 ok:x.2.Ok lots.length places.length
 sz:∃N,N<40/\Sz N x.2
 di:Deed.In lots.length places.length e
def zj:dM->Nat
 |.come _ k _=>k
 |.move k _ _=>k
 |.weigh _ k=>k
 |.sell k _=>k
 |.waste k _=>k
def sV:dM->Nat
 |.come _ _ i=>i
 |.move _ i _=>i
 |.weigh i _=>i
 |.sell _ i=>i
 |.waste _ i=>i
def wordOf:dM->Str
 |.come _ _ _=>"come"
 |.move _ _ _=>"move"
 |.weigh _ _=>"weigh"
 |.sell _ _=>"sell"
 |.waste _ _=>"waste"
def DM.Is.all{d:DM}{e:dM}(h:d.Is e):d.words.head?=some (wordOf e)/\d.kilos=zj e/\∃r,d.places=sV e::r:=by? cases e<;>first|exact%[h.1,h.2.1,_|h.2.2.2]|exact%[h.1,h.2.1,_|h.2.2]
def NI{e:dM}(h:Deed.In n j e):1<=zj e/\zj e<=9999/\sV e<j:=by
 cases e with
 |come l k i=>exact h.2
 |move k i a=>exact%[h.1,h.2.1|h.2.2.1]
 |weigh i k=>exact h
 |sell k i=>exact h
 |waste k i=>exact h
def zk{c:Prop}[Decidable c]{a:N}:(if c then aq else some a).isSome=(false||!decide c):=by by_cases h:c<;>simp[h]
def Yz:decide (("move":Str)="come")=false:=by decide+kernel
def YA:decide (("weigh":Str)="come")=false:=by decide+kernel
def YB:decide (("sell":Str)="come")=false:=by decide+kernel
def YC:decide (("waste":Str)="come")=false:=by decide+kernel
def YD{pl:List (rA×Bool)}{e:dM}:(cJ n pl G e).isSome=(decide (wordOf e="come")||!decide (bw (aO G (sV e))<((zj e:Int):Rat))):=by
 cases e with
 |come l k i=>rfl
 |move k i j=>exact zk
 |weigh i k=>exact zk
 |sell k i=>exact zk
 |waste k i=>exact zk
def NJ{x:Str}(h:ν.head?=some x):(ν.map V.str)[0]?=some (.str x):=by
 cases ν with
 |nil=>cases h
 |cons a r=>cbv
def sU.hp{v lv:V}{x:List Nat×WR}{d:DM}{e:dM}{places:List Str}{bj:List Bool}(h:sU K a f D l J H O v lv x d e ν places bj):aO x.2 (sV e)∈x.2.places:=fE (by rw[h.ok.len];exact(NI h.di).2.2)
def mJ{c:List (List PR)}{i:Nat}(h:mH K a J O c)(j:i<c.length):X3 λl f y=>A4 (O=.ref l) (J l=some (.lst f)) (f[i]?=some y) (fF K a J y (c.getD i [])):=by?
 obtain⟨l,f,e,q,p,n⟩:=h;have g:i<f.length:=by rw[bu p];exact j
 obtain⟨b,k,r⟩:=dh p (cA g);refine%[l,f,f[i],e,q,cA g|?_];rw[ir,k];exact r
abbrev Em:Stmt:=top 70
inductive En(K:ah)(CP CW CD CL:ae)(b:List V)(H:Hp)(Q:VK)(E:XK):Prop
 |mk(u v f:V)(x:List Nat×WR)(d:DM)(e:dM)(lots places:List Str)(bj:List Bool)(F:Hp)(h:b=[u,v])(h:sU K CP CW CD CL F H u v f x d e lots places bj)(h:∀c a,ag F H c a->Q (.bl (cJ lots.length (gA places bj) x.2 e).isSome) a)
def YE:aV ["way","deed"] ["way","deed"] (aM Em):=aX
def YF(M:aH K "can_be" "can_be" Em f y)(L:fY K D)(q:mG K l)(p:aW P w K r h "is_less" 1 ["first","second"] (sA K))(m:aW P w K r h "kilos_of" 4 ["parts"] (qj K a)):
  aJ P w K r h aR 5 f y ["way","deed"] (En K a D l g):=by?
 refine M.go YE ?_;rintro _ _ _ s _ O _ _ G ⟨u,v,lv,x,d,e,lots,places,bj,F,rfl,b,k⟩;refine%[_,aw (bW (bY dY (aQ bA (aG (pv 1)) aL (λ_ _=>rfl)) cK (b_ _)) (au (aF m8)) bZ)
  (au (aF (RM (aI p G (ay (aI m G (ai (aQ bA (aG (pv 0)) (aQ bA (aG (pv 1)) aL (λ_ _=>rfl)) (λ_ _=>rfl)))) (ai (aG (pv 1))))))))|?_]
 have n:=b.s;obtain⟨da,Q,wv,R,S,rfl,hd,⟨wl,rfl,B,_⟩,C,⟨pl,rfl,t,_⟩⟩:=b.bX;obtain⟨i1,i2,c,T⟩:=b.is.all;obtain⟨c1,U,V⟩:=NI b.di;refine%[n _ _ hd,q.cl,q.nw,Dy _ _ _ _,n.sq B,bg (j:=0) (NJ i1),rfl|⟨?_⟩];have z:=k;rw[YD]at z;rw[jc];have W:decide (tl (wordOf e)=tl "come")=decide (wordOf e="come"):=by grind [TL.nA]
 rw[W];cases H:decide (wordOf e="come")with
 |true=>
  rw[H]at z;exact a_ (z _ _ (ag.refl n))
 |false=>
  rw[H]at z;obtain⟨wa,X,cv,Y,sv,tv,rfl,hw,w1,Z,w3,w4⟩:=b.way;obtain⟨i,O,j,rfl,hl,hy,E⟩:=mJ Z (i:=sV e) (by rw[b.ok.len];exact V);rw[T]at t;obtain⟨N,I,J⟩:=b.sz;obtain⟨KK,DD,wr⟩:=J.iK (by exact dZ I);have o:=wr.gY J b.ok (by exact dZ I) b.hp;refine bt %[n _ _ hw,L.cl,L.np,iV _ _ _ _,n _ _ hd,q.cl,q.np,qv _ _ _ _,n.sq t,bg (j:=0) rfl,n.sq hl,bg hy,_,_,F,rfl,n,E,o.sums|λF1 H1 r1 A q1=>?_];refine%[A.same _ _ (n _ _ hd),q.cl,q.nk,qu _ _ _ _,_,_,r1,R,rfl,q1.mono A.sub,C.mono (A.fs.trans A.sub),?_,by rw[i2];exact(NG U).wide|⟨?_⟩]
  .have:=o.sums.part ((aO x.2 (sV e)).map (·.kilos)).length;rw[eK]at this;exact this.wide
  .rw[i2];exact z _ _ A
def YG{Δ:L2.St}{ι:TE}{S:Hp->V->N->Prop}{p:ae->Hp->Prop}(n:Nat)(g:Nat->N)(u:aD J H)(w:n<=1000000)
  (mono:∀d e v b,aD d e->S d v b->S e v b)
  (step:∀(i:Nat) (d a:Hp),i<n->ag J H d a->∀k:VK,(∀y f q,ag d a q f->S q y (g i)->k y f)->ι ((wipe Δ [j]).set j (some (.int i))) a k)
  (done:∀d a D,ag J H d a->dj (S d) K d (.ref D) ((bV n).map g)->p D a):
  ∀D,H D=aq->∃W:Nat->Nat->Hp->Prop,(∃m,W 0 m (upd H D (.lst [])))/\∀i m a,W i m a->
   ((mn 0 n).stop i a/\p D a)\/((mn 0 n).go i a/\∃l:Hp->Prop,(∀c,l c->∃r,r<m/\W (i+1) r c)/\∀v c,(mn 0 n).ic i a v c->gH j v (wipe Δ [j]) c λo x=>wipe o [j]=wipe Δ [j]/\jR o x λb s=>
    if b=true then ι o s λy f=>∃acc,f D=some (.lst acc)/\acc.length<bf/\l (upd f D (.lst (acc++[y])))else l s):=by
 refine qk (K:=K) (λi=>some (g i)) u w mono (λa C=>bx _) (λi a t C=>t) ?_ ?_
 .rintro i d a t gr v c ⟨rfl,rfl⟩ k z A B;refine%[uX|?_]
  grind [jR]
 .intro d a D gr h;refine done d a D gr ?_
  cbv
def set_range{Z:Rat}:(bV n).map (λi=>if i=j then Z else 0)=(cS n (0:Rat)).set j Z:=by
 refine tZ λi=>?_;by_cases a:i<n
 .by_cases e:i=j
  .subst e;simp[a]
  .simp[a,e,Io,kP e,Q3]
 .simp[a,Io,Q3]
inductive iW(K:ah)(CP CW CD CL:ae)(z:Str)(f:List V)(H:Hp)(Q:VK)(E:XK):Prop
 |mk(u v c:V)(x:List Nat×WR)(d:DM)(e:dM)(lots places:List Str)(bj:List Bool)(F:Hp)(y:WR)(h:f=[u,v,c])(h:sU K CP CW CD CL F H u v c x d e lots places bj)(h:wordOf e=z)(h:cJ lots.length (gA places bj) x.2 e=some y)(h:∀a b r,ag F H a b->fZ K CP CW a r (x.1,y)->Q r b)
abbrev Eo:Stmt:=top 71
def vE:aV ["way","deed","layout","place","greens","there","lot"] ["way","deed","layout"] (aM Eo):=aX
def YH{L z:ae}(Fn:aH K "come" "come" Eo f y)(TW:fY K l)(I:mG K z)(C:iI K L)(hZ:lE K r "ZERO" 0)(Y:r "len"=aq)(E:r "range"=aq)(J:jX P w K r h "Part" a 1 ["self","kilos","greens"] (qi a))
  (Q:aW P w K r h "put" 6 ["there","added","silo"] (yI K a))(aa:aW P w K r h "with_place" 1 ["places","place","parts"] (qx K a))(R:aW P w K r h "with_places" 3 ["way","places"] (vC K a l)):
  aJ P w K r h aR 7 f y ["way","deed","layout"] (iW K a l z L "come"):=by?
 refine Fn.go vE ?_;rintro _ _ _ s _ _ _ _ Z ⟨u,v,lv,x,d,e,lots,places,bj,F,b,rfl,c,he,hy,k⟩;have G:=c.s;obtain⟨zz,hz,ao⟩:=hZ.ex;refine%[_,aw (bp 3 vE (aQ bA (aG (pv 1)) aL (λ_ _=>rfl)))
  (aw (oM (i:=4) (own:=[("lot",6)]) (te:=Jo (xI (e6 Bc (cf 6) (fL K (cf 1) "lot"))) (fL K (cf 1) "kilos") (tC (.ref zz))) rfl vE.nd rfl rfl (oN rfl rfl rfl rfl) (JB rfl E (ai (cg dG (by rfl) Y du (ai (aG (pv 2)))))) (nu rfl) (λ_ _ _ _ _=>bE 6 vE) (λ_ _ _ _ _=>cR)
   (λ_ _ _ _ _=>rM (bY dY (pv 6) (aG (pv 1)) (b_ _)) (aG (pv 1)) (ke (v:=.ref zz) rfl hz rfl)))
  (aw (bp 5 vE (aI Q Z (ay (aQ bA (aG (pv 0)) (pv 3) (λ_ _=>rfl)) (ay (bH (ai (lD J Z (by decide) rfl (ay (aG (pv 1)) (ai (pv 4)))))) (ai (aQ bA (aG (pv 2)) (pv 3) (λ_ _=>rfl)))))))
  (au (aF (aI R Z (ay (pv 0) (ai (aI aa Z (ay (aG (pv 0)) (ay (pv 3) (ai (pv 5))))))))))))|?_]
 cases e with
 |move k i j=>exact aT he (of_decide_eq_false Yz)
 |weigh k i=>exact aT he (of_decide_eq_false YA)
 |sell k i=>exact aT he (of_decide_eq_false YB)
 |waste k i=>exact aT he (of_decide_eq_false YC)
 |come m A i=>
 have ey:b=qb (gA places bj) x.2 i [fe lots.length m A]:=(cE hy).symm;have ar:=c.di;obtain⟨d1,d2,d3,d4⟩:=ar;obtain⟨i1,i2,i3,i4⟩:=c.is;obtain⟨da,a7,wv,kv,a8,rfl,hd,⟨wl,rfl,a9,_⟩,M,⟨pl,rfl,S,_⟩⟩:=c.bX;obtain⟨wa,bb,cv,bo,sv,tv,rfl,hw,w1,w2,w3,w4⟩:=c.way;obtain⟨br,bz,la,pa,sa,rfl,k1,k2,k3,k4⟩:=c.lay.ex;obtain⟨N,hN,T⟩:=c.sz;obtain⟨KK,DD,wr⟩:=T.iK (by exact dZ hN);have hm:aO x.2 i∈x.2.places:=c.hp;have U:=wr.gY T c.ok (by exact dZ hN) hm;have B:i<x.2.places.length:=by rw[c.ok.len];exact d4
 rw[i4]at S;rw[i3]at hd;rw[i2]at M;have av:∀p∈[fe lots.length m A],p.Ok lots.length:=λp hp=>by simp_all [yk]
 have az:fG lots.length KK DD (aO x.2 i++[fe lots.length m A]):=by
  have b9:=uS d3;have n9:=oV (N:=N+1) (by exact lX hN);rw[Ca]at n9;have kc:bw [fe lots.length m A]=((A:Int):Rat):=by rw[nB,oP,jj];rfl
  have gc:bI [fe lots.length m A]=((A:Int):Rat):=by rw[qe,LS d1];show _+(0:Rat)=_;rw[jj]
  have q1:=T.vw c.ok hm;have q2:=T.vz c.ok hm;have q3:=sT;refine Ee U av (λp hp=>?_) (by rw[kc];grind) (by rw[gc];grind);rw[fJ.mp hp];refine%[Dv.int KK A|λg hg=>?_];rcases wI (hg)with n|n
  all_goals simp_all [Dv.zero,Dv.int]
 refine%[G _ _ hd,I.cl,I.np,qv _ _ _ _,G.sq S,bg (j:=0) rfl|?_];refine%[k1,C.cl,C.nl,lJ _ _ _,la,_,rfl,.inl (af.of k2),?_,?_|?_]
 .simp
 .have:=c.lay.dH.1
  (cbv;lia)
 rw[aY,gk];refine YG (K:=K) (S:=λF v x=>bS K F v x) lots.length (λj=>if j=m then((A:Int):Rat)else 0) G (by have:=c.lay.dH.1;exact bq (by assumption) (by decide)) (λ_ _ _ _ s q=>q.mono s) ?_ ?_
 .intro j F' H' hj g Qk kk;refine%[g.same _ _ (G _ _ hd),I.cl,I.nl,W4 _ _ _ _,rfl|⟨?_⟩];by_cases e:j=m
  .subst e;rw[aS rfl]at kk;rw[show decide (V.int (j:Int)=Dz (some j))=true from bT rfl];exact a_ %[g.same _ _ (G _ _ hd),I.cl,I.nk,qu _ _ _ _|kk _ _ F' (ag.refl g.sub) (M.mono g.fs)]
  .rw[aE e]at kk;rw[bK (λq=>e (by injection q with q';exact_mod_cast q'))];exact bt (kk _ _ F' (ag.refl g.sub) %[zz,rfl|ao F'])
 .intro F1 H1 D X hD;rw[set_range]at hD;obtain⟨l0,b6,y0,rfl,a0,a3,a6⟩:=mJ w2 (i:=i) B;refine%[X.same _ _ (G _ _ hw),TW.cl,TW.np,iV _ _ _ _,af.of (X.same _ _ (G _ _ a0)),bg a3|?_];refine%[X.same _ _ (G _ _ hd),I.cl,I.nk,qu _ _ _ _|?_];intro q dq nq nd b7;refine%[q,dq,_,_,rfl,ak|λH2 hq kp=>%[rfl|?_]];have g2:=ag.made X.sub nq nd hq kp;have a4:=X.trans g2;refine%[dc|λp3 a5=>?_];have g3:=ag.put (o:=.lst [.ref q]) g2.sub a5;have t:=a4.trans g3;refine%[t.same _ _ k1,C.cl,C.ns,yR _ _ _,af.of (t.same _ _ k4),bg (NH c.lay.len d4)|?_];have W:iF K a _ (.ref q) (fe lots.length m A):=%[q,dq,kv,.ref D,rfl,g3.fs _ _ ak,M.mono t.fs|dR.up hD (g2.fs.trans g3.fs)];refine%[_,KK,DD,aO x.2 i,[fe lots.length m A],_,_,_,_,rfl,t.sub,dj.mono a6 t.fs λ_ _ o=>o.mono t.fs,%[p3,_,rfl,ak,.cons W .nil|by simp],az,by simp,T.oW (by exact dZ hN) hm,by show 1<=1000;decide|λF4 H4 r4 g4 q4=>?_];have H:=t.trans g4;refine%[H.same _ _ (G _ _ hw),TW.cl,TW.np,iV _ _ _ _,x.2.places,i,_,_,_,F4,rfl,H.sub,w2.up H.fs,q4,B|λF5 H5 r5 g5 q5=>?_];have O:=H.trans g5;refine%[x,_,_,_,F5,rfl,O.sub,(c.way).mono O.fs,q5|λF6 H6 r6 g6 q6=>?_];refine k _ _ _ (O.trans g6) ?_;rw[ey];exact q6
abbrev Ep:Stmt:=top 73
def Er:aV ["way","deed","layout","place","there"] ["way","deed","layout"] (aM Ep):=aX
def YI(Fn:aH K "weigh" "weigh" Ep f y)(Q:fY K D)(O:mG K l)(n:aW P w K r h "weighed" 5 ["parts","kilos"] (CU K a))
  (R:aW P w K r h "with_place" 1 ["places","place","parts"] (qx K a))(A:aW P w K r h "with_places" 3 ["way","places"] (vC K a D)):
  aJ P w K r h aR 7 f y ["way","deed","layout"] (iW K a D l g "weigh"):=by?
 refine Fn.go Er ?_;rintro _ _ _ s _ _ _ _ S ⟨u,v,lv,x,d,e,lots,places,bj,F,b,rfl,c,he,I,k⟩;have p:=c.s;refine%[_,aw (bp 3 Er (aQ bA (aG (pv 1)) aL (λ_ _=>rfl)))
  (aw (bp 4 Er (aI n S (ay (aQ bA (aG (pv 0)) (pv 3) (λ_ _=>rfl)) (ai (aG (pv 1))))))
  (au (aF (aI A S (ay (pv 0) (ai (aI R S (ay (aG (pv 0)) (ay (pv 3) (ai (pv 4)))))))))))|?_]
 cases e with
 |come k i j=>exact aT he (by show ¬("come":Str)="weigh";decide+kernel)
 |move k i j=>exact aT he (by show ¬("move":Str)="weigh";decide+kernel)
 |sell k i=>exact aT he (by show ¬("sell":Str)="weigh";decide+kernel)
 |waste k i=>exact aT he (by show ¬("waste":Str)="weigh";decide+kernel)
 |weigh i T=>
 have U:=c.di;obtain⟨d1,d2,d3⟩:=U;obtain⟨i1,i2,i3⟩:=c.is;dsimp only[cJ]at I;split at I
 .cases I
 rename_i V;have ey:=(cE I).symm;obtain⟨da,ar,wv,kv,av,rfl,hd,⟨wl,rfl,az,_⟩,B,⟨pl,rfl,C,_⟩⟩:=c.bX;obtain⟨wa,a0,cv,a3,sv,tv,rfl,hw,w1,w2,w3,w4⟩:=c.way;obtain⟨N,W,E⟩:=c.sz;obtain⟨KK,DD,wr⟩:=E.iK (by exact dZ W);have M:aO x.2 i∈x.2.places:=c.hp;have G:=wr.gY E c.ok (by exact dZ W) M;have o:i<x.2.places.length:=by rw[c.ok.len];exact d3
 rw[i3]at C;rw[i2]at B;obtain⟨l0,a4,y0,rfl,X,Y,ao⟩:=mJ w2 (i:=i) o;have Z:=jV d1;have a7:=wQ.mp V;have m:0<bw (aO x.2 i):=by grind
 obtain⟨z,hz⟩:=E.int _ M;have z0:0<z:=by rw[hz]at m;exact nZ.mp m
 have a5:bw (aO x.2 i)≠0:=λq=>Ie (q▸m);have H:cw (((T:Int):Rat)/bw (aO x.2 i)):=by
  have aa:Dv z.toNat (((T:Int):Rat)/bw (aO x.2 i)):=by
   refine%[T|?_]
   grind
  have a6:z<=((2^19:Nat):Int):=by have J:=E.vw c.ok M;have q2:=oV (N:=N) (by lia);rw[hz]at J;exact i5.mp (d5 J q2)
  refine lG (by simp[*]) (bq (m:=2^19) (by cbv) (gj (by decide) (by decide))) aa ?_ ?_
  all_goals grind [d8,yj,IJ,wN]
 refine%[p _ _ hd,O.cl,O.np,qv _ _ _ _,p.sq C,bg (j:=0) rfl|?_];refine%[p _ _ hw,Q.cl,Q.np,iV _ _ _ _,p.sq X,bg Y|?_];refine%[p _ _ hd,O.cl,O.nk,qu _ _ _ _,_,KK,DD,aO x.2 i,_,_,_,F,rfl,p,ao,B,G,d8 Z,NG d2,m,H,E.oW (by exact dZ W) M|λF1 H1 r1 L J=>?_];refine%[L.same _ _ (p _ _ hw),Q.cl,Q.np,iV _ _ _ _,x.2.places,i,_,_,_,F1,rfl,L.sub,w2.up L.fs,J,o|λF5 H5 r5 g5 q5=>?_];have t:=L.trans g5;refine%[x,_,_,_,F5,rfl,t.sub,(c.way).mono t.fs,q5|λF6 H6 r6 g6 q6=>?_];refine k _ _ _ (t.trans g6) ?_;rw[ey];exact q6
structure YJ(n K D B:Nat)(a t l:List PR)(k:Nat):Prop where
 sz:LW K D B a t l k
 ok:(∀p∈t,p.Ok n)/\∀p∈l,p.Ok n
 ne:t≠[]
 dH:t.length<=1000/\l.length<=1000
 gY:fG n K (D*B) t
def Es{I υ i k:Nat}(r:zg I υ G)(a:G.Ok n j)(b:Sz d G)(p:d<40)(g:i<j)(q:1<=k)(f:k<=9999)(h:¬bw (aO G i)<((k:Int):Rat)):∃B,YJ n I υ B (aO G i) (cz (aO G i) ((k:Int):Rat)).1 (cz (aO G i) ((k:Int):Rat)).2 k:=by?
 have l:=fE (by rw[a.len];exact g);obtain⟨B,T⟩:=yq r.k0 a g p b (r.pl _ l) h q;have o:=lB _ ((k:Int)) (a.at_ i);have ln:=T.ln;have gr:=T.gr;have u:=b.vz a l;have t:=oV (N:=d) (by lia);have v:=nE o.2;refine%[B,T,o,λe=>?_,%[?_|?_],o.1,r.k0,bq r.kb (gj (by decide) (by decide)),rg r.d0 T.b0,Yq r.kb r.db T.b1,T.tk,by rw[T.kt];exact zh f|by grind]
 .have:=T.kt
  grind [oP,jV]
 .have c:=b.cnt;have s:cj (aO G i)<=((d:Int)):=by grind [qf,cj,mX]
  grind [cj,i5]
 .have c:=b.cnt;have s:cj (aO G i)<=((d:Int)):=by grind [qf,cj,mX]
  grind [cj,i5]
abbrev Et:Stmt:=top 72
def sW:aV ["way","deed","layout","source","target","halves","places","there"] ["way","deed","layout"] (aM Et):=aX
def YK(Fn:aH K "move" "move" Et f y)(TW:fY K D)(H:mG K l)(I:iI K g)(p:aW P w K r h "taken_and_left" 4 ["parts","kilos"] (va K a))(J:aW P w K r h "put" 6 ["there","added","silo"] (yI K a))
  (L:aW P w K r h "with_place" 1 ["places","place","parts"] (qx K a))(M:aW P w K r h "with_places" 3 ["way","places"] (vC K a D)):
  aJ P w K r h aR 7 f y ["way","deed","layout"] (iW K a D l g "move"):=by?
 refine Fn.go sW ?_;rintro _ _ _ s _ _ _ _ O ⟨u,v,lv,x,d,e,lots,places,bj,F,b,rfl,c,he,V,k⟩;have q:=c.s;refine%[_,aw (bp 3 sW (aQ bA (aG (pv 1)) aL (λ_ _=>rfl)))
  (aw (bp 4 sW (aQ bA (aG (pv 1)) aL (λ_ _=>rfl)))
  (aw (bp 5 sW (aI p O (ay (aQ bA (aG (pv 0)) (pv 3) (λ_ _=>rfl)) (ai (aG (pv 1))))))
  (aw (bp 6 sW (aI L O (ay (aG (pv 0)) (ay (pv 3) (ai (aQ cO (pv 5) aL (λ_ _=>rfl)))))))
  (aw (bp 7 sW (aI J O (ay (aQ bA (pv 6) (pv 4) (λ_ _=>rfl)) (ay (aQ cO (pv 5) aL (λ_ _=>rfl)) (ai (aQ bA (aG (pv 2)) (pv 4) (λ_ _=>rfl)))))))
  (au (aF (aI M O (ay (pv 0) (ai (aI L O (ay (pv 6) (ay (pv 4) (ai (pv 7))))))))))))))|?_]
 cases e with
 |come k i j=>exact aT he (by show ¬("come":Str)="move";decide+kernel)
 |weigh k i=>exact aT he (by show ¬("weigh":Str)="move";decide+kernel)
 |sell k i=>exact aT he (by show ¬("sell":Str)="move";decide+kernel)
 |waste k i=>exact aT he (by show ¬("waste":Str)="move";decide+kernel)
 |move kg i j=>
 have aa:=c.di;obtain⟨d1,d2,d3,d4⟩:=aa;obtain⟨i1,i2,i3⟩:=c.is;dsimp only[cJ]at V;split at V
 .cases V
 rename_i ao;have ey:=(cE V).symm;obtain⟨da,a6,wv,kv,a7,rfl,hd,⟨wl,rfl,a8,_⟩,Q,⟨pl,rfl,A,_⟩⟩:=c.bX;obtain⟨wa,a9,cv,bb,sv,tv,rfl,hw,w1,w2,w3,w4⟩:=c.way;obtain⟨bo,br,la,pa,sa,rfl,k1,k2,k3,k4⟩:=c.lay.ex;obtain⟨N,G,o⟩:=c.sz;obtain⟨Z,DD,X⟩:=o.iK (by exact dZ G);have Y:aO x.2 i∈x.2.places:=c.hp;have R:=X.gY o c.ok (by exact dZ G) Y;have m:i<x.2.places.length:=by rw[c.ok.len];exact d3
 have n:j<x.2.places.length:=by rw[c.ok.len];exact d4
 obtain⟨B,tk⟩:=Es X c.ok o G d3 d1 d2 ao;rw[i3]at A;rw[i2]at Q;obtain⟨l0,bz,y0,rfl,ar,av,a5⟩:=mJ w2 (i:=i) m;generalize et:(cz (aO x.2 i) ((kg:Int):Rat)).1=t at tk ey;generalize el:(cz (aO x.2 i) ((kg:Int):Rat)).2=lf at tk ey;have az:=oQ c.ok i tk.ok.2;have S:j<(cI x.2 i lf).places.length:=by rw[az.len];exact d4
 have a0:fG lots.length Z (DD*B) (aO (cI x.2 i lf) j++t):=by
  have q1:=o.vw c.ok Y;have q2:=o.vz c.ok Y;have q3:=Yp;have n9:=oV (N:=N) (by lia);have kt:=tk.sz.kt;have kl:=tk.sz.kl;have gr:=tk.sz.gr;have gn:=nE tk.ok.1;have b6:=nE tk.ok.2;have k9:=jV d1;have b7:=uS d2;by_cases e:j=i
  .subst e;rw[LV _ m];refine Ee (n:=lots.length) %[tk.ok.2,tk.gY.k0,tk.gY.kb,tk.gY.d0,tk.gY.db,tk.sz.lk,?_|?_] tk.ok.1 tk.sz.tk ?_ ?_<;>grind
  .rw[LU _ e];have C:aO x.2 j∈x.2.places:=fE n;have r1:=o.vw c.ok C;have r2:=o.vz c.ok C;refine Ee ((X.gY o c.ok (by exact dZ G) C).wide tk.sz.b0 tk.gY.db) tk.ok.1 tk.sz.tk ?_ ?_<;>grind
 refine%[q _ _ hd,H.cl,H.np,qv _ _ _ _,q.sq A,bg (j:=0) rfl|?_];refine%[q _ _ hd,H.cl,H.np,qv _ _ _ _,q.sq A,bg (j:=1) rfl|?_];refine%[q _ _ hw,TW.cl,TW.np,iV _ _ _ _,q.sq ar,bg av|?_];refine%[q _ _ hd,H.cl,H.nk,qu _ _ _ _,lots.length,Z,DD,aO x.2 i,_,_,_,F,rfl,q,a5,Q,R,d8 (jV d1),zh d2,Dv.int Z kg,X.kb,o.oW (by exact dZ G) Y|λF1 H1 r1 ha b8 b9 W e1 q1 qt ql=>?_];subst e1;rw[et]at qt;rw[el]at ql;refine%[W.same _ _ (q _ _ hw),TW.cl,TW.np,iV _ _ _ _,bN.of q1,bg (j:=1) rfl,x.2.places,i,_,_,_,F1,rfl,W.sub,w2.up W.fs,ql,m|λF2 H2 r2 g2 q2=>?_];have z:=W.trans g2;obtain⟨l2,cc,y2,rfl,a3,a4,T⟩:=mJ q2 (i:=j) S;refine%[g2.sub.sq a3,bg a4,bN.of (g2.same _ _ q1),bg (j:=0) rfl|?_];refine%[z.same _ _ k1,I.cl,I.ns,yR _ _ _,af.of (z.same _ _ k4),bg (NH c.lay.len d4)|?_];refine%[_,Z,DD*B,aO (cI x.2 i lf) j,t,_,_,_,F2,rfl,z.sub,T,qt.up g2.fs,a0,tk.ne,?_,tk.dH.1|λF3 H3 r3 g3 q3=>?_]
 .by_cases e:j=i
  .subst e;rw[LV _ m];exact tk.dH.2
  .rw[LU _ e];exact o.oW (by exact dZ G) (fE n)
 have U:=z.trans g3;refine%[_,j,_,_,_,F3,rfl,U.sub,q2.up g3.fs,q3,S|λF5 H5 r5 g5 q5=>?_];have E:=U.trans g5;refine%[x,_,_,_,F5,rfl,E.sub,(c.way).mono E.fs,q5|λF6 H6 r6 g6 q6=>?_];refine k _ _ _ (E.trans g6) ?_;rw[ey];exact q6
abbrev Eu:Stmt:=top 74
def zm:aV ["way","deed","layout","place","halves","places"] ["way","deed","layout"] (aM Eu):=aX
def YL(Fn:aH K "sell" "sell" Eu f y)(C:fY K D)(TD:mG K l)(E:aW P w K r h "taken_and_left" 4 ["parts","kilos"] (va K a))(G:aW P w K r h "mixed" 5 ["parts"] (yG K a))
  (ao:aW P w K r h "with_place" 1 ["places","place","parts"] (qx K a))(M:vB P w K r h D):
  aJ P w K r h aR 7 f y ["way","deed","layout"] (iW K a D l g "sell"):=by?
 refine Fn.go zm ?_;rintro _ _ _ s _ _ _ _ hr ⟨u,v,lv,x,d,e,lots,places,bj,F,c,rfl,m,he,hy,k⟩;have A:=m.s;refine%[_,aw (bp 3 zm (aQ bA (aG (pv 1)) aL (λ_ _=>rfl)))
  (aw (bp 4 zm (aI E hr (ay (aQ bA (aG (pv 0)) (pv 3) (λ_ _=>rfl)) (ai (aG (pv 1))))))
  (aw (bp 5 zm (aI ao hr (ay (aG (pv 0)) (ay (pv 3) (ai (aQ cO (pv 4) aL (λ_ _=>rfl)))))))
  (au (aF (lD M hr (by decide) rfl (ay (aG (pv 0)) (ay (pv 5) (ay (bJ eT (aG (pv 0)) (bH (ai (aI G hr (ai (aQ cO (pv 4) aL (λ_ _=>rfl))))))) (ai (aG (pv 0)))))))))))|?_]
 cases e with
 |come k i j=>exact aT he (by show ¬("come":Str)="sell";decide+kernel)
 |weigh k i=>exact aT he (by show ¬("weigh":Str)="sell";decide+kernel)
 |move k i j=>exact aT he (by show ¬("move":Str)="sell";decide+kernel)
 |waste k i=>exact aT he (by show ¬("waste":Str)="sell";decide+kernel)
 |sell kg i=>
 have ar:=m.di;obtain⟨d1,d2,d3⟩:=ar;obtain⟨i1,i2,i3⟩:=m.is;dsimp only[cJ]at hy;split at hy
 .cases hy
 rename_i av;have ey:=(cE hy).symm;obtain⟨da,a7,wv,kv,a8,rfl,hd,⟨wl,rfl,a9,_⟩,O,⟨pl,rfl,Q,_⟩⟩:=m.bX;obtain⟨wa,bb,cv,bo,sv,tv,rfl,hw,w1,w2,w3,w4⟩:=m.way;obtain⟨N,hN,R⟩:=m.sz;obtain⟨KK,DD,wr⟩:=R.iK (by exact dZ hN);have hm:aO x.2 i∈x.2.places:=m.hp;have S:=wr.gY R m.ok (by exact dZ hN) hm;have p:i<x.2.places.length:=by rw[m.ok.len];exact d3
 obtain⟨B,tk⟩:=Es wr m.ok R hN d3 d1 d2 av;rw[i3]at Q;rw[i2]at O;obtain⟨l0,br,y0,rfl,az,a0,a6⟩:=mJ w2 (i:=i) p;generalize et:(cz (aO x.2 i) ((kg:Int):Rat)).1=t at tk ey;generalize el:(cz (aO x.2 i) ((kg:Int):Rat)).2=lf at tk ey;obtain⟨p0,I,rfl⟩:X2 λp0 I=>t=p0::I:=by
  cases t with
  |nil=>exact aT rfl tk.ne
  |cons n b=>exact%[n,b|rfl]
 refine%[A _ _ hd,TD.cl,TD.np,qv _ _ _ _,A.sq Q,bg (j:=0) rfl|?_];refine%[A _ _ hw,C.cl,C.np,iV _ _ _ _,A.sq az,bg a0|?_];refine%[A _ _ hd,TD.cl,TD.nk,qu _ _ _ _,lots.length,KK,DD,aO x.2 i,_,_,_,F,rfl,A,a6,O,S,d8 (jV d1),zh d2,Dv.int KK kg,wr.kb,R.oW (by exact dZ hN) hm|λF1 H1 r1 ha bz b6 g1 e1 q1 qt ql=>?_];subst e1;rw[et]at qt;rw[el]at ql;refine%[g1.same _ _ (A _ _ hw),C.cl,C.np,iV _ _ _ _,bN.of q1,bg (j:=1) rfl,x.2.places,i,_,_,_,F1,rfl,g1.sub,w2.up g1.fs,ql,p|λF2 H2 r2 g2 q2=>?_];have T:=g1.trans g2;have U:=T.same _ _ (A _ _ hw);obtain⟨sl,V,rfl,a3,W,b7⟩:=w3;have X:V.length<=1000:=by
  rw[bu W];have:=R.gone
  grind
 refine%[U,C.cl,C.nc,nM _ _ _ _,U,C.cl,C.ns,nN _ _ _ _,bN.of (g2.same _ _ q1),bg (j:=0) rfl|?_];refine%[_,_,_,p0,I,_,F2,rfl,g2.sub,qt.up g2.fs,tk.gY|λF3 H3 r3 g3 q3=>?_];have Y:=T.trans g3;refine%[dc|λp4 a4=>?_];have J:=Y.trans (ag.bD (o:=.lst [r3]) Y.sub a4);have Z:=J.same _ _ (A _ _ a3);refine%[Z,ak,iT X (by show 1<=1000;decide)|λp5 a5=>?_];have g5:=ag.put (o:=.lst (V++[r3])) J.sub a5;have L:=J.trans g5;refine%[L.same _ _ (A _ _ hw),C.cl,C.nt,vA _ _ _ _|?_];intro z dz nz nd b8;refine%[z,dz,_,_,_,_,rfl,ak|λH6 hx kp=>%[rfl|?_]];have g6:=ag.made L.sub nz nd hx kp;have H:=L.trans g6;have aa:=g5.fs.trans g6.fs;refine k _ _ _ H ?_;rw[ey];refine%[z,dz,_,_,_,_,rfl,ak,w1.mono H.fs,q2.up (g3.fs.trans aa),?_|w4.up H.fs];refine%[p5,_,rfl,g6.fs _ _ ak,gM (cT W λv q o=>o.mono H.fs) (.cons (q3.mono aa) .nil)|?_]
 (cbv;lia)
abbrev Ew:Stmt:=top 75
def Ex:aV ["way","deed","layout","place","halves"] ["way","deed","layout"] (aM Ew):=aX
def YM(Fn:aH K "waste" "waste" Ew f y)(o:fY K D)(TD:mG K l)(p:aW P w K r h "taken_and_left" 4 ["parts","kilos"] (va K a))
  (aa:aW P w K r h "with_place" 1 ["places","place","parts"] (qx K a))(G:vB P w K r h D):
  aJ P w K r h aR 7 f y ["way","deed","layout"] (iW K a D l g "waste"):=by?
 refine Fn.go Ex ?_;rintro _ _ _ s _ _ _ _ hr ⟨u,v,lv,x,d,e,lots,places,bj,F,b,rfl,c,he,Z,k⟩;have A:=c.s;refine%[_,aw (bp 3 Ex (aQ bA (aG (pv 1)) aL (λ_ _=>rfl)))
  (aw (bp 4 Ex (aI p hr (ay (aQ bA (aG (pv 0)) (pv 3) (λ_ _=>rfl)) (ai (aG (pv 1))))))
  (au (aF (lD G hr (by decide) rfl (ay (aG (pv 0)) (ay (aI aa hr (ay (aG (pv 0)) (ay (pv 3) (ai (aQ cO (pv 4) aL (λ_ _=>rfl)))))) (ay (aG (pv 0)) (ai (bJ eT (aG (pv 0)) (aQ cO (pv 4) aL (λ_ _=>rfl)))))))))))|?_]
 cases e with
 |come k i j=>exact aT he (by show ¬("come":Str)="waste";decide+kernel)
 |weigh k i=>exact aT he (by show ¬("weigh":Str)="waste";decide+kernel)
 |move k i j=>exact aT he (by show ¬("move":Str)="waste";decide+kernel)
 |sell k i=>exact aT he (by show ¬("sell":Str)="waste";decide+kernel)
 |waste kg i=>
 have ao:=c.di;obtain⟨d1,d2,d3⟩:=ao;obtain⟨i1,i2,i3⟩:=c.is;dsimp only[cJ]at Z;split at Z
 .cases Z
 rename_i ar;have ey:=(cE Z).symm;obtain⟨da,a6,wv,kv,a7,rfl,hd,⟨wl,rfl,a8,_⟩,H,⟨pl,rfl,I,_⟩⟩:=c.bX;obtain⟨wa,a9,cv,bb,sv,tv,rfl,hw,w1,w2,w3,w4⟩:=c.way;obtain⟨N,hN,J⟩:=c.sz;obtain⟨KK,DD,wr⟩:=J.iK (by exact dZ hN);have hm:aO x.2 i∈x.2.places:=c.hp;have L:=wr.gY J c.ok (by exact dZ hN) hm;have n:i<x.2.places.length:=by rw[c.ok.len];exact d3
 obtain⟨B,tk⟩:=Es wr c.ok J hN d3 d1 d2 ar;rw[i3]at I;rw[i2]at H;obtain⟨l0,bo,y0,rfl,av,az,a5⟩:=mJ w2 (i:=i) n;generalize et:(cz (aO x.2 i) ((kg:Int):Rat)).1=t at tk ey;generalize el:(cz (aO x.2 i) ((kg:Int):Rat)).2=lf at tk ey;refine%[A _ _ hd,TD.cl,TD.np,qv _ _ _ _,A.sq I,bg (j:=0) rfl|?_];refine%[A _ _ hw,o.cl,o.np,iV _ _ _ _,A.sq av,bg az|?_];refine%[A _ _ hd,TD.cl,TD.nk,qu _ _ _ _,lots.length,KK,DD,aO x.2 i,_,_,_,F,rfl,A,a5,H,L,d8 (jV d1),zh d2,Dv.int KK kg,wr.kb,J.oW (by exact dZ hN) hm|λF1 H1 r1 ha br bz Y e1 q1 qt ql=>?_];subst e1;rw[et]at qt;rw[el]at ql;have M:=Y.same _ _ (A _ _ hw);refine%[M,o.cl,o.nc,nM _ _ _ _,M,o.cl,o.np,iV _ _ _ _,bN.of q1,bg (j:=1) rfl,x.2.places,i,_,_,_,F1,rfl,Y.sub,w2.up Y.fs,ql,n|λF2 H2 r2 g2 q2=>?_];have C:=Y.trans g2;have O:=C.same _ _ (A _ _ hw);obtain⟨sl,Q,rfl,a0,R,b6⟩:=w4;have S:Q.length<=1000:=by
  rw[bu R];have:=J.aZ
  lia
 obtain⟨b7,T,rfl,a3,U,b8⟩:=qt;have V:T.length<=1000:=by rw[bu U];exact tk.dH.1
 refine%[O,o.cl,o.ns,nN _ _ _ _,O,o.cl,o.nt,vA _ _ _ _,bN.of (g2.same _ _ q1),bg (j:=0) rfl|?_];refine%[C.same _ _ (A _ _ a0),g2.same _ _ (Y.sub _ _ a3),iT S V|λp5 a4=>?_];have g5:=ag.put (o:=.lst (Q++T)) C.sub a4;have W:=C.trans g5;intro z dz nz nd b9;refine%[z,dz,_,_,_,_,rfl,ak|λH6 hx kp=>%[rfl|?_]];have g6:=ag.made W.sub nz nd hx kp;have E:=W.trans g6;have X:=g5.fs.trans g6.fs;refine k _ _ _ E ?_;rw[ey];refine%[z,dz,_,_,_,_,rfl,ak,w1.mono E.fs,q2.up X,w3.up E.fs|?_];refine%[p5,_,rfl,g6.fs _ _ ak,gM (cT R λv q m=>m.mono E.fs) (cT U λv q m=>m.mono (g2.fs.trans X))|?_]
 (cbv;lia)
structure DE where
 words:List Str
 bX:dM
inductive qE(K:ah)(a:ae)(F:Hp)(v:V)(x:DE):Prop
 |mk(d:DM)(b:sO K a F v d)(b:d.Is x.bX)(b:d.words=x.words)
theorem qE.mono{x:DE}(h:qE K a H O x)(s:aD H J):qE K a J O x:=by obtain⟨d,e,b,c⟩:=h;exact%[d,e.mono s,b|c]
abbrev mK(K:ah)(a:ae)(F:Hp)(v:V)(b:List DE):Prop:=dj (qE K a F) K F v b
def mK.up{b:List DE}(h:mK K a H O b)(s:aD H J):mK K a J O b:=dj.mono h s λc c q=>q.mono s
def qF(n:Nat)(pl:List (rA×Bool))(x:List Nat×WR)(d:dM×Nat):cB:=match cJ n pl x.2 d.1 with
 |aq=>[]
 |some v=>[(x.1++[d.2],v)]
def YN(n:Nat)(pl:List (rA×Bool))(a:List dM)(x:List Nat×WR):jW n pl a x=a.zipIdx.flatMap (qF n pl x):=rfl
structure Ey(P:aC)(w:World)(K:ah)(mg:Str->Option Value)(base:ax)(c d g h:ae):Prop where
 ex:X2 λa b=>A3 (GV mg "DOERS" (.ref a)) (jb P w K a b) (∀e:dM,∃f,dN b (eE (wordOf e))=some (.ref f)/\FnAt P w K mg base f 7 ["way","deed","layout"] (iW K c d g h (wordOf e)))
def ints_snoc{κ:List Nat}(h:H a=some (.lst ((nI κ).map V.int++[.int n])))(b:κ.length<=1000):dO H (.ref a) (nI (κ++[n])):=by
 refine%[a,rfl,?_|?_]
 all_goals grind
abbrev Ez:Stmt:=top 78
inductive EA(K:ah)(CP CW CD CL:ae)(h:List V)(H:Hp)(Q:VK)(E:XK):Prop
 |mk(b:cB)(a:List DE)(lots places:List Str)(bj:List Bool)(u v g:V)(F:Hp)(i:h=[u,v,g])(i:aD F H)(i:fi K CP CW F u b)(i:mK K CD F v a)(i:jE CL H g lots places bj)(i:b.length<=64)(i:a.length<=4)(i:∀x∈b,x.2.Ok lots.length places.length/\(∃N,N<40/\Sz N x.2)/\x.1.length<=40)(i:∀d∈a,Deed.In lots.length places.length d.bX)(i:∀e f r c rest,ag F H e f->fi K CP CW e r c->b.flatMap (jW lots.length (gA places bj) (a.map (·.bX)))=c++rest->(c.length<=64->rest=[])->Q r f)
def sX:aV ["ways","deeds","layout","found","way","choice","deed","led"] ["ways","deeds","layout"] (aM Ez):=aX
def YO{L z:ae}(Fn:aH K "next_ways" "next_ways" Ez f y)(TW:fY K l)(TD:mG K z)(U:GV r "MOST_WAYS" (.int 64))(b7:r "len"=aq)(W:r "enumerate"=aq)(hD:Ey P w K r h a l z L)
  (a0:aW P w K r h "can_be" 5 ["way","deed"] (En K a l z L))(A:aW P w K r h "chosen" 3 ["way","choices"] (vD K a l)):
  aJ P w K r h aR 8 f y ["ways","deeds","layout"] (EA K a l z L):=by?
 refine Fn.go sX ?_;rintro _ _ _ _ H _ Q _ hr ⟨xs,ds,lots,places,bj,u,v,lv,F,rfl,hF,⟨b,vs,rfl,hl,hp,hn⟩,⟨l2,p,rfl,b8,a3,c7⟩,hL,b1,b2,hx,a4,k⟩;obtain⟨da,b9,cc,ck,cm⟩:=hD.ex;refine%[_,aw (bp 3 sX (bH e_))
  (aw (eO d9 rfl (cq (pv 0)) (bE 4 sX)
   (aw (eO d9 rfl (BI rfl W (ai (pv 1))) (mj rfl (gI (bE 5 sX) (gI (bE 6 sX) mi)))
    (au (bW (eQ (aI a0 hr (ay (pv 4) (ai (pv 6)))) (λ_=>rfl))
     (aw (bp 7 sX (Ml (sH (bC cc) (aQ bA (aG (pv 6)) aL (λ_ _=>rfl)) (λ_ _=>rfl)) (ay (pv 4) (ay (pv 6) (ai (pv 2))))))
     (au (eN (iG (pv 3) (ai (aI A hr (ay (pv 7) (ai (bJ eT (aG (pv 4)) (bH (ai (pv 5)))))))))))) bZ)))
   (au (bW (bY oH (cg dG (by rfl) b7 du (ai (pv 3))) (bC U) (b_ _)) (au (aF (pv 3))) bZ))))
  (au (aF (pv 3))))|?_]
 refine%[bM _|λD B=>?_];have a5:=hF _ _ hl;have n:=hF _ _ b8;have ln:=bu hp;have dy:=bu a3;have kd:∀s C e ys o,ag F H s C->s D=aq->C D=some (.lst e)->Paired (fZ K a l s) e ys->ys.length<=1000->xs.flatMap (jW lots.length (gA places bj) (ds.map (·.bX)))=ys++o->(ys.length<=64->o=[])->Q (.ref D) C:=by intro s C e ys o g nD eD pr bn e1 e2;refine k _ _ _ ys o (g.fix B eD (.inl nD)) %[D,e,rfl,ak,cT pr λ_ _ c=>c.mono (cQ nD)|?_] e1 e2;rw[bu pr];exact bq (by assumption) (by decide)
 refine%[%[_|af.of (cQ B _ _ a5)]|iB (K:=K) (a:=b) (xs:=vs) (λi σ C=>X6 λ(s:Hp) (e:List V) (q4 I J E:Option V)=>A6 (σ=[some (.ref b),some (.ref l2),some lv,some (.ref D),q4,I,J,E]) (ag F H s C) (s D=aq) (C D=some (.lst e)) (Paired (fZ K a l s) e ((xs.take i).flatMap (jW lots.length (gA places bj) (ds.map (·.bX))))) (e.length<=64))
  %[F,[],none,none,none,none,rfl,ag.bD hF B,hF.free B,ak,.nil|bM _] (λi σ C _ %[_,_,_,_,_,_,_,g,_,_,_|_]=>af.of (g.same _ _ a5)) ?_ ?_]
 .rintro i d σ C hi ⟨s,e,q4,I,J,E,rfl,g,nD,eD,pr,bn⟩;obtain⟨x,cn,hy⟩:=dh hp hi;have mx:=bO cn;obtain⟨xo,⟨N,hN,a6⟩,xl⟩:=hx x mx;have cp:=g.same _ _ n;refine%[af.of cp|?_];refine qm (J:=uJ K l2) (n:=p.length) (λj σ a7=>X5 λ(X:Hp) (e:List V) (I J E:Option V)=>A6 (σ=[some (.ref b),some (.ref l2),some lv,some (.ref D),some d,I,J,E]) (ag F H X a7) (X D=aq) (a7 D=some (.lst e)) (Paired (fZ K a l X) e ((xs.take i).flatMap (jW lots.length (gA places bj) (ds.map (·.bX)))++(((ds.map (·.bX)).zipIdx.take j).flatMap (qF lots.length (gA places bj) x)))) (e.length<=64+j))
   %[s,e,I,J,E,rfl,g,nD,eD,by simpa using pr|bn] ?_ ?_ ?_
  .rintro σ H2 ⟨F2,m,I,J,E,rfl,g2,M,G,q,Y⟩;refine%[%[p,af.of (g2.same _ _ n)|bx _]|?_];have e1:(xs.take i).flatMap (jW lots.length (gA places bj) (ds.map (·.bX)))++(((ds.map (·.bX)).zipIdx.take p.length).flatMap (qF lots.length (gA places bj) x))=(xs.take (i+1)).flatMap (jW lots.length (gA places bj) (ds.map (·.bX))):=by simp_all [P',take_snoc,YN]
   rw[e1]at q;refine%[D,m,rfl,.inl (af.of G)|⟨⟨?_⟩⟩];by_cases hb:64<m.length
   .rw[bT (by exact xb hb)];refine a_ (kd F2 H2 m _ ((xs.drop (i+1)).flatMap (jW lots.length (gA places bj) (ds.map (·.bX)))) g2 M G q ?_ ?_ ?_)
    all_goals grind [bu,lZ]
   .rw[bK (by lia)];exact bt %[F2,m,_,_,_,_,rfl,g2,M,G,q|by exact og hb]
  .rintro j σ H2 hj ⟨F2,m,I,J,E,rfl,g2,_⟩;exact%[p,p[j],af.of (g2.same _ _ n)|cA hj]
  .rintro j v0 σ H2 H3 hj ⟨F2,m,I,J,E,rfl,g2,M,G,q,Y⟩ ⟨T,dv,rfl,nT,rfl,hT⟩;have cD:=hT p (af.of (g2.same _ _ n));obtain⟨t,cG,dd,S,Z,c6⟩:=dh a3 cD;have a8:=bO cG;have gT:=g2.trans (ag.bD (o:=.tup [.int (j:Nat),dv]) g2.sub nT);have a9:(upd H2 T (.tup [.int (j:Nat),dv])) D=some (.lst m):=cQ nT _ _ G;have hz:((ds.map (·.bX)).zipIdx)[j]?=some (t.bX,j):=by simp[*]
   have bb:=take_snoc hz;have pre:sU K a l z L F2 (upd H2 T (.tup [.int (j:Nat),dv])) d dv lv x dd t.bX lots places bj:=
    %[gT.sub,hy.mono g2.fs,S.mono g2.fs,Z,hL.mono gT.same,xo,%[N,hN|a6]|a4 t a8]
   refine%[bN.of ak,rfl,rfl|?_];refine%[d,dv,lv,x,dd,t.bX,lots,places,bj,F2,rfl,pre|λF3 H3 R=>?_];have O:=gT.trans R;have bo:=R.out a9 M;have aa:=R.same _ _ a9;cases ao:cJ lots.length (gA places bj) x.2 t.bX with
   |none=>
    refine%[_,rfl|bt %[F3,m,_,_,_,rfl,O,bo,aa,?_|by exact lX Y]];rw[bb,ua,jr,wM,g9];have:qF lots.length (gA places bj) x (t.bX,j)=[]:=by unfold qF;rw[ao]
    rw[this,g9];exact cT q λ_ _ c=>c.mono R.fs
   |some yw=>
    refine%[_,rfl|a_ ?_];have kL:sU K a l z L F3 H3 d dv lv x dd t.bX lots places bj:=
     %[O.sub,(hy.mono g2.fs).mono R.fs,(S.mono g2.fs).mono R.fs,Z,hL.mono O.same,xo,%[N,hN|a6]|a4 t a8]
    obtain⟨fa,cL,cM⟩:=cm t.bX;obtain⟨c8,c9,wv,kv,dm,rfl,hd,⟨wl,rfl,cP,_⟩,dq,dr⟩:=kL.bX;refine%[R.sub _ _ hd,TD.cl,TD.nw,Dy _ _ _ _,R.sub.sq cP,bg (j:=0) (NJ Z.all.1)|?_];refine%[da,b9,eE (wordOf t.bX),.ref fa,rfl,ck,rfl,cL,fa,7,_,_,rfl,cM,hr.mono (by decide)|?_];refine%[d,_,lv,x,dd,t.bX,lots,places,bj,F3,yw,rfl,kL,rfl,ao|λF4 H4 r4 g4 q4=>?_];have ar:=O.trans g4;have cW:=g4.out aa bo;have av:=g4.same _ _ aa;obtain⟨wa,dt,cv,dw,sv,tv,rfl,hw,⟨cl,rfl,c0,dx⟩,w2,w3,w4⟩:=hy;refine%[.inl %[rfl,_|af.of av],ar.same _ _ (hF _ _ hw),TW.cl,TW.nc,nM _ _ _ _|?_];refine%[dc|λp5 c1=>?_];have g5:=ag.bD (o:=.lst [.int (j:Nat)]) ar.sub c1;have az:=ar.trans g5;refine%[az.same _ _ (hF _ _ c0),ak,iT (by(cbv;lia)) (by show 1<=1000;decide)|λp6 c2=>?_];have g6:=ag.put (o:=.lst ((nI x.1).map V.int++[.int (j:Nat)])) az.sub c2;have br:=az.trans g6;have bz:=g6.same _ _ (g5.same _ _ av);have c3:=g6.out (g5.same _ _ av) cW;refine%[(x.1,yw),x.1++[j],r4,_,_,rfl,br.sub,q4.mono g6.fs,ints_snoc ak (by exact bq (by assumption) (by decide))|λF7 H7 r7 g7 E=>?_];have c4:=br.trans g7;have c5:=g7.same _ _ bz;have b6:=g7.out bz c3;refine%[c5,eW (by lia),F7,m++[r7],_,_,_,rfl,c4.iE B b6,b6,ak,?_|by exact len_snoc_le Y];rw[bb,ua,jr,wM,g9,<-lW];have:qF lots.length (gA places bj) x (t.bX,j)=[(x.1++[j],yw)]:=by unfold qF;rw[ao]
    rw[this];exact gM (cT q λ_ _ c=>c.mono (((R.fs.trans g4.fs).trans g6.fs).trans g7.fs)) (.cons E .nil)
 .rintro σ C ⟨s,e,q4,I,J,E,rfl,g,nD,eD,pr,bn⟩;rw[ln,eK]at pr;exact(kd s C e _ [] g nD eD pr (by grind [bu]) (by rw[g9]) (λ_=>rfl))
def EB(c:List V)(a b:Nat):jP c (some (a:Int)) (some (b:Int))=(c.drop a).take (b-a):=by?
 unfold jP;rw[HT.xM,HT.xM];refine tZ λi=>?_
 simp only[aeI,AD];by_cases h:a<=c.length
 .rw[t8 h];by_cases d:b<=c.length
  .rw[t8 d]
  .rw[Q4 (by exact IK d)];by_cases e:i<c.length-a
   .rw[aS e,aS (by lia)]
   .rw[aE e];split
    .exact(mU (by simp_all+arith)).symm
    .rfl
 .rw[Q4 (show c.length<=a by exact IK h),aE (by have:=Nat.min_le_right b c.length;cbv)];split
  .exact(mU (by lia)).symm
  .rfl
def NK(a:List V)(b:Nat):jP a aq (some (b:Int))=a.take b:=by simp[jP,HT.xM,HT.Bg]
def NL(b:List V)(a:Nat):jP b (some (a:Int)) aq=b.drop a:=by?
 unfold jP;rw[HT.xM,HT.Bg];by_cases h:a<=b.length
 .rw[t8 h,P' (by rw[q0];simp)]
 .rw[Q4 (by exact IK h),Q5 (i:=a) (by exact IK h),AB,Q6]
theorem NM{Ξ:Type}(p:N->Bool)(g:N->Ξ):∀l:List N,l.filterMap (λx=>if p x=true then some (g x)else aq)=(l.filter p).map g
 |[]=>rfl
 |a::r=>by rw[IC,List.filter_cons,NM p g r];cases p a<;>rfl
def YQ{Ξ:Type}{Δ:L2.St}{Ε:TT}{ι:TE}{ζ:List V}{R:V->N->Prop}{S:Hp->V->Ξ->Prop}{n:List N}{C:ae->Hp->Prop}(p:N->Bool)(g:N->Ξ)(I:aD J H)(s:af K H l ζ)(hp:Paired R ζ n)(L:ζ.length<=1000000)
  (mono:∀c o v b,aD c o->S c v b->S o v b)
  (step:∀(v:V) (x:N) (c a:Hp),x∈n->R v x->ag J H c a->∀(t:VK) (u:Hp->Prop),(∀y k q,p x=true->ag c a q k->S q y (g x)->t y k)->(∀f w,p x=false->ag c a w f->u f)->
   Ε ((wipe Δ [j]).set j (some v)) a λb f=>if b=true then ι ((wipe Δ [j]).set j (some v)) f t else u f)
  (done:∀c a D,ag J H c a->dj (S c) K c (.ref D) ((n.filter p).map g)->C D a):
  ∀D,H D=aq->∃W:Nat->Nat->Hp->Prop,(∃m,W 0 m (upd H D (.lst [])))/\∀i m a,W i m a->
   ((iA K l).stop i a/\C D a)\/((iA K l).go i a/\∃z:Hp->Prop,(∀d,z d->∃E,E<m/\W (i+1) E d)/\∀x d,(iA K l).ic i a x d->gH j x (wipe Δ [j]) d λA M=>wipe A [j]=wipe Δ [j]/\Ε A M λb f=>
    if b=true then ι A f λy k=>∃acc,k D=some (.lst acc)/\acc.length<bf/\z (upd k D (.lst (acc++[y])))else z f):=by?
 have ln:=bu hp;refine qk (K:=K) (λi=>(n[i]?).bind λx=>if p x=true then some (g x)else aq) I L mono (λa B=>%[ζ,B.seq s|bx _]) (λi a G B=>%[ζ,ζ[i],B.seq s|cA G]) ?_ ?_
 .rintro i c a G gr v d ⟨rfl,O⟩ t u P Q;obtain⟨x,T,r⟩:=dh hp (O ζ (gr.same.seq s));refine%[uX|step v x c _ (bO T) r gr _ _ (λy k q e U X=>P y k q _ ?_ U X) λf w e Y=>Q f w ?_ Y]
  all_goals simp[*]
 .intro c a D gr h;refine done c a D gr ?_;have e:(bV ζ.length).filterMap (λi=>(n[i]?).bind λx=>if p x=true then some (g x)else aq)=(n.filter p).map g:=by rw[<-NM,<-List.filterMap_filterMap,qo _ _ (by exact qZ ln),ln,eK]
  rw[e]at h;exact h
def YR(a:List Nat)(e:Nat)(h:e<a.length):((nI a).map V.int).take e++[V.int 0]++((nI a).map V.int).drop (e+1)=(nI (a.set e 0)).map V.int:=by simp_all [List.set_eq_take_append_cons_drop,rh,t_]
abbrev EC:Stmt:=top 79
def lN(e c:Nat)(a:cB):cB:=(a.filter λx=>x.1[e]?==some c).map λx=>(x.1.set e 0,x.2)
inductive ED(K:ah)(CP CW:ae)(f:List V)(H:Hp)(Q:VK)(E:XK):Prop
 |mk(a:cB)(e c:Nat)(u:V)(F:Hp)(h:f=[u,.int e,.int c])(h:aD F H)(h:fi K CP CW F u a)(h:∀x∈a,e<x.1.length/\x.1.length<=40)(h:∀b d r,ag F H b d->fi K CP CW b r (lN e c a)->Q r d)
def vF:aV ["ways","entry","choice","kept","way"] ["ways","entry","choice"] (aM EC):=aX
def YS(Fn:aH K "settled" "settled" EC f y)(o:fY K l)(m:aW P w K r h "chosen" 3 ["way","choices"] (vD K a l)):
  aJ P w K r h aR 4 f y ["ways","entry","choice"] (ED K a l):=by?
 refine Fn.go vF ?_;rintro _ _ _ s _ _ _ _ hr ⟨xs,e,c,u,F,rfl,J,⟨b,vs,rfl,hl,hp,hn⟩,hx,k⟩;refine%[_,aw (oM (i:=3) (own:=[("way",4)]) (tt:=xI (e6 Bc (e6 (pW K) (fL K (cf 4) "choices") (cf 1)) (cf 2))) (te:=cf 4) rfl vF.nd rfl rfl (oN rfl rfl rfl rfl) (cq (pv 0)) (nu rfl) (λ_ _ _ _ _=>bE 4 vF) (λ_ _ _ _ _=>Ky (bY dY (aQ bA (aG (pv 4)) (pv 1) (λ_ _=>rfl)) (pv 2) (b_ _))) (λ_ _ _ _ _=>pv 4))
  (au (aF (dC (own:=[("way",4)]) (te:=oI (vD K a l) [] E0 (e9 (cf 4) (e9 (e6 xT (e6 xT (xN (xQ K) (fL K (cf 4) "choices") Bh (uz (cf 1))) (JU (e9 (tC (.int 0)) fS))) (xN (xQ K) (fL K (cf 4) "choices") (uz (e6 (mq λi j=>.int (i+j)) (cf 1) (tC (.int 1)))) Bh)) fS))) vF (cq (pv 3)) (bE 4 vF) cR (aI m hr (ay (pv 4) (ai (bJ eT (bJ eT (oJ oK (aG (pv 4)) uA (lu (pv 1))) (bH (ai aL))) (oJ oK (aG (pv 4)) (lu (bJ jy (pv 1) aL)) uA))))))))|?_]
 have p:=J _ _ hl;refine%[%[_|af.of p]|YQ (K:=K) (S:=λF v x=>fZ K a l F v x) (R:=fZ K a l F) (λx=>x.1[e]?==some c) (λx=>x) J (af.of p) hp hn (λ_ _ _ _ s q=>q.mono s) ?_ ?_]
 .rintro v x L H' Q M g Qk Qn N kn;obtain⟨wa,t,cv,A,sv,tv,rfl,I,⟨cl,rfl,n,B⟩,w2,w3,w4⟩:=M;have he:=(hx x Q).1;have hg:((nI x.1).map V.int)[e]?=some (.int (x.1[e]:Nat)):=by simp[nI,he]
  refine%[g.same _ _ (J _ _ I),o.cl,o.nc,nM _ _ _ _,af.of (g.same _ _ (J _ _ n)),bg hg,rfl|⟨?_⟩];have hq:(x.1[e]?==some c)=decide (x.1[e]=c):=by (cbv;lia)
  rw[hq]at N kn;by_cases z:x.1[e]=c
  .rw[bT (by rw[z])];refine a_ (N _ _ L (bT z) (ag.refl g.sub) ?_);exact%[wa,t,_,A,sv,tv,rfl,g.fs _ _ I,%[cl,rfl,g.fs _ _ n|B],w2.up g.fs,w3.up g.fs|w4.up g.fs]
  .rw[bK (λq=>z (by grind))];exact bt (kn _ L (bK z) (ag.refl g.sub))
 .rintro F1 H1 D g1 ⟨D',ws,e',hD,pD,nD⟩;cases e';rw[Ax]at pD;refine%[%[_|af.of (g1.sub _ _ hD)]|dI (K:=K) (S:=λF v x=>fZ K a l F v x) (R:=fZ K a l F1) (λx=>(x.1.set e 0,x.2)) g1.sub (af.of (g1.sub _ _ hD)) pD nD (λ_ _ _ _ s q=>q.mono s) ?_ ?_]
  .rintro i v x L H' hi M g Qk N;have Q:x∈xs:=(Ae.mp (bO hi)).1;obtain⟨he,hb⟩:=hx x Q;have R:=M;obtain⟨wa,t,cv,A,sv,tv,rfl,I,⟨cl,rfl,n,B⟩,w2⟩:=M;have S:=g.sub _ _ (g.fs _ _ I);have T:=g.sub _ _ (g.fs _ _ n);refine%[S,o.cl,o.nc,nM _ _ _ _,af.of T|λp2 C=>?_];rw[NK];have H:=g.trans (ag.bD (o:=.lst (((nI x.1).map V.int).take e)) g.sub C);refine%[dc|λp3 U=>?_];have O:=ag.bD (o:=.lst [.int 0]) H.sub U;refine%[O.same _ _ ak,ak,iT (by grind) (by show 1<=1000;decide)|λp4 W=>?_];have g4:=ag.bD (o:=.lst (((nI x.1).map V.int).take e++[.int 0])) (H.trans O).sub W;have d:=(H.trans O).trans g4;refine%[d.same _ _ (g1.sub _ _ I),o.cl,o.nc,nM _ _ _ _,af.of (d.same _ _ (g1.sub _ _ n))|λp5 X=>?_];rw[show(e:Int)+1=((e+1:Nat):Int)from by exact AI e,NL];have E:=ag.bD (o:=.lst (((nI x.1).map V.int).drop (e+1))) d.sub X;refine%[E.same _ _ ak,ak,?_|λp6 G=>?_]
   .refine iT ?_ ?_
    all_goals(cbv;lia)
   rw[YR _ _ he];have g6:=(d.trans E).trans (ag.put (o:=.lst ((nI (x.1.set e 0)).map V.int)) (d.trans E).sub G);have Y:ag L H' _ _:=(((((ag.bD g.sub C).trans O).trans g4).trans E).trans (ag.put (o:=.lst ((nI (x.1.set e 0)).map V.int)) (d.trans E).sub G));refine%[x,x.1.set e 0,_,_,_,rfl,g6.sub,R.mono g6.fs,%[p6,rfl,ak|by simp[nI];cbv]|λF7 H7 r7 g7 q7=>N _ _ F7 (Y.trans g7) q7]
  .intro F2 H2 D2 H Z;exact k _ _ _ (g1.trans H) Z
end
def boot_max:l_ "max"=some (.builtin "max"):=by decide+kernel
def boot_min:l_ "min"=some (.builtin "min"):=by decide+kernel
abbrev ws(a:cB):List WR:=a.map (·.2)
def nO(n m:Nat)(a:cB):Prop:=∀x∈a,x.2.Ok n m/\(∃N,N<=40/\Sz N x.2)/\x.1.length<=40
theorem foldl_max:∀(ns:List Nat) (a:Nat),a<=ns.foldl max a/\(∀x∈ns,x<=ns.foldl max a)/\(ns.foldl max a=a\/ns.foldl max a∈ns)
 |[],a=>%[bx _,(λe h=>nomatch h)| .inl rfl]
 |x::r,a=>by
  obtain⟨b,c,d⟩:=foldl_max r (max a x)
  (cbv;lia)
theorem foldl_min:∀(ns:List Nat) (a:Nat),ns.foldl min a<=a/\(∀x∈ns,ns.foldl min a<=x)/\(ns.foldl min a=a\/ns.foldl min a∈ns)
 |[],a=>%[bx _,(λe h=>nomatch h)| .inl rfl]
 |x::r,a=>by
  obtain⟨b,c,d⟩:=foldl_min r (min a x)
  (cbv;lia)
def eX(a:cB):Nat:=(a.map λx=>x.2.sold.length).foldl max 0
def sY(a:cB):Nat:=(a.map λx=>x.2.sold.length).foldl min (eX a)
section
variable{S φ:Int}{U:List Int}{Z:Rat}{mg:Str->Option Value}{Θ:List Rat}
theorem YT{a:cB}(b:S∈nI (a.map λx=>x.2.sold.length))(c:∀y∈nI (a.map λx=>x.2.sold.length),y<=S):S=(eX a:Nat):=by grind [foldl_max,eX,g_]
theorem YU{a:cB}(b:S∈nI (a.map λx=>x.2.sold.length))(c:∀y∈nI (a.map λx=>x.2.sold.length),S<=y):S=(sY a:Nat):=by grind [foldl_min,eX,sY,foldl_max,g_]
def NN{cw:Rat->Prop}(h:∀y∈Z::Θ,cw y):cw (jD Z (Z::Θ)):=by grind [uW,jD]
def EE{cw:Rat->Prop}(h:∀y∈Z::Θ,cw y):cw (fW Z (Z::Θ)):=by grind [uW,fW]
theorem least_le:∀(l:List Rat) (x:Rat),jD x l<=x
 |[],x=>mY
 |y::l,x=>by
  refine d5 (least_le l _) ?_
  grind
theorem EF:∀(l:List Rat) (x:Rat),x<=fW x l
 |[],x=>mY
 |y::l,x=>by
  refine d5 ?_ (EF l _)
  grind
abbrev EG:Stmt:=top 24
def lO(x:Rat)(a:List Rat):List Int:=[(jD x (x::a)).num,((jD x (x::a)).den:Int),(fW x (x::a)).num,((fW x (x::a)).den:Int)]
inductive EH(K:ah)(d:List V)(H:Hp)(Q:VK)(E:XK):Prop
 |mk(x:Rat)(a:List Rat)(u:V)(F:Hp)(e:d=[u])(e:aD F H)(e:dR K F u (x::a))(e:∀y∈x::a,ja y)(e:∀b c r,ag F H b c->dO b r (lO x a)->Q r c)
def YV:aV ["amounts"] ["amounts"] (aM EG):=aX
def YW(p:aH K "bounds" "bounds" EG f y)(b:r "list"=aq)(c:aW P w K r h "least" 2 ["fractions"] (Cs K))(a:aW P w K r h "greatest" 2 ["fractions"] (yD K)):
  aJ P w K r h aR 3 f y ["amounts"] (EH K):=by?
 refine p.go YV ?_;rintro C C C C C C C C m ⟨x,xs,u,F,rfl,i,n,d,k⟩;refine%[_,au (aF (bJ eT (nr uD (by rfl) b boot_list (ai (aI c m (ai (pv 0)))))
  (nr uD (by rfl) b boot_list (ai (aI a m (ai (pv 0)))))))|?_]
 refine%[x,xs,u,F,rfl,i,n,d|λC %[A,q|B]=>?_];subst q;refine%[A,_,rfl,.inr (i.gK B)|λD j=>?_];have g:=ag.bD (o:=.lst [.int (jD x (x::xs)).num,.int (jD x (x::xs)).den]) i j;refine%[x,xs,u,F,rfl,g.sub,n,d|λE %[s,t|v]=>?_];subst t;refine%[s,_,rfl,.inr (g.sub.gK v)|λG e=>?_];have o:=g.trans (ag.bD (o:=.lst [.int (fW x (x::xs)).num,.int (fW x (x::xs)).den]) g.sub e);refine%[cQ e _ _ ak,ak,(by show 2+2<=bf;decide)|λz l=>?_];exact k _ _ _ (o.trans (ag.put o.sub l)) %[z,rfl,ak|(by show 4<=1000000;decide)]
abbrev EI:Stmt:=top 25
def EJ(x:Rat)(a:List Rat):Rat:=fW x (x::a)-jD x (x::a)
inductive NO(K:ah)(d:List V)(H:Hp)(Q:VK)(E:XK):Prop
 |mk(x:Rat)(a:List Rat)(u:V)(F:Hp)(e:d=[u])(e:aD F H)(e:dR K F u (x::a))(e:∀y∈x::a,cw y)(e:∀b c r,ag F H b c->bS K b r (EJ x a)->Q r c)
def YX:aV ["amounts"] ["amounts"] (aM EI):=aX
def YY(m:aH K "spread" "spread" EI f y)(d:aW P w K r h "minus" 3 ["first","second"] (Cj K))(e:aW P w K r h "least" 2 ["fractions"] (Cs K))(b:aW P w K r h "greatest" 2 ["fractions"] (yD K)):
  aJ P w K r h aR 4 f y ["amounts"] (NO K):=by?
 refine m.go YX ?_;rintro t t t t t t t t g ⟨x,xs,u,F,rfl,i,l,c,k⟩;refine%[_,au (aF (aI d g (ay (aI b g (ai (pv 0))) (ai (aI e g (ai (pv 0)))))))|?_];refine%[x,xs,u,F,rfl,i,l,(λa j=>(c a j).wide)|λn o=>?_];refine%[x,xs,u,F,rfl,i,l,(λa j=>(c a j).wide)|λp q=>?_];exact%[_,_,n,p,F,rfl,i,o,q,EE c,NN c,(by grind [least_le,EF])|k]
abbrev EK:Stmt:=top 26
inductive sZ(K:ah)(CP CW:ae)(c:List V)(H:Hp)(Q:VK)(E:XK):Prop
 |mk(a:cB)(u:V)(F:Hp)(e:c=[u])(e:aD F H)(e:fi K CP CW F u a)(e:a≠[])(e:∀d b,ag F H d b->Q (.int (eX a:Nat)) b)
def EL:aV ["ways","way"] ["ways"] (aM EK):=aX
def YZ(E:aH K "most_sold" "most_sold" EK f y)(C:fY K l)(o:r "len"=aq)(d:r "max"=aq):aJ P w K r h aR 1 f y ["ways"] (sZ K a l):=by?
 refine E.go EL ?_;rintro m m m m H m Q m m ⟨t,u,F,rfl,s,⟨c,W,rfl,G,hp,I⟩,J,k⟩;refine%[_,au (aF (cg (TC rfl) (by rfl) d boot_max (ai (dC (own:=[("way",1)]) (te:=ux (λt H Q=>X2 λp B=>A3 (t=[.ref p]) (af K H p B\/bN K H p B) (Q _ H)) (e9 (fL K _ "sold") fS)) EL (cq (pv 0)) (bE 1 EL) cR (cg dG (by rfl) o du (ai (aG (pv 1))))))))|?_];have j:=s _ _ G;refine%[%[_|af.of j]|dI (S:=λF v (n:Int)=>v=V.int n) (λx=>((x.2.sold.length))) s (af.of j) hp I (λm m m m m q=>q) ?_ ?_]
 .rintro i v x L X Y ⟨Z,M,cv,N,sv,tv,rfl,hw,w1,w2,⟨sl,z,rfl,A,O,R⟩,w4⟩ g Qk S;refine%[g.same _ _ (s _ _ hw),C.cl,C.ns,nN _ _ _ _,sl,z,rfl,.inl (af.of (g.same _ _ (s _ _ A)))|S _ _ L (ag.refl g.sub) ?_]
  grind [bu]
 .intro F1 H1 D U T;obtain⟨D',e,q,b⟩:=T.ints;cases e;refine%[af.of (U.sub _ _ q),?_|λm h1 h2=>?_]
  .grind
  .have em:nI (t.map λx=>x.2.sold.length)=t.map λx=>((x.2.sold.length):Int):=by simp[nI]
   grind [YT]
abbrev EM:Stmt:=top 27
inductive EN(K:ah)(CP CW:ae)(c:List V)(H:Hp)(Q:VK)(E:XK):Prop
 |mk(a:cB)(u:V)(F:Hp)(e:c=[u])(e:aD F H)(e:fi K CP CW F u a)(e:a≠[])(e:∀d b,ag F H d b->Q (.int (sY a:Nat)) b)
def EO:aV ["ways","way"] ["ways"] (aM EM):=aX
def Y0(E:aH K "fewest_sold" "fewest_sold" EM f y)(C:fY K l)(o:r "len"=aq)(d:r "min"=aq):aJ P w K r h aR 1 f y ["ways"] (EN K a l):=by?
 refine E.go EO ?_;rintro m m m m H m Q m m ⟨t,u,F,rfl,s,⟨c,W,rfl,G,hp,I⟩,J,k⟩;refine%[_,au (aF (cg (TF rfl) (by rfl) d boot_min (ai (dC (own:=[("way",1)]) (te:=ux (λt H Q=>X2 λp B=>A3 (t=[.ref p]) (af K H p B\/bN K H p B) (Q _ H)) (e9 (fL K _ "sold") fS)) EO (cq (pv 0)) (bE 1 EO) cR (cg dG (by rfl) o du (ai (aG (pv 1))))))))|?_];have j:=s _ _ G;refine%[%[_|af.of j]|dI (S:=λF v (n:Int)=>v=V.int n) (λx=>((x.2.sold.length))) s (af.of j) hp I (λm m m m m q=>q) ?_ ?_]
 .rintro i v x L X Y ⟨Z,M,cv,N,sv,tv,rfl,hw,w1,w2,⟨sl,z,rfl,A,O,R⟩,w4⟩ g Qk S;refine%[g.same _ _ (s _ _ hw),C.cl,C.ns,nN _ _ _ _,sl,z,rfl,.inl (af.of (g.same _ _ (s _ _ A)))|S _ _ L (ag.refl g.sub) ?_]
  grind [bu]
 .intro F1 H1 D U T;obtain⟨D',e,q,b⟩:=T.ints;cases e;refine%[af.of (U.sub _ _ q),?_|λm h1 h2=>?_]
  .grind
  .have em:nI (t.map λx=>x.2.sold.length)=t.map λx=>((x.2.sold.length):Int):=by simp[nI]
   grind [YU]
def ER{θ:List PR}{l:Nat}(h:∀p∈θ,p.Ok n)(d0:0<j)(db:j<=2^8900)(dv:∀p∈θ,∀g∈p.green,Dv j g)(gs:bI θ<=(((2^20:Nat):Int):Rat)):jC (θ.map λp=>p.green.getD l 0)/\(θ.map λp=>p.green.getD l 0).sum<=bI θ:=by?
 have b:∀p∈θ,Dv j (p.green.getD l 0)/\0<=p.green.getD l 0/\p.green.getD l 0<=p.green.sum:=by
  intro p hp;rw[ir];cases e:p.green[l]? with
  |none=>exact%[Dv.zero j,mY|d8 (h p hp).some]
  |some g=>
   have a:=bO e;exact%[dv p hp g a,(h p hp).nn g a|jU (h p hp).nn a]
 have this:(θ.map λp=>p.green.getD l 0).sum<=bI θ:=by
  clear gs h dv;unfold bI;induction θ with
  |nil=>exact mY
  |cons p r c=>
   have:=c λq d=>b q (bG _ d)
   grind
 grind [uZ]
def jC.lP(h:jC Θ):cw Θ.sum:=by
 have:=h.part Θ.length
 cbv
abbrev je(w:WR)(k:Nat):List PR:=(w.sold.drop k).take 1
def nP{Ψ:PR}(h:Ψ∈je G n):Ψ∈G.sold:=QR (lY h)
def Y5{θ:List PR}(h:∀p∈θ,p.Ok n)(k:Nat):bI ((θ.drop k).take 1)<=bI θ:=by?
 refine d5 (Mi (λp hp=>h p (QR hp)) 1) ?_;have e:bI θ=bI (θ.take k)+bI (θ.drop k):=by rw[<-ie,lZ]
 have:=nE (ps:=θ.take k) λp hp=>h p (lY hp)
 grind
def Sz.vG(b:Sz d G)(a:G.Ok n j)(c:d<=40):bI G.sold<=(((2^19:Nat):Int):Rat):=by
 have e:=b.uR;rw[ie]at e;have f:=Yo a;have g:=nE a.lost;have h:=oV (N:=d) (by exact lX c)
 grind
def ES(b:Sz d G)(a:G.Ok n j)(c:d<=40)(k l:Nat):jC ((je G k).map λp=>p.green.getD l 0):=by obtain⟨K,D,r⟩:=b.iK c;have g:=b.vG a c;have e:=Y5 a.sold k;exact(ER (λp hp=>a.sold p (nP hp)) r.d0 (bq r.db (gj (by decide) (by decide))) (λp hp=>(r.so p (nP hp)).2) (by grind)).1
def NP(c:Sz d G)(e:G.Ok n j)(f:d<=40)(k:Nat):jC ((je G k).map (·.kilos)):=by?
 obtain⟨K,D,r⟩:=c.iK f;refine uZ r.k0 (bq r.kb (gj (by decide) (by decide))) (λx g=>?_) ?_
 .obtain⟨p,hp,rfl⟩:=bF.mp g;exact%[(r.so p (nP hp)).1|d8 (e.sold p (nP hp)).pos]
 .have b:∀a:List PR,a.length<=1->(∀p∈a,p.kilos<=9999)->(a.map (·.kilos)).sum<=(((2^60))):=by
   intro a h i
   match a,h with
   |[],_=>
    rfl
   |[p],_=>
    grind
  exact b _ (by exact QT 1 (List.drop k G.sold)) λp hp=>c.out p (mS _ (nP hp))
abbrev ET:Stmt:=top 28
inductive vH(K:ah)(CP CW:ae)(d:List V)(H:Hp)(Q:VK)(E:XK):Prop
 |mk(c:cB)(k:Nat)(u:V)(F:Hp)(e:d=[u,.int k])(e:aD F H)(e:fi K CP CW F u c)(e:∀a b r,ag F H a b->mH K CP a r (c.map λx=>je x.2 k)->Q r b)
def EU:aV ["ways","number","way"] ["ways","number"] (aM ET):=aX
def Y6{D:ae}(I:aH K "sold_parts" "sold_parts" ET f y)(G:fY K D):aJ P w K r h aR 1 f y ["ways","number"] (vH K a D):=by?
 refine I.go EU λJ A outer s H L Q E X c=>?_;obtain⟨xs,e,u,F,rfl,n,⟨l,L,rfl,M,hp,N⟩,k⟩:=c;refine%[_,au (aF (dC (own:=[("way",2)]) (te:=xN (xQ K) (fL K (cf 2) "sold") (uz (cf 1)) (uz (e6 (mq λi j=>.int (i+j)) (cf 1) (tC (.int 1))))) EU (cq (pv 0)) (bE 2 EU) cR (oJ oK (aG (pv 2)) (lu (pv 1)) (lu (bJ jy (pv 1) aL)))))|?_];have m:=n _ _ M;refine%[%[_|af.of m]|dI (K:=K) (S:=λF v x=>fF K a F v x) (R:=fZ K a D F) (λx=>je x.2 e) n (af.of m) hp N (λJ J J J s q=>q.up s) ?_ ?_]
 .rintro i v x Y Z hi ⟨wa,O,cv,S,sv,tv,rfl,hw,w1,w2,⟨sl,o,rfl,p,z,T⟩,w4⟩ g Qk U;refine%[g.same _ _ (n _ _ hw),G.cl,G.ns,nN _ _ _ _,af.of (g.same _ _ (n _ _ p))|λV B=>?_];rw[show(e:Int)+1=((e+1:Nat):Int)from by exact AI e,EB,show e+1-e=1 by exact IL e 1];have C:=ag.put (o:=.lst ((o.drop e).take 1)) g.sub B;refine U _ _ _ C %[V,_,rfl,ak,?_|by(cbv;lia)];have:∀{α β:Type} {R:α->β->Prop} {d:List α} {b:List β},Paired R d b->∀k,Paired R (d.drop k) (b.drop k):=by
   intro α β R d b c;induction c with
   |nil=>intro k;simp;exact .nil
   |cons q t W=>
    intro k;cases k with
    |zero=>exact .cons q t
    |succ k=>exact W k
  exact cT (Cp (this z e) 1) λJ J q=>q.mono (g.fs.trans C.fs)
 grind
def dk(w:WR)(k l:Nat):Rat:=((je w k).map λp=>p.green.getD l 0).sum
def s_(w:WR)(k:Nat):Rat:=bw (je w k)
abbrev EV:Stmt:=top 29
inductive vI(K:ah)(CP CW:ae)(d:List V)(H:Hp)(Q:VK)(E:XK):Prop
 |mk(n m:Nat)(a:cB)(k l:Nat)(u:V)(F:Hp)(e:d=[u,.int k,.int l])(e:aD F H)(e:fi K CP CW F u a)(e:nO n m a)(e:l<n)(e:∀b c r,ag F H b c->dR K b r (a.map λx=>dk x.2 k l)->Q r c)
def EW:aV ["ways","number","lot","parts"] ["ways","number","lot"] (aM EV):=aX
def Y7(H:aH K "sold_greens" "sold_greens" EV f y)(c:aW P w K r h "green_of" 4 ["parts","lot"] (uY K a))(d:aW P w K r h "sold_parts" 1 ["ways","number"] (vH K a l)):
  aJ P w K r h aR 5 f y ["ways","number","lot"] (vI K a l):=by?
 refine H.go EW ?_;rintro _ _ _ s _ I _ _ z ⟨n,m,xs,A,lt,u,F,rfl,J,L,aU,j,k⟩;refine%[_,au (aF (dC (own:=[("parts",3)]) EW (cq (aI d z (ay (pv 0) (ai (pv 1))))) (bE 3 EW) cR (aI c z (ay (pv 3) (ai (pv 2))))))|?_];refine%[xs,A,u,F,rfl,J,L|λF1 H1 r1 o M=>?_];obtain⟨b,I,rfl,O,hp,Q⟩:=M;have e:=o.sub _ _ O;refine%[%[_|af.of e]|dI (K:=K) (S:=λF v x=>bS K F v x) (λB:List PR=>(B.map λp=>p.green.getD lt 0).sum) o.sub (af.of e) hp Q (λ_ _ _ _ s q=>q.mono s) ?_ ?_]
 .rintro i v B R H' S T g Qk U;obtain⟨x,V,rfl⟩:=bF.mp (bO S);obtain⟨C,⟨N,W,X⟩,_⟩:=aU x V;exact%[_,lt,_,R,rfl,g.sub,T.up g.fs,λp hp=>by rw[(C.sold p (nP hp)).len];exact j,ES X C W A lt|λE Y r2 t Z=>U _ _ E t Z]
 .intro E Y D t G;rw[cC]at G;exact k _ _ _ (o.trans t) G
abbrev EX:Stmt:=top 30
inductive EY(K:ah)(CP CW:ae)(d:List V)(H:Hp)(Q:VK)(E:XK):Prop
 |mk(n m:Nat)(a:cB)(k:Nat)(u:V)(F:Hp)(e:d=[u,.int k])(e:aD F H)(e:fi K CP CW F u a)(e:nO n m a)(e:∀b c r,ag F H b c->dR K b r (a.map λx=>s_ x.2 k)->Q r c)
def EZ:aV ["ways","number","parts"] ["ways","number"] (aM EX):=aX
def Y8(C:aH K "sold_weights" "sold_weights" EX f y)(c:aW P w K r h "kilos_of" 4 ["parts"] (qj K a))(d:aW P w K r h "sold_parts" 1 ["ways","number"] (vH K a l)):
  aJ P w K r h aR 5 f y ["ways","number"] (EY K a l):=by?
 refine C.go EZ ?_;rintro Y Y Y s Y E Y Y p ⟨n,m,xs,t,u,F,rfl,G,H,aU,k⟩;refine%[_,au (aF (dC (own:=[("parts",2)]) EZ (cq (aI d p (ay (pv 0) (ai (pv 1))))) (bE 2 EZ) cR (aI c p (ai (pv 2)))))|?_];refine%[xs,t,u,F,rfl,G,H|λY H1 Z j I=>?_];obtain⟨b,E,rfl,J,hp,L⟩:=I;have e:=j.sub _ _ J;refine%[%[_|af.of e]|dI (S:=λF v x=>bS K F v x) (λz:List PR=>bw z) j.sub (af.of e) hp L (λY Y Y Y s q=>q.mono s) ?_ ?_]
 .rintro i v z M H' O Q g Qk R;obtain⟨x,S,rfl⟩:=bF.mp (bO O);obtain⟨T,⟨N,U,V⟩,Y⟩:=aU x S;exact%[_,_,M,rfl,g.sub,Q.up g.fs,NP V T U t|λA W r2 o X=>R _ _ A o X]
 .intro A W D o B;rw[cC]at B;exact k _ _ _ (j.trans o) B
def oX(a:List PR)(l:Nat):Rat:=match a with
 |[]=>0
 |p::_=>p.green.getD l 0/p.green.sum
def getD_at{ζ:List V}{R:V->Rat->Prop}(h:Paired R ζ Θ)(b:n<Θ.length):∃y,ζ[n]?=some y/\R y (Θ.getD n 0):=by? have a:ζ[n]?=some (ζ[n]'(by rw[bu h];exact b)):=cA _;obtain⟨z,c,r⟩:=dh h a;refine%[_,a|?_];rw[ir,c];exact r
def Y9{Ψ:PR}(c:Sz d G)(b:G.Ok n j)(e:d<=40)(hp:Ψ∈G.sold):jC Ψ.green:=by?
 obtain⟨K,D,r⟩:=c.iK e;refine uZ r.d0 (bq r.db (gj (by decide) (by decide))) (λx a=>%[(r.so Ψ hp).2 x a|(b.sold Ψ hp).nn x a]) ?_;have g:=c.vG b e;have h:Ψ.green.sum<=bI G.sold:=by refine jU (λx a=>?_) (g_ hp);obtain⟨q,f,rfl⟩:=bF.mp a;exact d8 (b.sold q f).some
 grind
theorem NQ:∀l:List (List PR),cj l.flatten=cX cj l
 |[]=>rfl
 |a::r=>by rw[IM,LX,NQ r];rfl
theorem NR:∀l:List (List PR),bI l.flatten=cX bI l
 |[]=>rfl
 |a::r=>by rw[IM,ie,NR r];rfl
def Y_(l:List (List PR))(i:Nat):(l.take i).flatten.length<=l.flatten.length:=by grind [lZ]
def Sz.flat(h:Sz n G):G.places.flatten.length<=n:=by
 have a:=h.cnt;rw[<-NQ]at a;have b:(0)<=cj G.eV:=by simp[cj,mX]
 have c:cj G.places.flatten<=((n:Int)):=by grind
 simp_all [cj,i5]
abbrev tj(w:WR):List PR:=w.sold++w.eV++w.places.flatten
def qG(w:WR)(l:Nat):Rat:=((tj w).map λp=>p.green.getD l 0).sum
def NS{I:Nat}(e:Sz d G)(f:G.Ok n j)(h:d<=40):jC ((tj G).map λp=>p.green.getD I 0)/\∀p∈tj G,p.Ok n:=by?
 obtain⟨K,D,r⟩:=e.iK h;have i:∀{Q:PR->Prop},(∀p∈G.sold,Q p)->(∀p∈G.eV,Q p)->(∀c∈G.places,∀p∈c,Q p)->∀p∈tj G,Q p:=by
  intro Q q k o p hp;rcases eF.mp hp with z|z
  .grind
  .obtain⟨c,a,b⟩:=List.mem_flatten.mp z;exact o c a p b
 have ok:=i f.sold f.eV f.parts;refine%[(ER ok r.d0 (bq r.db (gj (by decide) (by decide))) (i (λp hp=>(r.so p hp).2) (λp hp=>(r.th p hp).2) λc g p hp=>(r.pl c g p hp).2) ?_).1|ok];rw[ie,ie,NR,e.qg];have k:=e.uR;rw[ie]at k;have s:=oV (N:=d) (by exact lX h)
 grind
abbrev E2:Stmt:=top 31
inductive E3(K:ah)(CP:ae)(d:List V)(H:Hp)(Q:VK)(E:XK):Prop
 |mk(n:Nat)(a:List PR)(l:Nat)(u:V)(F:Hp)(e:d=[u,.int l])(e:aD F H)(e:fF K CP F u a)(e:∀p∈a,p.Ok n/\jC p.green)(e:l<n)(e:∀b c r,ag F H b c->bS K b r (oX a l)->Q r c)
def Y':aV ["parts","lot"] ["parts","lot"] (aM E2):=aX
def Za(J:aH K "green_share" "green_share" E2 f y)(T:lF K a)(L:lE K r "ZERO" 0)(i:aW P w K r h "over" 3 ["first","second"] (yz K))(d:aW P w K r h "total" 3 ["fractions"] (yA K)):
  aJ P w K r h aR 4 f y ["parts","lot"] (E3 K a):=by?
 refine J.go Y' ?_;rintro _ _ _ _ _ _ _ _ B ⟨n,ps,lt,u,F,rfl,A,⟨l,M,rfl,N,hp,hn⟩,aU,C,k⟩;obtain⟨z,O,D⟩:=L.ex;refine%[_,aw (bW (bY (vd B.rQ) (pv 0) (bH e_) (b_ _)) (au (aF (ke (v:=.ref z) rfl O rfl))) bZ)
  (au (aF (aI i B (ay (aQ bA (aG (aQ bA (pv 0) aL (λ_ _=>rfl))) (pv 1) (λ_ _=>rfl)) (ai (aI d B (ai (aG (aQ bA (pv 0) aL (λ_ _=>rfl))))))))))|?_]
 refine%[bM _|λQ E=>?_];have s:=ag.bD (o:=.lst []) A E;have j:=s.same _ _ (A _ _ N);refine%[l,M,Q,rfl,rfl,af.of j,af.of ak|⟨?_⟩];cases hp with
 |nil=>exact a_ (k _ _ _ s %[z,rfl|D _])
 |@cons v p R S U t=>
  obtain⟨b,dx,kv,gv,rfl,e,h1,x⟩:=U;obtain⟨gl,gs,rfl,G,H,V⟩:=id x;obtain⟨m,o⟩:=aU p (bQ ..);have g:lt<p.green.length:=by rw[m.len];exact C
  obtain⟨c,W,I⟩:=getD_at H g;have ea:=s.same _ _ (A _ _ e);have mem:p.green.getD lt 0∈p.green:=by exact strs_getD_mem g
  refine bt %[af.of j,bg (j:=0) rfl,ea,T.cl,T.ng,nG _ _,af.of (s.same _ _ (A _ _ G)),bg W|?_];refine%[af.of j,bg (j:=0) rfl,ea,T.cl,T.ng,nG _ _,p.green,_,F,rfl,s.sub,x,o|λX H2 r2 g2 Y=>?_];have q:=s.trans g2;exact%[_,_,_,_,X,rfl,q.sub,I.mono q.fs,Y,o.fit _ mem,o.lP,m.nn _ mem,m.some|λF3 H3 r3 g3 Z=>k _ _ _ (q.trans g3) Z]
abbrev E4:Stmt:=top 32
inductive E5(K:ah)(CP CW:ae)(d:List V)(H:Hp)(Q:VK)(E:XK):Prop
 |mk(n m:Nat)(a:cB)(k l:Nat)(u:V)(F:Hp)(e:d=[u,.int k,.int l])(e:aD F H)(e:fi K CP CW F u a)(e:nO n m a)(e:l<n)(e:∀b c r,ag F H b c->dR K b r (a.map λx=>oX (je x.2 k) l)->Q r c)
def E6:aV ["ways","number","lot","parts"] ["ways","number","lot"] (aM E4):=aX
def Zb(G:aH K "sold_shares" "sold_shares" E4 f y)(c:aW P w K r h "green_share" 4 ["parts","lot"] (E3 K a))(d:aW P w K r h "sold_parts" 1 ["ways","number"] (vH K a l)):
  aJ P w K r h aR 5 f y ["ways","number","lot"] (E5 K a l):=by?
 refine G.go E6 ?_;rintro _ _ _ s _ H _ _ z ⟨n,m,xs,I,lt,u,F,rfl,J,L,aU,j,k⟩;refine%[_,au (aF (dC (own:=[("parts",3)]) E6 (cq (aI d z (ay (pv 0) (ai (pv 1))))) (bE 3 E6) cR (aI c z (ay (pv 3) (ai (pv 2))))))|?_];refine%[xs,I,u,F,rfl,J,L|λF1 H1 r1 o M=>?_];obtain⟨b,H,rfl,O,hp,Q⟩:=M;have e:=o.sub _ _ O;refine%[%[_|af.of e]|dI (S:=λF v x=>bS K F v x) (λA:List PR=>oX A lt) o.sub (af.of e) hp Q (λ_ _ _ _ s q=>q.mono s) ?_ ?_]
 .rintro i v A R H' S T g Qk U;obtain⟨x,V,rfl⟩:=bF.mp (bO S);obtain⟨B,⟨N,W,X⟩,_⟩:=aU x V;exact%[n,_,lt,_,R,rfl,g.sub,T.up g.fs,λp hp=>%[B.sold p (nP hp)|Y9 X B W (nP hp)],j|λC Y r2 t Z=>U _ _ C t Z]
 .intro C Y D t E;rw[cC]at E;exact k _ _ _ (o.trans t) E
def kG(w:WR)(i l:Nat):Rat:=((aO w i).map λp=>p.green.getD l 0).sum
abbrev E7:Stmt:=top 33
inductive zp(K:ah)(CP CW:ae)(d:List V)(H:Hp)(Q:VK)(E:XK):Prop
 |mk(n m:Nat)(a:cB)(i l:Nat)(u:V)(F:Hp)(e:d=[u,.int i,.int l])(e:aD F H)(e:fi K CP CW F u a)(e:nO n m a)(e:i<m)(e:l<n)(e:∀b c r,ag F H b c->dR K b r (a.map λx=>kG x.2 i l)->Q r c)
def E8:aV ["ways","place","lot","way"] ["ways","place","lot"] (aM E7):=aX
def Zc{D:ae}(I:aH K "place_greens" "place_greens" E7 f y)(H:fY K D)(b:aW P w K r h "green_of" 4 ["parts","lot"] (uY K a)):
  aJ P w K r h aR 5 f y ["ways","place","lot"] (zp K a D):=by?
 refine I.go E8 ?_;rintro _ _ _ s _ _ _ _ J ⟨n,m,xs,ii,lt,u,F,rfl,j,⟨l,vs,rfl,L,hp,M⟩,aU,o,t,k⟩;refine%[_,au (aF (dC (own:=[("way",3)]) (te:=oI _ [] E0 (e9 (e6 (pW K) (fL K (cf 3) "places") (cf 1)) _)) E8 (cq (pv 0)) (bE 3 E8) cR (aI b J (ay (aQ bA (aG (pv 3)) (pv 1) (λ_ _=>rfl)) (ai (pv 2))))))|?_];have c:=j _ _ L;refine%[%[_|af.of c]|dI (K:=K) (S:=λF v x=>bS K F v x) (λx=>kG x.2 ii lt) j (af.of c) hp M (λ_ _ _ _ s q=>q.mono s) ?_ ?_]
 .rintro i v x O H' Q ⟨wa,R,cv,S,sv,tv,rfl,hw,w1,T,w3,w4⟩ g Qk U;obtain⟨z,⟨N,E,G⟩,_⟩:=aU x (bO Q);have d:ii<x.2.places.length:=by rw[z.len];exact o
  obtain⟨l0,V,y0,rfl,A,B,C⟩:=mJ T (i:=ii) d;obtain⟨KK,DD,Z⟩:=G.iK E;have e:=Z.gY G z E (fE d);exact%[g.same _ _ (j _ _ hw),H.cl,H.np,iV _ _ _ _,af.of (g.same _ _ (j _ _ A)),bg B,_,lt,_,O,rfl,g.sub,C.up g.fs,λp hp=>by rw[(z.at_ ii p hp).len];exact t,e.CI lt|λW H2 r2 Y X=>U _ _ W Y X]
 grind
abbrev E9:Stmt:=top 34
inductive E_(K:ah)(CP CW:ae)(d:List V)(H:Hp)(Q:VK)(E:XK):Prop
 |mk(n m:Nat)(a:cB)(i:Nat)(u:V)(F:Hp)(e:d=[u,.int i])(e:aD F H)(e:fi K CP CW F u a)(e:nO n m a)(e:i<m)(e:∀b c r,ag F H b c->dR K b r (a.map λx=>bw (aO x.2 i))->Q r c)
def E':aV ["ways","place","way"] ["ways","place"] (aM E9):=aX
def Zd{D:ae}(G:aH K "place_weights" "place_weights" E9 f y)(E:fY K D)(b:aW P w K r h "kilos_of" 4 ["parts"] (qj K a)):
  aJ P w K r h aR 5 f y ["ways","place"] (E_ K a D):=by?
 refine G.go E' ?_;rintro _ _ _ s _ _ _ _ H ⟨n,m,xs,ii,u,F,rfl,j,⟨l,Y,rfl,I,hp,J⟩,aU,o,k⟩;refine%[_,au (aF (dC (own:=[("way",2)]) (te:=oI _ [] E0 (e9 (e6 (pW K) (fL K _ "places") _) fS)) E' (cq (pv 0)) (bE 2 E') cR (aI b H (ai (aQ bA (aG (pv 2)) (pv 1) (λ_ _=>rfl))))))|?_];have c:=j _ _ I;refine%[%[_|af.of c]|dI (K:=K) (S:=λF v x=>bS K F v x) (λx=>bw (aO x.2 ii)) j (af.of c) hp J (λ_ _ _ _ s q=>q.mono s) ?_ ?_]
 .rintro i v x L Z M ⟨wa,O,cv,Q,sv,tv,rfl,hw,w1,R,w3,w4⟩ g Qk S;obtain⟨A,⟨N,B,C⟩,_⟩:=aU x (bO M);have d:ii<x.2.places.length:=by rw[A.len];exact o
  obtain⟨l0,T,y0,rfl,p,t,z⟩:=mJ R d;obtain⟨KK,DD,X⟩:=C.iK B;have e:=X.gY C A B (fE d);exact%[g.same _ _ (j _ _ hw),E.cl,E.np,iV _ _ _ _,af.of (g.same _ _ (j _ _ p)),bg t,_,_,L,rfl,g.sub,z.up g.fs,e.sums|λU H2 r2 W V=>S _ _ U W V]
 grind
abbrev Fb:Stmt:=top 35
inductive Fc(K:ah)(CP CW:ae)(c:List V)(H:Hp)(Q:VK)(E:XK):Prop
 |mk(n m:Nat)(x:List Nat×WR)(u:V)(F:Hp)(d:c=[u])(d:aD F H)(d:fZ K CP CW F u x)(d:x.2.Ok n m)(d:∃N,N<=40/\Sz N x.2)(d:∀a b r,ag F H a b->fF K CP a r (tj x.2)->Q r b)
def zq:aV ["way","parts","there"] ["way"] (aM Fb):=aX
def Ze{D:ae}(Fn:aH K "all_parts" "all_parts" Fb f y)(l:fY K D):aJ P w K r h aR 1 f y ["way"] (Fc K a D):=by?
 refine Fn.go zq ?_;rintro _ _ _ _ H _ _ _ _ ⟨n,m,x,u,F,rfl,c,⟨wa,aa,cv,ao,sv,tv,rfl,hw,w1,⟨pl,O,rfl,o,p,ar⟩,⟨sl,s,rfl,Q,d,av⟩,⟨az,t,rfl,R,e,a0⟩⟩,ho,⟨N,Y,J⟩,k⟩;refine%[_,aw (bp 1 zq (bJ eT (aG (pv 0)) (aG (pv 0))))
  (aw (eO d9 rfl (cq (aG (pv 0))) (bE 2 zq) (au (bp 1 zq (bJ eT (pv 1) (pv 2)))))
  (au (aF (pv 1))))|?_]
 have b1:s.length<=40:=by
  rw[bu d];have:=J.gone
  grind
 have b2:t.length<=40:=by rw[bu e];have:=J.aZ;exact bq this Y
 have j:=c _ _ hw;refine%[j,l.cl,l.ns,nN _ _ _ _,j,l.cl,l.nt,vA _ _ _ _,c _ _ Q,c _ _ R,iT (by exact bq (by assumption) (by decide)) (by exact bq (by assumption) (by decide))|λZ S=>?_];have I:=ag.put (o:=.lst (s++t)) c S;have z:=I.same _ _ (c _ _ o);refine%[I.same _ _ j,l.cl,l.np,iV _ _ _ _,%[_|af.of z]|iB (K:=K) (a:=pl) (xs:=O) (λi σ L=>X3 λ(M:Hp) (v:V) (q:Option V)=>A3 (σ=[some (.ref wa),some v,q]) (ag F H M L) (fF K a M v (x.2.sold++x.2.eV++(x.2.places.take i).flatten)))
  %[_,.ref Z,none,rfl,I,Z,_,rfl,ak,?_|?_] (λi σ L _ %[_,_,_,_,g|_]=>af.of (g.same _ _ (c _ _ o))) ?_ ?_]
 .rw[Q6,aeJ,g9];exact gM (cT d λ_ _ q=>q.mono I.fs) (cT e λ_ _ q=>q.mono I.fs)
 ·(cbv;lia)
 .rintro i b σ L hi ⟨M,v,q,rfl,g,⟨l3,A,rfl,T,B,a3⟩⟩;obtain⟨ps,C,⟨l4,E,rfl,U,G,a4⟩⟩:=dh p hi;have b3:A.length<=120:=by
   rw[bu B,dB,dB,<-bu d,<-bu e];have c1:=Y_ x.2.places i;have c2:=J.flat
   lia
  have b4:E.length<=1000:=by rw[bu G];exact J.oW Y (bO C)
  refine%[g.sub _ _ T,g.same _ _ (c _ _ U),iT (by exact bq (by assumption) (by decide)) b4|λp5 W=>?_];have X:=ag.put (o:=.lst (A++E)) g.sub W;refine%[_,_,_,rfl,g.trans X,p5,_,rfl,ak,?_|?_]
  .rw[take_snoc C,List.flatten_append,IM,aeJ,g9,<-lW];exact gM (cT B λ_ _ q=>q.mono X.fs) (cT G λ_ _ q=>q.mono (g.fs.trans X.fs))
  (cbv;lia)
 .rintro σ L ⟨M,v,q,rfl,g,hv⟩;rw[bu p,eK]at hv;exact(k _ _ _ g hv)
abbrev Fe:Stmt:=top 36
inductive Ff(K:ah)(CP CW:ae)(d:List V)(H:Hp)(Q:VK)(E:XK):Prop
 |mk(n m:Nat)(a:cB)(l:Nat)(u:V)(F:Hp)(e:d=[u,.int l])(e:aD F H)(e:fi K CP CW F u a)(e:nO n m a)(e:l<n)(e:∀b c r,ag F H b c->dR K b r (a.map λx=>qG x.2 l)->Q r c)
def Fg:aV ["ways","lot","way"] ["ways","lot"] (aM Fe):=aX
def Zf{D:ae}(C:aH K "masses" "masses" Fe f y)(c:aW P w K r h "all_parts" 1 ["way"] (Fc K a D))(b:aW P w K r h "green_of" 4 ["parts","lot"] (uY K a)):
  aJ P w K r h aR 5 f y ["ways","lot"] (Ff K a D):=by?
 refine C.go Fg ?_;rintro _ _ _ s _ _ _ _ j ⟨n,m,xs,lt,u,F,rfl,o,⟨l,V,rfl,E,hp,G⟩,aU,e,k⟩;refine%[_,au (aF (dC (own:=[("way",2)]) Fg (cq (pv 0)) (bE 2 Fg) cR (aI b j (ay (aI c j (ai (pv 2))) (ai (pv 1))))))|?_];have d:=o _ _ E;refine%[%[_|af.of d]|dI (K:=K) (S:=λF v x=>bS K F v x) (λx=>qG x.2 lt) o (af.of d) hp G (λ_ _ _ _ s q=>q.mono s) ?_ ?_]
 .rintro i v x H W I J g X L;obtain⟨t,⟨N,z,A⟩,_⟩:=aU x (bO I);obtain⟨S,U⟩:=NS A t z;refine%[n,m,x,v,H,rfl,g.sub,J.mono g.fs,t,%[N,z|A]|λM H1 Y B O=>?_];exact%[_,lt,_,M,rfl,B.sub,O,λp hp=>by rw[(U p hp).len];exact e,S|λQ Z r2 T R=>L _ _ Q (B.trans T) R]
 grind
def boot_sum:l_ "sum"=some (.builtin "sum"):=by decide+kernel
def mL(c:Nat)(x:Rat):Nat:=c/jo c x.den*x.den
def Zg(c:Nat)(x:Rat):mL c x=Nat.lcm c x.den:=by
 unfold mL Nat.lcm
 grind [Nat.mul_comm,adK,HY]
theorem NT(j:0<n):∀(f:List Rat) (c:Nat),0<c->c∣n->(∀x∈f,x.den∣n)->0<f.foldl mL c/\f.foldl mL c∣n/\c∣f.foldl mL c/\∀x∈f,x.den∣f.foldl mL c
 |[],c,h0,g,_=>%[h0,g,Nat.dvd_refl _|(λm h=>nomatch h)]
 |x::r,c,h0,g,i=>by
  rw[fI,Zg];have k:=Nat.lcm_dvd g (i x (bQ ..));obtain⟨a,b,d,e⟩:=NT j r _ (Nat.lcm_pos h0 x.den_pos) k λy l=>i y (bG _ l)
  grind [Nat.dvd_trans,Nat.dvd_lcm_left,Nat.dvd_lcm_right]
def mM(c:Nat)(x:Rat):Int:=x.num*((c/x.den:Nat):Int)
theorem zr(h:Z.den∣n):((mM n Z:Int):Rat)=Z*((n:Int):Rat):=by?
 obtain⟨k,rfl⟩:=h;unfold mM;rw[Nat.mul_div_cancel_left _ Z.den_pos,Ib,Int.natCast_mul,Ib,<-aeK];have:=by
  have hd:((Z.den:Int):Rat)≠0:=λe=>by
   have:=adS.mp e;have:=Z.den_pos
   cbv
  have h:=(adF Z).symm;rw[Qx]at h
  calc Z*((Z.den:Int))=(Z.num:Rat)/((Z.den:Int))*((Z.den:Int)):=congrArg (· *((Z.den:Int):Rat)) h
   _=(Z.num:Rat):=wN hd
 rw[this]
theorem vJ(h:n<=2^8900):Lg (n:Int):=by unfold Lg;rw[Q7];exact iP h (Nat.pow_lt_pow_right (by decide) (by decide))
abbrev Fh:Stmt:=top 13
inductive NU(K:ah)(e:List V)(H:Hp)(Q:VK)(E:XK):Prop
 |mk(D:Nat)(a:List Rat)(u:V)(F:Hp)(f:e=[u])(f:aD F H)(f:dR K F u a)(f:0<D)(f:D<=2^8900)(f:∀x∈a,x.den∣D/\cw x)(f:∀b d r c,ag F H b d->0<c->c<=D->(∀x∈a,x.den∣c)->dO b r (a.map (mM c))->Q r d)
def tm:aV ["fractions","common","fraction"] ["fractions"] (aM Fh):=aX
def Zh(N:aH K "in_whole_numbers" "in_whole_numbers" Fh f y)(s:aW P w K r h "divisor" 1 ["first","second"] yt):aJ P w K r h aR 2 f y ["fractions"] (NU K):=by?
 refine N.go tm ?_;rintro _ _ _ _ H _ _ _ O ⟨D,xs,u,F,rfl,C,⟨l,Q,rfl,R,hp,S⟩,d0,db,t,k⟩;refine%[_,aw (rO (i:=1) tm.nd rfl (rf rfl) aL)
  (aw (eO d9 rfl (cq (pv 0)) (bE 2 tm)
   (au (rO (i:=1) tm.nd rfl (rf rfl) (bJ nF (bJ lC (pv 1) (aI s O (ay (pv 1) (ai (aQ cO (pv 2) aL (λ_ _=>rfl)))))) (aQ cO (pv 2) aL (λ_ _=>rfl))))))
  (au (aF (dC (own:=[("fraction",2)]) (te:=e6 (rI (λi j=>Lg i/\Lg j) λi j=>.int (i*j)) (e6 (Bj K) (cf 2) (tC (.int 0))) (e6 (rI (λ_ j=>0<j/\Lg j) λi j=>.int (i/j)) (cf 1) (e6 (Bj K) (cf 2) (tC (.int 1))))) tm (cq (pv 0)) (bE 2 tm) cR (bJ nF (aQ cO (pv 2) aL (λ_ _=>rfl)) (bJ lC (pv 1) (aQ cO (pv 2) aL (λ_ _=>rfl))))))))|?_]
 have m:=C _ _ R;have fold:∀i,_:=λi=>NT d0 (xs.take i) 1 (by decide) (Nat.one_dvd _) λx E=>(t x (lY E)).1;refine%[%[_|af.of m]|iB (K:=K) (a:=l) (xs:=Q) (λi σ o=>o=H/\∃q:Option V,σ=[some (.ref l),some (.int ((xs.take i).foldl mL 1:Nat)),q])
  %[rfl,none|rfl] (λi σ o _ %[e|_]=>by rw[e];exact af.of m) ?_ ?_]
 .rintro i b σ o G ⟨rfl,q,rfl⟩;obtain⟨x,I,a,rfl,J⟩:=dh hp G;have z:=bO I;obtain⟨B,p,Y,L⟩:=fold i;have A:(xs.take i).foldl mL 1<=2^8900:=bq (Au d0 p) db;have d:=C.gK J;refine%[d,bg (j:=1) rfl,_,_,rfl,by simp,by exact tY x.den|?_];refine%[%[?_|vJ ?_]|?_]
  .simp[*]
  .exact bq (Au B (HY ..)) A
  .refine%[d,bg (j:=1) rfl,%[?_|(t x z).2.den],rfl,some (.ref a)|?_]
   .exact vJ (bq (Ik ..) A)
   simp_all [take_snoc,mL]
 .rintro σ o ⟨rfl,q,rfl⟩;rw[bu hp,eK];have M:=fold xs.length;rw[eK]at M;obtain⟨B,p,Y,L⟩:=M;generalize xs.foldl mL 1=c at B p L;have A:c<=2^8900:=bq (Au d0 p) db;refine%[%[_|af.of m]|dI (K:=K) (S:=λF v (n:Int)=>v=V.int n) (R:=bS K F) (mM c) C (af.of m) hp S (λ_ _ _ _ _ q=>q) ?_ ?_]
  .rintro i v x T o G ⟨a,rfl,J⟩ g Z U;have z:=bO G;have d:=g.sub.gK (g.fs.gK J);refine%[d,bg (j:=0) rfl,d,bg (j:=1) rfl,%[by have:=x.den_pos;simp[*]|(t x z).2.den]|?_];refine%[%[(t x z).2.num|?_]|U _ _ T (ag.refl g.sub) ?_]
   .rw[<-Int.natCast_ediv];exact vJ (bq (Ik ..) A)
   rfl
  .intro F1 H1 E1 X W;exact k _ _ _ c X B (Au d0 p) L W.ints
def mf(a b:V):List (Str×V):=cb "wanted" b (cb "brought" a [])
def Zi(a b:V):(mf a b).lookup ("brought":Str)=some a:=by rfl
def Zj(a b:V):(mf a b).lookup ("wanted":Str)=some b:=by rfl
def Zk{m:Str}(a b:V)(c:m≠"wanted")(d:m≠"brought"):(mf a b).lookup m=aq:=by simp_all [mf,mr]
structure Fi(K:ah)(C:ae):Prop where
 cl:gJ K C
 nb:eS K C "brought"
 nw:eS K C "wanted"
inductive tq(CM:ae)(F:Hp)(v:V)(b:List Int)(c:Int):Prop
 |mk a d bv(e:v=.ref a)(e:F a=some (.ins CM d (mf bv (.int c))))(e:dO F bv b)
theorem tq.mono(h:tq a H O U S)(s:aD H J):tq a J O U S:=by obtain⟨b,c,d,e,q,i⟩:=h;exact%[b,c,d,e,s _ _ q|i.mono s]
abbrev Fj:Stmt:=inClass (top 93) 0
inductive Fl(C:ae)(e:List V)(H:Hp)(Q:VK)(E:XK):Prop
 |mk(p d:ae)(a b:V)(f:e=[.ref p,a,b])(f:H p=some (.ins C d []))(f:∀c:Hp,c p=some (.ins C d (mf a b))->(∀b o,H b=some o->b≠p->c b=some o)->Q .bB c)
def Zl:aV ["self","brought","wanted"] ["self","brought","wanted"] (aM Fj):=aX
def Zm(d:aH K "__init__" "Demand.__init__" Fj f y)(T:Fi K a):aJ P w K r h aR 1 f y ["self","brought","wanted"] (Fl a):=by? refine d.go Zl ?_;rintro j j j j j j j j j ⟨p,g,c,b,rfl,hp,k⟩;refine%[_,aw (fR (pv 0) (pv 1) rfl) (au (fR (pv 0) (pv 2) rfl))|?_];refine%[hp,T.cl,T.nb,(by decide)|?_];refine%[ak,T.cl,T.nw,(by show 1<1000;decide)|?_];exact k _ ak λb o e i=>by simp_all [aB]
abbrev Fm:Stmt:=inClass (top 93) 1
inductive Fp(CM:ae)(d:List V)(H:Hp)(Q:VK)(E:XK):Prop
 |mk(a:List Int)(b:Int)(ks:List Nat)(u v:V)(F:Hp)(f:d=[u,v])(f:aD F H)(f:tq CM F u a b)(f:dO F v (nI ks))(f:∀k∈ks,k<a.length)(f:∀e c,ag F H e c->Q (.bl (decide (b<=(ks.map λk=>a.getD k 0).sum))) c)
def Fq:aV ["self","numbers","number"] ["self","numbers"] (aM Fm):=aX
def Zn(t:aH K "is_met" "Demand.is_met" Fm f y)(T:Fi K a)(d:r "sum"=aq):aJ P w K r h aR 1 f y ["self","numbers"] (Fp a):=by?
 refine t.go Fq ?_;rintro U U U U U U U U U ⟨z,H,ks,u,v,F,rfl,j,⟨c,I,bv,rfl,s,⟨bl,rfl,o,A⟩⟩,⟨l,rfl,B,J⟩,L,k⟩;refine%[_,au (aF (i7 Sk (cg (Kp rfl) (by rfl) d boot_sum (ai (dC (own:=[("number",2)]) (te:=e6 (pW K) (fL K (cf 0) "brought") (cf 2)) Fq (cq (pv 1)) (bE 2 Fq) cR (aQ bA (aG (pv 0)) (pv 2) (λU U=>rfl))))) (aG (pv 0)) rfl))|?_];have m:=j _ _ B;refine%[%[_|af.of m]|dI (S:=λF v (n:Int)=>v=V.int n) (R:=λv (n:Nat)=>v=V.int (n:Int)) (xs:=ks) (λk=>z.getD k 0) j (af.of m) ?_ (by cbv) (λU U U U U q=>q) ?_ ?_]
 .grind [oS]
 .rintro i v x C M N rfl g O E;refine%[g.same _ _ (j _ _ s),T.cl,T.nb,Zi _ _,af.of (g.same _ _ (j _ _ o)),bg ?_|E _ _ C (ag.refl g.sub) rfl]
  grind
 .intro Q S D p G;obtain⟨R,e,q,b⟩:=G.ints;cases e;exact%[af.of (p.sub _ _ q),p.same _ _ (j _ _ s),T.cl,T.nw,Zj _ _|⟨k _ _ p⟩]
def mN(w:WR)(l:Nat):Rat:=(w.sold.map λp=>p.green.getD l 0).sum
inductive Fs(w:WR)(l many:Nat)(n d:Int)(a:List Int)(b:Int):Prop
 |mk(c:Nat)(e:0<c)(e:a.length=many)(e:∀k,((a.getD k 0:Int):Rat)=dk w k l*((c:Int):Rat)*(d:Rat))(e:(b:Rat)=(n:Rat)*(mN w l*((c:Int):Rat)))
def tu(w:WR)(l:Nat)(n d:Int)(ks:List Nat):Bool:=decide ((n:Rat)*mN w l<=(d:Rat)*(ks.map λk=>dk w k l).sum)
theorem NV{Υ c:Rat}(d:0<c):Z*c<=Υ*c↔Z<=Υ:=by
 constructor
 .intro h;refine wQ.mp λq=>?_
  have:=IJ q d
  grind
 grind [Aq]
def Zo{a:Int}(h:Fs G n j S φ U a)(ks:List Nat):decide (a<=(ks.map λk=>U.getD k 0).sum)=tu G n S φ ks:=by?
 obtain⟨c,i,d,m,g⟩:=h;have b:(((ks.map λk=>U.getD k 0).sum))=(φ:Rat)*(ks.map λk=>dk G k n).sum*((c:Int)):=by
  induction ks with
  |nil=>cbv
  |cons k r e=>
   rw[cx,cx,jk,tX,e];grind
 have f:(0:Rat)<((c:Int)):=nZ.mpr (by simp[*]);refine decide_eq_decide.mpr ?_;rw[<-i5,b,g,<-aeK];exact NV f
def NW{M:Nat}(a:0<=S)(h:(S:Rat)<=((M:Int):Rat))(b:M<=2^8900):Lg S:=by
 rw[i5]at h;have:=(AJ a).symm
 grind [vJ]
def NX{Ψ:PR}(h:G.sold[n]?=some Ψ)(l:Nat):dk G n l=Ψ.green.getD l 0:=by grind [dk,tU]
def Zp(h:G.sold.length<=n)(l:Nat):dk G n l=0:=by simp_all [dk,Q5]
def NY(a:0<=S)(h:S<=1000000):Lg S:=by
 have:=(AJ a).symm
 grind [vJ]
theorem Ft:∀{a:List Rat},(∀x∈a,x.den∣n)->(((a.map (mM n)).sum:Int):Rat)=a.sum*((n:Int):Rat)
 |[],_=>by cbv
 |x::r,h=>by rw[cx,jk,tX,zr (h x (bQ ..)),Ft λy b=>h y (bG _ b)];grind
def Zq:(U++cS n (0:Int)).getD j 0=U.getD j 0:=by
 rw[ir,ir,aeL];split
 .rfl
 .rename_i h;rw[mU (l:=U) (by exact og h),Q3];split<;>rfl
abbrev Fu:Stmt:=top 94
inductive Fv(K:ah)(CP CW CM:ae)(f:List V)(H:Hp)(Q:VK)(E:XK):Prop
 |mk(nl m:Nat)(x:List Nat×WR)(l many:Nat)(n d:Int)(u:V)(F:Hp)(h:f=[u,.int l,.int many,.int n,.int d])(h:aD F H)(h:fZ K CP CW F u x)(h:x.2.Ok nl m)(h:∃N,N<=40/\Sz N x.2)(h:l<nl)(h:x.2.sold.length<=many)(h:many<=1000)(h:0<=n)(h:n<=1000000)(h:0<=d)(h:d<=1000000)(h:∀a b r c e,ag F H a b->tq CM a r c e->Fs x.2 l many n d c e->Q r b)
def qH:aV ["way","lot","many","n","d","greens","missing","part","green"] ["way","lot","many","n","d"] (aM Fu):=aX
def Zr{z:ae}(Fn:aH K "demand_of" "demand_of" Fu f y)(TW:fY K l)(T:lF K a)(Y:r "len"=aq)(J:r "sum"=aq)(cc:aW P w K r h "in_whole_numbers" 2 ["fractions"] (NU K))
  (L:jX P w K r h "Demand" z 1 ["self","brought","wanted"] (Fl z)):aJ P w K r h aR 3 f y ["way","lot","many","n","d"] (Fv K a l z):=by?
 refine Fn.go qH ?_;rintro _ _ _ s _ _ _ _ hr ⟨nl,m,x,lt,many,n,d,u,F,rfl,M,⟨wa,ck,cv,cm,sv,tv,rfl,hw,w1,w2,⟨sl,cn,rfl,aa,ao,ar⟩,w4⟩,I,⟨N,hN,hs⟩,O,av,cG,n0,n1,d0,d1,k⟩;refine%[_,aw (bp 5 qH (aI cc hr (ai (dC (own:=[("part",7)]) (te:=e6 (pW K) (fL K (cf 7) "greens") (cf 1)) qH (cq (aG (pv 0))) (bE 7 qH) cR (aQ bA (aG (pv 7)) (pv 1) (λ_ _=>rfl))))))
  (aw (bp 6 qH (bJ Ts (bH (ai aL)) (bJ Sg (pv 2) (cg dG (by rfl) Y du (ai (pv 5))))))
  (au (aF (lD L hr (by decide) rfl (ay (bJ eT (dC (own:=[("green",8)]) (te:=e6 (rI (λi j=>Lg i/\Lg j) λi j=>.int (i*j)) (cf 8) (cf 4)) qH (cq (pv 5)) (bE 8 qH) cR (bJ nF (pv 8) (pv 4))) (pv 6))
   (ai (bJ nF (pv 3) (cg (Kp rfl) (by rfl) J boot_sum (ai (pv 5))))))))))|?_]
 have az:=M _ _ hw;have E:=M _ _ aa;obtain⟨KK,DD,H⟩:=hs.iK hN;refine%[az,TW.cl,TW.ns,nN _ _ _ _,%[_|af.of E]|dI (K:=K) (S:=λF v x=>bS K F v x) (R:=iF K a F) (λp:PR=>p.green.getD lt 0) M (af.of E) ao ar (λ_ _ _ _ s q=>q.mono s) ?_ ?_]
 .rintro i v p F' H' hi ⟨b,dx,kv,gv,rfl,e,h1,⟨gl,gs,rfl,a0,a3,_⟩⟩ g Qk kk;have a4:lt<p.green.length:=by rw[(I.sold p (bO hi)).len];exact O
  obtain⟨o,A,a5⟩:=getD_at a3 a4;exact%[g.same _ _ (M _ _ e),T.cl,T.ng,nG _ _,af.of (g.same _ _ (M _ _ a0)),bg A|kk _ _ F' (ag.refl g.sub) (a5.mono g.fs)]
 .intro F1 H1 D g1 hD;have gd:∀p∈x.2.sold,p.green.getD lt 0∈p.green:=λp hp=>by
   have a6:lt<p.green.length:=by rw[(I.sold p hp).len];exact O
   exact strs_getD_mem a6
  have dv:∀o∈x.2.sold.map (λp=>p.green.getD lt 0),Dv DD o/\0<=o:=λo A=>by obtain⟨p,hp,rfl⟩:=bF.mp A;exact%[(H.so p hp).2 _ (gd p hp)|(I.sold p hp).nn _ (gd p hp)]
  have sg:=ER (l:=lt) I.sold H.d0 (bq H.db (gj (by decide) (by decide))) (λp hp=>(H.so p hp).2) (d5 (hs.vG I hN) sT);refine%[DD,_,_,F1,rfl,g1.sub,hD,H.d0,bq H.db (gj (by decide) (by decide)),λo A=>%[(dv o A).1.den H.d0|sg.1.fit o A]|λF2 H2 r2 c g2 c0 cD hc q2=>?_];have Q:=g1.trans g2;obtain⟨rl,rfl,R,a7⟩:=q2;generalize a8:x.2.sold.map (λp=>p.green.getD lt 0)=xs at dv sg hc R a7;have cp:(0:Rat)<((c:Int):Rat):=nZ.mpr (by simp[*]);have cM:((2^20*c:Nat))<=2^8900:=by
   refine bq (Ii _ (bq cD H.db)) ?_
   lia
  have a9:xs.sum<=(((2^20:Nat):Int):Rat):=d5 sg.2 (d5 (hs.vG I hN) sT);have C:(((2^20*c:Nat):Int):Rat)=(((2^20:Nat):Int):Rat)*((c:Int):Rat):=by simp
  have bb:∀o∈xs,0<=o:=λo A=>(dv o A).2;have bo:∀o∈xs,Lg (mM c o):=λo A=>by
   refine NW (M:=2^20*c) ?_ ?_ cM
   .grind [mX,zr,H_]
   .rw[zr (hc o A),C];exact Aq (d5 (jU bb A) a9) (d8 cp)
  have br:Lg (xs.map (mM c)).sum:=by
   refine NW (M:=2^20*c) ?_ ?_ cM
   all_goals grind [mX,Ft,H_,jB,Aq]
  have bz:xs.length=x.2.sold.length:=by exact kR (len_of_map_eq a8)
  have G:=g2.sub _ _ R;refine%[dc|λp3 b6=>?_];have g3:=ag.bD (o:=.lst [.int 0]) Q.sub b6;have S:=Q.trans g3;refine%[rl,_,rfl,.inl (af.of (g3.same _ _ G))|⟨?_⟩];rw[aY,aY,bz];refine%[ak,by lia,by lia,?_|λp4 b7=>?_]
  .show 1*_<=bf;rw[Nat.one_mul];exact gC (eW (by lia))
  have er:(cS ((many:Int)-(x.2.sold.length:Int)).toNat [V.int 0]).flatten=(cS (many-x.2.sold.length) (0:Int)).map V.int:=by cbv
  rw[er];have g4:=ag.bD (o:=.lst ((cS (many-x.2.sold.length) (0:Int)).map V.int)) S.sub b7;have U:=S.trans g4;have B:=g4.same _ _ (g3.same _ _ G);refine%[%[_|af.of B]|dI (K:=K) (S:=λF v (n:Int)=>v=V.int n) (R:=λv (n:Int)=>v=V.int n) (xs:=xs.map (mM c)) (λt=>t*d) U.sub (af.of B) (oS _) (by cbv) (λ_ _ _ _ _ q=>q) ?_ ?_]
  .rintro i v t F' H' hi rfl g Qk kk;obtain⟨o,A,rfl⟩:=bF.mp (bO hi);exact%[%[bo o A|NY d0 d1]|kk _ _ F' (ag.refl g.sub) rfl]
  .intro F5 H5 D5 Z b8;obtain⟨D',e,q5,b5⟩:=b8.ints;cases e;have W:=U.trans Z;refine%[Z.sub _ _ q5,Z.same _ _ ak,?_|λp6 b9=>?_]
   .refine iT ?_ ?_
    all_goals(cbv;lia)
   rw[<-cF];have g6:=ag.put (o:=.lst ((((xs.map (mM c)).map λt=>t*d)++cS (many-x.2.sold.length) (0:Int)).map V.int)) W.sub b9;have X:=W.trans g6;refine%[af.of (g6.same _ _ (Z.same _ _ B)),%[NY n0 n1|br]|?_];intro t dz nz nd cL;refine%[t,dz,_,_,rfl,ak|λH7 hz kp=>%[rfl|?_]];have g7:=ag.made X.sub nz nd hz kp;refine k _ _ _ _ _ (X.trans g7) %[t,dz,_,rfl,ak,p6,rfl,g7.fs _ _ ak|?_] %[c,c0,?_,λk=>?_|?_]
   ·(cbv;lia)
   .simp_all
   .rw[Zq];cases e:x.2.sold[k]? with
    |none=>
     simp_all [Zp]
    |some p=>
     have hx:xs[k]?=some (p.green.getD lt 0):=by grind
     rw[NX e,ir,eJ,eJ,hx];show((mM c _*d:Int):Rat)=_;rw[Ib,zr (hc _ (bO hx))]
   simp_all [Ft,mN]
inductive vK(c:ae)(l many:Nat)(n d:Int)(F:Hp)(v:V)(x:List Nat×WR):Prop
 |mk a b(e:tq c F v a b)(e:Fs x.2 l many n d a b)
theorem vK.mono{x:List Nat×WR}(h:vK a n j S φ H O x)(s:aD H J):vK a n j S φ J O x:=by obtain⟨e,f,c,b⟩:=h;exact%[e,f,c.mono s|b]
abbrev qI(K:ah)(a:ae)(l many:Nat)(n d:Int)(F:Hp)(v:V)(b:cB):Prop:=dj (vK a l many n d F) K F v b
def qI.up{b:cB}(h:qI K a n j S φ H O b)(s:aD H J):qI K a n j S φ J O b:=dj.mono h s λc c q=>q.mono s
abbrev fO(a:cB)(l:Nat)(n d:Int)(ks:List Nat):Bool:=a.all λx=>tu x.2 l n d ks
abbrev NumV(F:Hp)(v:V)(ks:List Nat):Prop:=dO F v (nI ks)
abbrev nQ(K:ah)(F:Hp)(v:V)(a:List (List Nat)):Prop:=dj (NumV F) K F v a
def nQ.up{Α:List (List Nat)}(h:nQ K H O Α)(s:aD H J):nQ K J O Α:=dj.mono h s λa a q=>q.mono s
def NZ{a:cB}{x:List Nat×WR}(h:x∈a):x.2.sold.length<=eX a:=(foldl_max _ 0).2.1 _ (g_ h)
def N0{a:cB}(h:nO n j a):eX a<=40:=by
 rcases(foldl_max (a.map λx=>x.2.sold.length) 0).2.2 with e|e
 .simp_all [eX]
 .obtain⟨x,b,ex⟩:=bF.mp e;obtain⟨f,⟨N,d,c⟩,f⟩:=h x b;have:=c.gone;rw[dB]at this;show(a.map λx=>x.2.sold.length).foldl max 0<=40
  lia
abbrev Fw:Stmt:=top 95
inductive zt(K:ah)(CP CW CM:ae)(e:List V)(H:Hp)(Q:VK)(E:XK):Prop
 |mk(nl m:Nat)(a:cB)(l:Nat)(n d:Int)(u:V)(F:Hp)(f:e=[u,.int l,.int n,.int d])(f:aD F H)(f:fi K CP CW F u a)(f:nO nl m a)(f:a≠[])(f:l<nl)(f:0<=n)(f:n<=1000000)(f:0<=d)(f:d<=1000000)(f:∀b c r,ag F H b c->qI K CM l (eX a) n d b r a->Q r c)
def zu:aV ["ways","lot","n","d","many","way"] ["ways","lot","n","d"] (aM Fw):=aX
def Zs{z:ae}(N:aH K "demands_of" "demands_of" Fw f y)(j:aW P w K r h "most_sold" 1 ["ways"] (sZ K a l))(o:aW P w K r h "demand_of" 3 ["way","lot","many","n","d"] (Fv K a l z)):
  aJ P w K r h aR 4 f y ["ways","lot","n","d"] (zt K a l z):=by?
 refine N.go zu ?_;rintro _ _ _ s _ O _ _ G ⟨nl,m,xs,lt,n,d,u,F,rfl,H,I,aU,A,B,Q,R,d0,S,k⟩;refine%[_,aw (rO (i:=4) zu.nd rfl (rf rfl) (aI j G (ai (pv 0))))
  (au (aF (dC (own:=[("way",5)]) zu (cq (pv 0)) (bE 5 zu) cR (aI o G (ay (pv 5) (ay (pv 1) (ay (pv 4) (ay (pv 2) (ai (pv 3))))))))))|?_]
 refine%[xs,u,F,rfl,H,I,A|λF1 H1 t=>?_];obtain⟨c,O,rfl,T,hp,U⟩:=I;have p:=t.same _ _ (H _ _ T);have V:=N0 aU;refine%[%[_|af.of p]|dI (K:=K) (S:=λF v x=>vK z lt (eX xs) n d F v x) (λx=>x) t.sub (af.of p) hp U (λ_ _ _ _ s q=>q.mono s) ?_ ?_]
 .rintro i v x W H' X Y g Qk Z;have J:=bO X;obtain⟨ho,C,_⟩:=aU x J;exact%[nl,m,x,lt,eX xs,n,d,v,W,rfl,g.sub,Y.mono (t.fs.trans g.fs),ho,C,B,NZ J,by exact bq (by assumption) (by decide),Q,R,d0,S|λL H2 r2 br wa E e b=>Z _ _ L E %[br,wa,e|b]]
 .intro L H2 D E M;rw[Ax]at M;exact k _ _ _ (t.trans E) M
abbrev Fx:Stmt:=top 96
inductive zw(K:ah)(CM:ae)(c:List V)(H:Hp)(Q:VK)(E:XK):Prop
 |mk(b:cB)(l many:Nat)(n d:Int)(ks:List Nat)(u v:V)(F:Hp)(f:c=[u,v])(f:aD F H)(f:qI K CM l many n d F u b)(f:NumV F v ks)(f:∀k∈ks,k<many)(f:∀e a,ag F H e a->Q (.bl (fO b l n d ks)) a)
def N1:aV ["demands","numbers","demand"] ["demands","numbers"] (aM Fx):=aX
def Zt(E:aH K "is_enough" "is_enough" Fx f y)(o:gL P w K r h a "is_met" 1 ["self","numbers"] (Fp a)):aJ P w K r h aR 2 f y ["demands","numbers"] (zw K a):=by?
 refine E.go N1 ?_;rintro _ _ _ _ H _ _ _ G ⟨xs,lt,many,n,d,ks,u,v,F,rfl,A,⟨l,I,rfl,J,hp,U⟩,L,M,k⟩;refine%[_,aw (eO d9 rfl (cq (pv 0)) (bE 2 N1)
   (au (bW (nh (eQ (jY o G (by decide) (pv 2) (ai (pv 1))) (λ_=>rfl))) (au (aF m8)) bZ)))
  (au (aF m8))|?_]
 have p:=A _ _ J;refine%[%[_|af.of p]|iB (K:=K) (a:=l) (xs:=I) (λi σ t=>X2 λ(z:Hp) (q:Option V)=>A3 (σ=[some (.ref l),some v,q]) (ag F H z t) (fO (xs.take i) lt n d ks=true))
  %[F,none,rfl,ag.refl A|rfl] (λi σ t _ %[_,_,_,g|_]=>af.of (g.same _ _ p)) ?_ ?_]
 .rintro i b σ t N ⟨z,q,rfl,g,m⟩;obtain⟨x,O,Q,R,hd,aU⟩:=dh hp N;obtain⟨j,W,bv,rfl,S,X⟩:=id hd;obtain⟨c,Y,B,_⟩:=id aU;refine%[g.same _ _ (A _ _ S),Zk _ _ (by decide+kernel) (by decide+kernel),Q,R,ks,_,v,z,rfl,g.sub,hd.mono g.fs,L.mono g.fs,λk C=>by rw[B];exact M k C|λT Z D=>%[_,rfl|?_]];rw[Zo aU];cases e:tu x.2 lt n d ks with
  |true=>
   refine bt %[T,_,rfl,g.trans D|?_];rw[take_snoc O];simp[*]
  |false=>
   refine a_ ?_;have:fO xs lt n d ks=false:=by grind
   have s:=k _ _ (g.trans D);rw[this]at s;exact s
 .rintro σ t ⟨z,q,rfl,g,m⟩;rw[bu hp,eK]at m;have s:=k _ _ g;rw[m]at s;exact s
abbrev Fy:Stmt:=top 97
inductive Fz(K:ah)(CM:ae)(f:List V)(H:Hp)(Q:VK)(E:XK):Prop
 |mk(e:cB)(l many:Nat)(n d:Int)(a:List (List Nat))(u v:V)(F:Hp)(_:f=[u,v])(_:aD F H)(_:qI K CM l many n d F u e)(_:nQ K F v a)(_:∀ks∈a,∀k∈ks,k<many)(_:∀b c r,ag F H b c->(match a.find? (fO e l n d)with
  |aq=>r=.bB
  |some ks=>NumV b r ks)->Q r c)
def N2:aV ["demands","candidates","numbers"] ["demands","candidates"] (aM Fy):=aX
def Zu(D:aH K "first_enough" "first_enough" Fy f y)(t:aW P w K r h "is_enough" 2 ["demands","numbers"] (zw K a)):aJ P w K r h aR 3 f y ["demands","candidates"] (Fz K a):=by?
 refine D.go N2 ?_;rintro S S S S H S S S E ⟨xs,lt,many,n,d,j,u,v,F,rfl,B,G,⟨l,I,rfl,J,hp,Q⟩,L,k⟩;refine%[_,aw (eO d9 rfl (cq (pv 1)) (bE 2 N2)
   (au (bW (eQ (aI t E (ay (pv 0) (ai (pv 2)))) (λS=>rfl)) (au (aF (pv 2))) bZ)))
  (au (aF j_))|?_]
 have o:=B _ _ J;refine%[%[_|af.of o]|iB (K:=K) (a:=l) (xs:=I) (λi σ p=>X2 λ(s:Hp) (q:Option V)=>A3 (σ=[some u,some (.ref l),q]) (ag F H s p) ((j.take i).find? (fO xs lt n d)=aq))
  %[F,none,rfl,ag.refl B|rfl] (λi σ p _ %[_,_,_,g|_]=>af.of (g.same _ _ o)) ?_ ?_]
 .rintro i b σ p M ⟨s,q,rfl,g,c⟩;obtain⟨ks,m,C⟩:=dh hp M;refine%[xs,lt,many,n,d,ks,u,b,s,rfl,g.sub,G.up g.fs,C.mono g.fs,L ks (bO m)|λN R A=>%[_,rfl|?_]];cases e:fO xs lt n d ks with
  |true=>
   refine a_ (k _ _ _ (g.trans A) ?_);have:j.find? (fO xs lt n d)=some ks:=by
    have x:=(fP.mp m).1;have O:=by have z:=lZ i j;rw[tU x]at z;rw[(fP.mp m).2]at z;exact z.symm
    rw[O,List.find?_append,c,aeN,e];rfl
   rw[this];exact C.mono (g.trans A).fs
  |false=>
   refine bt %[N,_,rfl,g.trans A|?_]
   simp_all [take_snoc]
 .rintro σ p ⟨s,q,rfl,g,c⟩;rw[bu hp,eK]at c;refine k _ _ _ g ?_;rw[c]
def stN(a:Nat)(ks:List Nat):Nat:=(ks.getLast?.map (· +1)).getD a
def nR(a b:Nat)(ks:List Nat):List (List Nat):=(wK (stN a ks) (b-stN a ks)).map λx=>ks++[x]
def Zv(a x:Nat)(ks:List Nat):stN a (x::ks)=stN (x+1) ks:=by unfold stN;rw[List.getLast?_cons];cases ks.getLast?<;>rfl
def FA(a b x:Nat)(ks:List Nat):nR a b (x::ks)=(nR (x+1) b ks).map (x::·):=by simp[nR,Zv]
theorem N3:∀(l:List Nat) (k:Nat),∀ks∈gm (k+1) l,ks≠[]
 |[],k,ks,h=>by cases h
 |x::r,k,ks,h=>by
  rcases eF.mp (h)with h|h
  .grind
  .exact N3 r k ks h
def qJ(l:List Nat):gm 0 l=[[]]:=by cases l<;>rfl
def vL(k x:Nat)(r:List Nat):gm (k+1) (x::r)=(gm k r).map (λl=>x::l)++gm (k+1) r:=rfl
def Zw(k:Nat):gm (k+1) []=[]:=rfl
theorem zx:∀(m a k:Nat),gm (k+1) (wK a m)=(gm k (wK a m)).flatMap (nR a (a+m))
 |0,a,0=>by? simp_all [qJ,Zw,nR,stN]
 |0,a,k+1=>rfl
 |m+1,a,k=>by?
  rw[adM,vL];have e:a+(m+1)=a+1+m:=by exact kR (aer a m)
  cases k with
  |zero=>
   have d:=zx m (a+1) 0;rw[qJ]at d;rw[qJ,qJ,d,jr,wM,g9,jr,wM,g9];unfold nR stN;simp only[List.getLast?_nil,Option.map_none,Option.getD_none,wJ];rw[show a+(m+1)-a=m+1 by exact IL a (m+1),show a+1+m-(a+1)=m by exact IL (a+1) m];rfl
  |succ k=>
   rw[zx m _ (k+1),vL,ua,Ao,e];refine congr (congrArg _ ?_) ?_
   .rw[zx m _ k,qd];simp[FA]
   .refine mE λks b=>?_;have c:=N3 _ _ ks b;cases ks with
    |nil=>exact aT rfl c
    |cons y r=>rw[FA,FA]
theorem FC:∀(l:List Nat) (k:Nat),(gm k l).length<=2^l.length
 |l,0=>by rw[qJ];exact Ig
 |[],k+1=>bM _
 |x::r,k+1=>by
  rw[vL,dB,aY,iu];have:=FC r k;have:=FC r (k+1)
  lia
theorem vM:∀(l:List Nat) (k:Nat),∀ks∈gm k l,ks.length=k/\∀x∈ks,x∈l
 |l,0,ks,h=>by simp_all [qJ]
 |[],k+1,ks,h=>by cases h
 |x::r,k+1,ks,h=>by
  rcases eF.mp h with h|h
  .obtain⟨y,a,rfl⟩:=bF.mp h;have b:=vM r k y a
   cbv
  .have b:=vM r _ ks h
   cbv
theorem FD:∀(l:List Nat) (k:Nat),l.length<k->gm k l=[]
 |l,0,h=>by cbv
 |[],k+1,_=>rfl
 |x::r,k+1,h=>by rw[iu]at h;rw[vL,FD r k (by exact Nat.succ_lt_succ_iff.mp h),FD r _ (by exact Nat.lt_of_succ_lt h)];rfl
theorem N4:∀l:List Nat,gm l.length l=[l]
 |[]=>rfl
 |x::r=>by rw[iu,vL,N4 r,FD r _ (by simp)];rfl
def vN(a:cB)(l:Nat)(n d:Int)(many:Nat):Option (List Nat):=((bV (many+1)).flatMap λk=>gm k (bV many)).find? (fO a l n d)
def N5{Δ:L2.St}{Η:Bool}{Ο ι:TE}{Q:VK}{v:V}(a:Η=true->∀R:VK,R v H->ι Δ H R)(b:Η=false->∀R:VK,R v H->Ο Δ H R)(h:Q v H):if Η=true then ι Δ H Q else Ο Δ H Q:=by cbv
abbrev FE:Stmt:=top 98
inductive N6(K:ah)(d:List V)(H:Hp)(Q:VK)(E:XK):Prop
 |mk(a:List (List Nat))(many:Nat)(u:V)(F:Hp)(e:d=[u,.int many])(e:aD F H)(e:nQ K F u a)(e:a.length<=2000)(e:∀ks∈a,ks.length<=20/\stN 0 ks<=20)(e:many<=20)(e:∀b c r,ag F H b c->nQ K b r (a.flatMap (nR 0 many))->Q r c)
def vO:aV ["candidates","many","longer","numbers","start","number"] ["candidates","many"] (aM FE):=aX
def Zx(Fn:aH K "with_one_more" "with_one_more" FE f y)(o:r "range"=aq):aJ P w K r h aR 1 f y ["candidates","many"] (N6 K):=by?
 refine Fn.go vO ?_;rintro _ _ _ _ H _ _ _ _ ⟨C,many,u,F,rfl,E,⟨l,vs,rfl,hl,hp,hn⟩,b1,b2,b3,k⟩;refine%[_,aw (bp 2 vO (bH e_))
  (aw (eO d9 rfl (cq (pv 0)) (bE 3 vO)
   (aw (bp 4 vO (rM (eQ (pv 3) (λ_=>rfl)) (bJ jy (aQ bA (pv 3) (uo uq aL) (λ_ _=>rfl)) aL) aL))
   (au (eO d9 rfl (R8 rfl o (ay (pv 4) (ai (pv 1)))) (bE 5 vO)
    (au (eN (iG (pv 2) (ai (bJ eT (pv 3) (bH (ai (pv 5))))))))))))
  (au (aF (pv 2))))|?_]
 refine%[bM _|λD d=>?_];have G:=E _ _ hl;have ln:=bu hp;refine%[%[_|af.of (cQ d _ _ G)]|iB (K:=K) (a:=l) (xs:=vs) (λi σ I=>X5 λ(B:Hp) (c:List V) (T U p:Option V)=>A6 (σ=[some (.ref l),some (.int many),some (.ref D),T,U,p]) (ag F H B I) (B D=aq) (I D=some (.lst c)) (Paired (NumV B) c ((C.take i).flatMap (nR 0 many))) (c.length<=20*i))
  %[F,[],none,none,none,rfl,ag.bD E d,E.free d,ak,.nil|bM _] (λi σ I _ %[_,_,_,_,_,_,g,_,_,_|_]=>af.of (g.same _ _ G)) ?_ ?_]
 .rintro i a σ I hi ⟨B,c,T,U,p,rfl,g,Q,W,pr,bn⟩;obtain⟨ks,s,⟨kl,rfl,J,av⟩⟩:=dh hp hi;have L:=bO s;have az:=(fP.mp s).1;have q:=g.same _ _ (E _ _ J);have ao:=(b2 ks L).2;have ar:=(b2 ks L).1;refine%[_,.inl %[_,af.of q|rfl]|?_];refine N5 (v:=.int (stN 0 ks:Nat)) (λhc R hR=>?_) (λhc R hR=>?_) ?_
  .cases e:ks.getLast? with
   |none=>
    cbv
   |some x=>
    obtain⟨ys,rfl⟩:=aeO.mp e;have es:(nI (ys++[x])).map V.int=(nI ys).map V.int++[V.int (x:Int)]:=by simp[nI]
    refine%[af.of q,(by rw[es];exact xO _ _)|⟨?_⟩]
    simp_all [stN]
  .have:ks=[]:=by cbv
   subst this;exact hR
  .refine%[%[by simp,by lia,by simp|by lia]|?_];rw[show((many:Int)-((stN 0 ks:Nat):Int)).toNat=many-stN 0 ks by exact Int.toNat_sub many (stN 0 ks)];refine JC (n:=many-stN 0 ks) (λj σ M=>X3 λ(t:Hp) (c:List V) (p:Option V)=>A6 (σ=[some (.ref l),some (.int many),some (.ref D),some (.ref kl),some (.int (stN 0 ks:Nat)),p]) (ag F H t M) (t D=aq) (M D=some (.lst c)) (Paired (NumV t) c ((C.take i).flatMap (nR 0 many)++(wK (stN 0 ks) j).map λx=>ks++[x])) (c.length<=20*i+j))
    %[B,c,p,rfl,g,Q,W,by simpa using pr|bn] ?_ ?_
   .rintro j σ H2 hj ⟨F2,m,p,rfl,g2,v,n,z,N⟩;refine%[.inl %[rfl,_|af.of n]|?_];refine%[dc|λp3 X=>?_];have g3:=ag.bD (o:=.lst [.int ((stN 0 ks:Nat)+(j:Nat):Int)]) g2.sub X;have A:=g2.trans g3;refine%[A.same _ _ (E _ _ J),ak,iT (by grind) (by show 1<=1000;decide)|λp4 Y=>?_];have S:=ag.put (o:=.lst ((nI ks).map V.int++[.int ((stN 0 ks+j:Nat):Int)])) A.sub Y;have Z:=A.trans S;have aa:=S.same _ _ (g3.same _ _ n);have O:=S.out (g3.same _ _ n) v;refine%[aa,eW (by lia),_,m++[.ref p4],_,rfl,Z.iE d O,O,ak,?_|by exact len_snoc_le N];rw[List.range'_concat,cF,<-lW,Nat.one_mul];exact gM (cT z λ_ _ b=>b.mono S.fs) (.cons (ints_snoc ak (by exact bq (by assumption) (by decide))) .nil)
   .rintro σ H2 ⟨F2,m,p,rfl,g2,v,n,z,N⟩;refine%[F2,m,_,_,_,rfl,g2,v,n,?_|by lia];rw[take_snoc s,ua,jr,wM,g9];exact z
 .rintro σ I ⟨B,c,T,U,p,rfl,g,Q,W,pr,bn⟩;rw[ln,eK]at pr;refine(k _ _ _ (g.fix d W (.inl Q)) %[D,c,rfl,ak,cT pr λ_ _ b=>b.mono (cQ Q)|?_])
  lia
theorem N7{N:Type}{f:N->Rat}:∀{l:List N},(∀x∈l,f x=0)->(l.map f).sum=0
 |[],_=>rfl
 |x::r,h=>by rw[cx,jk,h x (bQ ..),N7 λy a=>h y (bG _ a),jj]
theorem N8(f:PR->Rat):∀(s:List PR) (m:Nat),s.length<=m->((bV m).map λk=>(((s.drop k).take 1).map f).sum).sum=(s.map f).sum
 |[],m,_=>N7 λk b=>by rw[List.drop_nil];rfl
 |p::r,0,h=>by simp at h
 |p::r,m+1,h=>by
  rw[HK,cx,cC,jk,cx,jk];have a:=N8 f r m (by simpa using h);refine congr (congrArg _ ?_) ?_
  .grind
  .rw[<-a];rfl
def Zy(h:G.sold.length<=j)(nd:S<=φ)(a:0<=mN G n):tu G n S φ (bV j)=true:=by refine bT ?_;have e:((bV j).map λk=>dk G k n).sum=mN G n:=N8 (λp=>p.green.getD n 0) G.sold j h;rw[e];exact Aq (i5.mpr nd) a
theorem N9{N:Type}{g:Nat->Option N}{y:N}(a:∀j,j<n->g j=aq)(b:g n=some y):∀m,n<m->(bV m).findSome? g=some y
 |0,h=>by cbv
 |m+1,h=>by
  rw[pk,List.findSome?_append];by_cases e:n<m
  .rw[N9 a b m e];rfl
  grind
def Zz{κ:List Nat}{b:cB}(c:∀a,a<d->(gm a (bV j)).find? (fO b n S φ)=aq)(e:(gm d (bV j)).find? (fO b n S φ)=some κ)(h:d<=j):vN b n S φ j=some κ:=by unfold vN;rw[List.find?_flatMap];exact N9 c e _ (by exact w8 h)
abbrev FF:Stmt:=top 99
inductive FG(K:ah)(CM:ae)(e:List V)(H:Hp)(Q:VK)(E:XK):Prop
 |mk(a:cB)(l many:Nat)(n d:Int)(u:V)(F:Hp)(f:e=[u,.int many])(f:aD F H)(f:qI K CM l many n d F u a)(f:∀x∈a,x.2.sold.length<=many/\0<=mN x.2 l)(f:n<=d)(f:many<=10)(f:∀b c r ks,ag F H b c->vN a l n d many=some ks->ks.length<=many->NumV b r ks->Q r c)
def vP:aV ["demands","many","candidates","found"] ["demands","many"] (aM FF):=aX
def ZA(Fn:aH K "fewest_enough" "fewest_enough" FF f y)(i:aW P w K r h "first_enough" 3 ["demands","candidates"] (Fz K a))(v:aW P w K r h "with_one_more" 1 ["candidates","many"] (N6 K)):
  aJ P w K r h aR 4 f y ["demands","many"] (FG K a):=by?
 refine Fn.go vP λao A outer s H vs Q E O b=>?_;obtain⟨C,lt,many,n,d,u,F,rfl,hF,hu,hx,R,hm,k⟩:=b;refine%[_,aw (bp 2 vP (bH (ai (bH e_))))
  (aw (bp 3 vP (aI i O (ay (pv 0) (ai (pv 2)))))
  (aw (A0 d9 (bY uu (pv 3) j_ (b_ _))
   (aw (bp 2 vP (aI v O (ay (pv 2) (ai (pv 1)))))
   (au (bp 3 vP (aI i O (ay (pv 0) (ai (pv 2))))))))
  (au (aF (pv 3)))))|?_]
 refine%[bM _|λD S=>?_];have g1:=ag.put (o:=.lst []) hF S;refine%[dc|λT G=>?_];have g2:=g1.trans (ag.put (o:=.lst [.ref D]) g1.sub G);have I:nQ K (upd (upd F D (.lst [])) T (.lst [.ref D])) (.ref T) (gm 0 (bV many)):=by rw[qJ];exact%[T,_,rfl,ak,.cons %[D,rfl,(ag.put (o:=.lst [.ref D]) g1.sub G).fs _ _ ak|bM _] .nil|by simp]
 have inr:∀k,∀ks∈gm k (bV many),∀c∈ks,c<many:=λk ks z c hy=>kT.mp ((vM _ k ks z).2 c hy);refine%[C,lt,many,n,d,_,u,_,_,rfl,g2.sub,hu.up g2.fs,I,inr 0|λF3 H3 r3 g3 q3=>?_];refine⟨λm σ H'=>X4 λ(k:Nat) (p:Hp) (B t:V)=>A7 (m=many-k) (k<=many) (σ=[some u,some (.int many),some B,some t]) (ag F H p H') (nQ K p B (gm k (bV many))) (∀j,j<k->(gm j (bV many)).find? (fO C lt n d)=aq) (match(gm k (bV many)).find? (fO C lt n d)with
   |aq=>t=.bB
   |some ks=>NumV p t ks),%[many,0,F3,_,r3,rfl,bM _,rfl,g2.trans g3,I.up g3.fs,(λj b=>by cbv)|q3],?_⟩
 rintro m σ H' ⟨l,p,B,t,rfl,hk,rfl,g,U,W,o⟩;refine%[rfl|⟨?_⟩];cases e:(gm l (bV many)).find? (fO C lt n d)with
 |some ks=>
  rw[e]at o;obtain⟨fa,rfl,ar,av⟩:=id o;rw[bK (λq=>by cases q)];refine bt (k _ _ _ ks g (Zz W e hk) ?_ o)
  grind [vM]
 |none=>
  rw[e]at o;subst o;rw[bT rfl];have aa:l<many:=Nat.lt_of_le_of_ne hk λq=>by subst q;have ca:=N4 (bV l);rw[QU]at ca;rw[ca,aeN,show fO C lt n d (bV l)=true from nY.mpr λx mx=>Zy (hx x mx).1 R (hx x mx).2]at e;cases e
  refine a_ ⟨λσ' J=>X3 λ(p:Hp) (B t:V)=>A4 (σ'=[some u,some (.int many),some B,some t]) (ag F H p J) (nQ K p B (gm (l+1) (bV many))) (match(gm (l+1) (bV many)).find? (fO C lt n d)with
    |aq=>t=.bB
    |some ks=>NumV p t ks),?_,?_⟩
  .rintro σ' J ⟨X,Y,Z,rfl,L,M,N⟩;refine%[many-(l+1),by exact QE many l aa,l+1,X,Y,Z,rfl,by trivial,rfl,L,M,λj hj=>?_|N]
   grind
  .refine%[_,many,B,p,rfl,g.sub,U,?_,λks z=>?_,by exact bq (by assumption) (by decide)|λX H4 r4 L q4=>?_]
   .refine bq (FC _ _) ?_;rw[QU];exact bq (gj (by decide) hm) (by decide)
   .have cm:=vM _ l ks z;refine%[by lia|?_];unfold stN;cases el:ks.getLast? with
    |none=>exact bM _
    |some c=>
     have:=kT.mp (cm.2 c (List.mem_of_getLast? el))
     (cbv;lia)
   .have em:=zx many 0 l;rw[<-adO,Nat.zero_add]at em;rw[<-em]at q4;refine%[C,lt,many,n,d,_,u,r4,X,rfl,L.sub,hu.up (g.fs.trans L.fs),q4,inr (l+1)|λF5 H5 r5 g5 q5=>?_];exact%[F5,r4,r5,rfl,(g.trans L).trans g5,q4.up g5.fs|q5]
def ag.unlock{Ν ο:Hp}{ψ o:HO}(g:ag J (upd H a o) ο Ν)(hd:H a=some ψ)(n:J a=aq):ag J H ο (upd Ν a ψ):=by?
 have c:=g.out ak n;refine%[λb v e=>?_,g.fs,λb v e=>?_|λb v e=>?_]
 .by_cases q:b=a
  .simp_all [ak]
  .rw[aB q];exact g.same b v (by rw[aB q];exact e)
 .have q:b≠a:=λz=>by rw[z,c]at e;cases e
  rw[aB q];exact g.sub b v e
 .rcases g.new b v e with h|h
  all_goals grind [aB]
def ZC{Υ:Rat}(c:cw Z)(d:cw Υ):ja (Z-Υ):=by?
 have e:Z.den<2^8999:=by have:=c.den;assumption
 have f:Υ.den<2^8999:=by have:=d.den;assumption
 have g:=c.num;have h:=d.num;have i:=wR (gC g) (gC f);have j:=wR (gC h) (gC e);have k:=wR (gC e) (gC f);have hd:=Rat.sub_def Z Υ;rw[Rat.normalize_eq]at hd;refine%[?_|?_]
 .rw[hd];refine iP (bq (Int.natAbs_ediv_le_natAbs _ _) (Int.natAbs_sub_le _ _)) ?_;rw[aeP,aeP,Q7,Q7]
  lia
 .rw[hd];exact iP (Ik ..) (by lia)
def sel(a:List (Nat×Rat))(c:Nat):List Rat:=(a.filter λp=>decide (p.1=c)).map (·.2)
def lQ(a:List (Nat×Rat))(c:Nat):Option Rat:=match sel a c with
 |[]=>aq
 |x::xs=>some (EJ x xs)
def FH(d:List (Nat×Rat))(c b:Nat)(a:Rat):sel (d++[(c,a)]) b=if c=b then sel d b++[a]else sel d b:=by grind [sel]
structure vQ(a:List (Nat×Rat))(L:List (Nat×List Rat)):Prop where
 sel:∀x∈L,x.2=GT.sel a x.1/\x.2≠[]
 all:∀p∈a,∃x∈L,x.1=p.1
 len:L.length<=a.length
def putL(L:List (Nat×List Rat))(c:Nat)(v:List Rat):List (Nat×List Rat):=if(L.any λx=>decide (x.1=c))=true then L.map (λx=>if x.1=c then(x.1,v)else x)else L++[(c,v)]
def vQ.put{f:List (Nat×Rat)}{L:List (Nat×List Rat)}(h:vQ f L)(c:Nat)(a:Rat):vQ (f++[(c,a)]) (putL L c (GT.sel f c++[a])):=by?
 unfold putL;by_cases q:(L.any λx=>decide (x.1=c))=true
 .rw[aS q];obtain⟨l,j,g⟩:=aeQ.mp q;refine%[λx b=>?_,λp hp=>?_|by rw[aY,dB];have:=h.len;exact Ar this]
  .obtain⟨y,d,rfl⟩:=bF.mp b;rw[FH];split
   .simp_all
   .rename_i e;rw[aE (λz=>e z.symm)];exact h.sel y d
  .rcases eF.mp hp with z|z
   .obtain⟨y,d,i⟩:=h.all p z;exact%[_,g_ d|by split<;>exact i]
   .refine%[_,g_ j|?_];rw[fJ.mp z,aS (of_decide_eq_true g)];exact of_decide_eq_true g
 .rw[aE q];have k:=λx b e=>q (aeQ.mpr %[x,b|bT e])
  refine%[λx b=>?_,λp hp=>?_|by have:=h.len;cbv]
  .rcases eF.mp b with z|z
   .rw[FH,aE (λe=>k x z e.symm)];exact h.sel x z
   .rw[fJ.mp z,FH,aS rfl];exact%[rfl|by simp]
  .rcases eF.mp hp with z|z
   .obtain⟨y,d,i⟩:=h.all p z
    grind
   cbv
inductive zy(K:ah)(F:Hp)(a:Key×V)(x:Nat×List Rat):Prop
 |mk(b:a.1=fu ((x.1:Nat):Int))(b:dR K F a.2 x.2)
def FI:((fu ((n:Nat):Int):Key)=fu ((j:Nat):Int))↔n=j:=by grind
def ZD{a:List (Key×V)}{L:List (Nat×List Rat)}(h:Paired (zy K H) a L)(c:Nat):(dN a (fu (c:Int))=aq/\∀x∈L,x.1≠c)\/∃v x,dN a (fu (c:Int))=some v/\x∈L/\x.1=c/\dR K H v x.2:=by?
 induction h with
 |nil=>exact .inl %[rfl|λi h=>nomatch h]
 |@cons b x a L r t d=>
  by_cases e:x.1=c
  .exact .inr %[b.2,x,mC (by rw[r.1,e]),bQ ..,e|r.2]
  .have f:=λz=>e (FI.mp (r.1.symm.trans z))
   simp_all [dN]
def ZE{d:List (Key×V)}{L:List (Nat×List Rat)}(h:Paired (zy K H) d L)(s:aD H J)(c:Nat)(g:dR K J O Θ):Paired (zy K J) (putK d (fu (c:Int)) O) (putL L c Θ):=by?
 have ea:(d.any λi=>decide (i.1=fu (c:Int)))=L.any λx=>decide (x.1=c):=by
  induction h with
  |nil=>rfl
  |cons r t f=>
   rw[o9,f];refine congrArg (· ||_) (decide_eq_decide.mpr ?_);rw[r.1];exact FI
 unfold putK putL;rw[ea];split
 .clear ea;rename_i q;clear q;induction h with
  |nil=>exact .nil
  |@cons i x d L r t f=>
   rw[cx,cx];refine .cons ?_ f;by_cases e:x.1=c
   .rw[aS (by rw[r.1,e]),aS e];exact%[r.1|g]
   .rw[aE (λz=>e (FI.mp (r.1.symm.trans z))),aE e];exact%[r.1|dR.up r.2 s]
 .exact gM (cT h λa b q=>%[q.1|dR.up q.2 s]) (.cons %[rfl|g] .nil)
def f_(b:cB)(a:List Rat)(e:Nat):List (Nat×Rat):=(b.zip a).map λp=>(p.1.1.getD e 0,p.2)
def FJ(a:List (Nat×Rat))(y:Rat):Prop:=(∃c,lQ a c=some y)/\∀c z,lQ a c=some z->z<=y
def qK:List Rat->Rat
 |[]=>0
 |x::xs=>EJ x xs
theorem FK:∀(l:List Rat) (x:Rat),∀y∈l,y<=fW x l
 |[],_,_,h=>nomatch h
 |z::l,x,y,h=>by
  show y<=fW _ l;rcases cU.mp h with rfl|h
  .grind [EF]
  .exact FK l _ y h
theorem N_(x:Rat)(a:List Rat):fW x (x::a)∈x::a:=by grind [uW,fW]
def ZF{d:List (Nat×Rat)}{L:List (Nat×List Rat)}(h:vQ d L)(e:L.map (λq=>qK q.2)=Z::Θ):FJ d (fW Z (Z::Θ)):=by?
 refine%[?_|λc z b=>?_]
 .have m:=N_ Z Θ;obtain⟨q,f,j⟩:=bF.mp (show fW Z _∈L.map λq=>qK q.2 by rw[e];exact m);refine%[q.1|?_];obtain⟨n,l⟩:=h.sel q f;unfold lQ;rw[<-n];rw[<-j];cases g:q.2 with
  |nil=>exact aT g l
  |cons a r=>rfl
 .have:z∈Z::Θ:=by
   rw[<-e];unfold lQ at b;cases i:sel d c with
   |nil=>rw[i]at b;cases b
   |cons a r=>
    rw[i]at b;have m:a∈sel d c:=by cbv
    obtain⟨p,hp,o⟩:=bF.mp m;obtain⟨q,f,j⟩:=h.all p (Ae.mp hp).1;have k:=j.trans (of_decide_eq_true (Ae.mp hp).2);refine bF.mpr %[q,f|?_];rw[(h.sel q f).1,k,i];exact cE b
  exact FK (Z::Θ) Z z this
def ZG{a:List (Nat×Rat)}(h:Z∈sel a n):∃p∈a,p.2=Z:=by
 obtain⟨p,hp,e⟩:=bF.mp h
 grind
abbrev FL:Stmt:=top 38
inductive FN(K:ah)(CP CW:ae)(g:List V)(H:Hp)(Q:VK)(E:XK):Prop
 |mk(b:cB)(c:List Rat)(e:Nat)(u v:V)(F:Hp)(h:g=[u,v,.int e])(h:aD F H)(h:fi K CP CW F u b)(h:dR K F v c)(h:c.length=b.length)(h:b≠[])(h:b.length<=64)(h:∀x∈b,e<x.1.length)(h:∀a∈c,cw a)(h:∀d f r y,ag F H d f->bS K d r y->ja y->FJ (f_ b c e) y->Q r f)
def qL:aV ["ways","amounts","entry","by_deed","way","amount","choice","found"] ["ways","amounts","entry"] (aM FL):=aX
def ZH{base:ax}{CP CW f:ae}{fd:aK}(Fn:aH K "open_at_worst" "open_at_worst" FL f fd)(TW:fY K CW)(hzip:mg "zip"=aq)(hSpread:aW P w K mg base "spread" 4 ["amounts"] (NO K))(hGreatest:aW P w K mg base "greatest" 2 ["fractions"] (yD K)):
  aJ P w K mg base aR 5 f fd ["ways","amounts","entry"] (FN K CP CW):=by?
 refine Fn.go qL λcdv A outer s H vs Q E hr h=>?_;obtain⟨xs,as,en,u,v,F,rfl,hF,⟨l,vs,rfl,hl,hp,hn⟩,⟨l2,vs2,rfl,hl2,hp2,hn2⟩,hlen,hne,h64,hen,hfit,k⟩:=h;have hu:=Lb hr;refine⟨_,aw (bp 3 qL KO)
  (aw (eO d9 rfl (BK rfl hzip (ay (pv 0) (ai (pv 1)))) (mj rfl (gI (bE 4 qL) (gI (bE 5 qL) mi)))
   (aw (bp 6 qL (aQ bA (aG (pv 4)) (pv 2) (λj j=>rfl)))
   (au (KN hu (pv 3) (pv 6) (bJ eT (KQ hu (pv 3) (pv 6) (bH e_) ⟨rfl,rfl,rfl,rfl⟩) (bH (ai (pv 5)))) rfl))))
  (au (aF (aI hGreatest hr (ai (Uq (dC (own:=[("found",7)]) qL (Uy (pv 3)) (bE 7 qL) cR (aI hSpread hr (ai (pv 7)))))))))),?_⟩
 have hl':=hF _ _ hl;have hl2':=hF _ _ hl2;have ln:=bu hp;have ln2:=bu hp2;intro d hd;have g0:=ag.bD (o:=.dK []) hF hd;refine⟨af.of (g0.same _ _ hl'),af.of (g0.same _ _ hl2'),?_⟩;refine qm (J:=p_ K l l2) (n:=vs.length) (λi σ H'=>X6 λ(F':Hp) (kvs:List (Key×V)) (L:List (Nat×List Rat)) (q4 q5 q6:Option V)=>A6 (σ=[some (.ref l),some (.ref l2),some (.int en),some (.ref d),q4,q5,q6,aq]) (ag F H F' H') (F' d=aq) (H' d=some (.dK kvs)) (Paired (zy K F') kvs L) (vQ ((f_ xs as en).take i) L))
  ⟨F,[],[],none,none,none,rfl,g0,hF.free hd,ak,.nil,⟨(λj h=>nomatch h),(λj h=>nomatch h),bM _⟩⟩ ?_ ?_ ?_
 .rintro σ H' ⟨F',kvs,L,q4,q5,q6,rfl,g,nd,ed,pr,gp⟩;refine⟨⟨vs,vs2,af.of (g.same _ _ hl'),af.of (g.same _ _ hl2'),.inl (bx _)⟩,?_⟩;have lp:(f_ xs as en).length=vs.length:=by simp_all [f_]
  rw[<-lp,eK]at gp;have lP:∀q∈L,q.2≠[]/\∀y∈q.2,cw y:=λq hq=>⟨(gp.sel q hq).2,λy hy=>by
   rw[(gp.sel q hq).1]at hy;obtain⟨p,hp',rfl⟩:=ZG hy;obtain⟨z,hz,rfl⟩:=bF.mp hp'
   grind [Ah]⟩
  refine⟨d,.dK kvs,ed,trivial,λod=>?_⟩;have sF:aD F' (upd H' d (.dX od (.dK kvs))):=λb o e=>by rw[aB (λz=>by rw[z,nd]at e;cases e)];exact g.sub b o e
  refine⟨d,od,kvs,rfl,ak,?_⟩;have lk:=bu pr;refine qk (K:=K) (S:=λF v x=>bS K F v x) (J:=BH d od kvs) (n:=kvs.length) (λi=>(L.map λq=>qK q.2)[i]?) sF (by rw[lk];have:=gp.len;rw[lp]at this;exact bq this hn) (λj j j j s q=>q.mono s) (λH'' sm=>⟨sm _ _ ak,bx _⟩) (λi H'' hi sm=>⟨sm _ _ ak,hi⟩) ?_ ?_
  .rintro i F2 H2 hi g2 v H3 ⟨rfl,kk,hkk⟩ Qk Qn kq kn;obtain⟨q,hq,hr1,hr2⟩:=dh pr hkk;obtain⟨fne,fq⟩:=lP q (bO hq);refine⟨uX,?_⟩;unfold jR;dsimp only;rw[aS rfl];cases e2:q.2 with
   |nil=>exact aT e2 fne
   |cons x r=>
    rw[e2]at hr2 fq;refine⟨x,r,v,F2,rfl,g2.sub,dR.up hr2 g2.fs,fq,λF4 H4 r4 g4 q4=>kq _ _ F4 _ ?_ g4 q4⟩
    simp_all [qK]
  .intro F2 H2 D g2 hD;rw[qo _ _ (by cbv),lk,show L.length=(L.map λq=>qK q.2).length by rw[aY],eK]at hD;refine⟨g2.same _ _ ak,?_⟩;have gu:=g2.unlock ed nd;cases e2:L.map λq=>qK q.2 with
   |nil=>
    exfalso;have eL:L=[]:=Qv.mp e2;have:0<(f_ xs as en).length:=by grind
    obtain⟨q,hq,j⟩:=gp.all _ (wL this)
    cbv
   |cons x r=>
    rw[e2]at hD;have fm:∀y∈x::r,ja y:=λy hy=>by
     rw[<-e2]at hy;obtain⟨q,hq,rfl⟩:=bF.mp hy;obtain⟨fne,fq⟩:=lP q hq;show ja (qK q.2);cases e3:q.2 with
     |nil=>exact aT e3 fne
     |cons a b=>
      rw[e3]at fq;exact ZC (EE fq) (NN fq)
    refine⟨x,r,_,F2,rfl,gu.sub,hD,fm,λr5 q5=>?_⟩;exact k _ _ _ _ (g.trans gu) q5 (EE fm) (ZF gp e2)
 .rintro i σ H' hi ⟨F',kvs,L,q4,q5,q6,rfl,g,j⟩;exact⟨vs,vs2,vs[i],vs2[i]'(by cbv),af.of (g.same _ _ hl'),af.of (g.same _ _ hl2'),cA hi,cA _⟩
 .rintro i v0 σ H' H2 hi ⟨F',kvs,L,q4,q5,q6,rfl,g,nd,ed,pr,gp⟩ ⟨T,wv,av,rfl,nT,rfl,h1,h2⟩;have e1:=h1 vs (af.of (g.same _ _ hl'));have e2:=h2 vs2 (af.of (g.same _ _ hl2'));obtain⟨x,hx,hxv⟩:=dh hp e1;obtain⟨a,ha,hav⟩:=dh hp2 e2;obtain⟨wa,wdx,cv,pv2,sv,tv,rfl,hw,⟨cl,rfl,hcl,hcn⟩,w2⟩:=hxv;have hex:=hen x (bO hx);have gT:=g.trans (ag.bD (o:=.tup [.ref wa,av]) g.sub nT);have edT:(upd H' T (.tup [.ref wa,av])) d=some (.dK kvs):=cQ nT _ _ ed;have hg:((nI x.1).map V.int)[en]?=some (.int (x.1.getD en 0:Nat)):=by cbv
  refine⟨bN.of ak,rfl,rfl,?_⟩;refine⟨gT.same _ _ (hF _ _ hw),TW.cl,TW.nc,nM _ _ _ _,af.of (gT.same _ _ (hF _ _ hcl)),bg hg,?_⟩;generalize ec:x.1.getD en 0=c;have hpi:(f_ xs as en)[i]?=some (c,a):=by simp_all [f_]
  refine⟨d,rfl,.inl ⟨kvs,.inl edT⟩,bM _,λp3 hp3=>?_⟩;have g3:=gT.trans (ag.put (o:=.lst []) gT.sub hp3);have s3:aD F' (upd F' p3 (.lst [])):=cQ (gT.sub.free hp3);have ed3:=cQ (o:=.lst []) hp3 _ _ edT;have nd3:(upd F' p3 (.lst [])) d=aq:=by grind [aB]
  refine⟨_,rY.k (k:=fu (c:Int)) ed3,?_⟩;obtain⟨zl,zs,ez,hzl,hzp,hzn⟩:X2 λzl zs=>A4 ((dN kvs (fu (c:Int))).getD (.ref p3)=.ref zl) ((upd F' p3 (.lst [])) zl=some (.lst zs)) (Paired (bS K (upd F' p3 (.lst []))) zs (sel ((f_ xs as en).take i) c)) (zs.length<=100):=by
   have sl:(sel ((f_ xs as en).take i) c).length<=64:=by grind [sel]
   rcases ZD pr c with⟨e,hno⟩|⟨v,q,e,hq,eq,hv⟩
   .refine⟨p3,[],by rw[e];rfl,ak,?_,bM _⟩;have:sel ((f_ xs as en).take i) c=[]:=by
     unfold sel;rw[Qw.mpr,wJ];intro p hp' e';obtain⟨y,hy,ey⟩:=gp.all p hp'
     grind
    rw[this];exact .nil
   .obtain⟨zl,zs,ezl,h1',h2',h3'⟩:=hv;rw[(gp.sel q hq).1,eq]at h2';refine⟨zl,zs,by rw[e,ezl];rfl,s3 _ _ h1',cT h2' λj j r=>r.mono s3,?_⟩
    grind [bu]
  rw[ez];refine⟨dc,λp4 hp4=>?_⟩;have g4:=g3.trans (ag.bD (o:=.lst [av]) g3.sub hp4);refine⟨g4.sub _ _ hzl,ak,iT (by exact bq (by assumption) (by decide)) (by show 1<=1000;decide),λp5 hp5=>?_⟩;have g5':=ag.put (o:=.lst (zs++[av])) g4.sub hp5;have g5:=g4.trans g5';have ed5:=g5'.same _ _ (cQ (o:=.lst [av]) hp4 _ _ ed3);have mO:=g5'.out (cQ (o:=.lst [av]) hp4 _ _ ed3) nd3;have s5:=s3.trans g5'.fs;refine⟨d,_,rfl,rZ.k (k:=fu (c:Int)) ed5 (eW ?_),?_⟩
  .rw[bu pr];have:=gp.len;grind
  .refine⟨_,_,putL L c (sel ((f_ xs as en).take i) c++[a]),_,_,_,rfl,g5.iE hd mO,mO,ak,ZE pr s5 c ?_,?_⟩
   .refine⟨p5,_,rfl,ak,gM (cT hzp λj j r=>r.mono g5'.fs) (.cons (hav.mono ((g.fs.trans s3).trans g5'.fs)) .nil),?_⟩
    (cbv;lia)
   .rw[take_snoc hpi];exact gp.put c a
def zA(o:Option Rat)(x:Rat):Option Rat:=match o with
 |aq=>some x
 |some y=>some (if x<=y then y else x)
def qM(a:List (Nat×Rat))(n:Nat):Option Rat:=((bV n).filterMap (lQ a)).foldl zA aq
theorem N':∀(l:List Rat) (z:Rat),X1 λm=>A3 (l.foldl zA (some z)=some m) (m∈z::l) (∀x∈z::l,x<=m)
 |[],z=>%[z,rfl,bQ ..|λx b=>by cbv]
 |a::l,z=>by
  obtain⟨m,c,d,e⟩:=N' l _;refine%[m,c,?_|λx b=>?_]
  all_goals grind [bQ]
def ZI{b:List (Nat×Rat)}(h:FJ b Z)(g:∀c z,lQ b c=some z->c<n):qM b n=some Z:=by
 obtain⟨⟨c,d⟩,o⟩:=h;unfold qM;have f:=HB.mpr %[c,kT.mpr (g c Z d)|d];cases e:(bV n).filterMap _ with
 |nil=>rw[e]at f;cases f
 |cons a l=>
  obtain⟨m,i,j,k⟩:=N' l a
  grind [zA]
def tw(c:cB)(b:List Rat)(a:List Nat)(o:Option (Nat×Rat))(i:Nat):Option (Nat×Rat):=match qM (f_ c b i) (a.getD i 0)with
 |aq=>o
 |some x=>match o with
  |aq=>some (i,x)
  |some y=>if x<y.2 then some (i,x)else o
def kH(c:cB)(b:List Rat)(a:List Nat)(n:Nat):Option (Nat×Rat):=((bV n).filter λi=>decide (1<a.getD i 0)).foldl (tw c b a) aq
theorem Oa(c:cB)(b:List Rat)(a:List Nat)(n:Nat):kH c b a (n+1)=if 1<a.getD n 0 then tw c b a (kH c b a n) n else kH c b a n:=by grind [kH,pk]
def tD(K:ah)(F:Hp)(v:V):Option (Nat×Rat)->Prop
 |aq=>v=.bB
 |some x=>X2 λa b=>A4 (v=.ref a) (F a=some (.tup [.int (x.1:Nat),b])) (bS K F b x.2) (ja x.2)
theorem tD.mono{o:Option (Nat×Rat)}(h:tD K H O o)(s:aD H J):tD K J O o:=by
 cases o with
 |none=>exact h
 |some x=>
  obtain⟨a,b,e,q,r,m⟩:=h;exact%[a,b,e,s _ _ q,r.mono s|m]
abbrev FO:Stmt:=top 39
inductive FP(K:ah)(CP CW CD:ae)(g:List V)(H:Hp)(Q:VK)(E:XK):Prop
 |mk(ents:List (List DE))(b:cB)(c:List Rat)(ea:ae)(d:List V)(u v:V)(F:Hp)(h:g=[.ref ea,u,v])(h:aD F H)(h:H ea=some (.lst d))(h:Paired (mK K CD F) d ents)(h:fi K CP CW F u b)(h:dR K F v c)(h:c.length=b.length)(h:b≠[])(h:b.length<=64)(h:∀x∈b,x.1.length=ents.length/\∀i,x.1.getD i 0<(ents.map eI).getD i 1)(h:∀a∈c,cw a)(h:∀e f r,ag F H e f->tD K e r (kH b c (ents.map eI) ents.length)->Q r f)
def tE:aV ["entries","ways","amounts","best","number","deeds","left"] ["entries","ways","amounts"] (aM FO):=aX
def ZJ{D:ae}(Fn:aH K "best_entry" "best_entry" FO f y)(Q:r "len"=aq)(A:r "enumerate"=aq)(B:aW P w K r h "open_at_worst" 5 ["ways","amounts","entry"] (FN K a D))(C:aW P w K r h "is_less" 1 ["first","second"] (sA K)):
  aJ P w K r h aR 6 f y ["entries","ways","amounts"] (FP K a D l):=by?
 refine Fn.go tE ?_;rintro x x x x H x x x hr ⟨ents,xs,as,ea,J,u,v,F,rfl,hF,o,hp,hu,hv,aa,ao,ar,hx,L,k⟩;refine%[_,aw (bp 3 tE j_)
  (aw (eO d9 rfl (BI rfl A (ai (pv 0))) (mj rfl (gI (bE 4 tE) (gI (bE 5 tE) mi)))
   (au (bW (bY oH (cg dG (by rfl) Q du (ai (pv 5))) aL (b_ _))
    (aw (bp 6 tE (aI B hr (ay (pv 1) (ay (pv 2) (ai (pv 4))))))
    (au (bW (PW.pt (kh (bY uu (pv 3) j_ (b_ _)) (m_ (eQ (aI C hr (ay (pv 6) (ai (aQ cO (pv 3) aL (λx x=>rfl))))) (λx=>rfl)))))
     (au (bp 3 tE (mB (ay (pv 4) (ai (pv 6)))))) bZ))) bZ)))
  (au (aF (pv 3))))|?_]
 have ln:=bu hp;refine%[af.of o|?_];refine qm (J:=uJ K ea) (n:=J.length) (λi σ S=>X5 λ(E:Hp) (I:V) (U W X:Option V)=>A3 (σ=[some (.ref ea),some u,some v,some I,U,W,X]) (ag F H E S) (tD K E I (kH xs as (ents.map eI) i)))
  %[F,.bB,none,none,none,rfl,ag.refl hF|rfl] ?_ ?_ ?_
 .rintro σ S ⟨E,I,U,W,X,rfl,g,M⟩;rw[ln]at M;exact%[%[J,af.of (g.same _ _ o)|bx _]|k _ _ _ g M]
 .rintro i σ S hi ⟨E,I,U,W,X,rfl,g,M⟩;exact%[J,J[i],af.of (g.same _ _ o)|cA hi]
 .rintro i v0 σ S H2 hi ⟨E,I,U,W,X,rfl,g,M⟩ ⟨T,dv,rfl,nT,rfl,hT⟩;obtain⟨ds,a7,⟨dl,av,rfl,az,a0,a8⟩⟩:=dh hp (hT J (af.of (g.same _ _ o)));have Y:=g.trans (ag.bD (o:=.tup [.int (i:Nat),.ref dl]) g.sub nT);have ld:=bu a0;have a9:(ents.map eI).getD i 0=ds.length:=by simp[*]
  refine%[bN.of ak,rfl,rfl|?_];refine%[dl,av,rfl,.inl (af.of (Y.same _ _ (hF _ _ az)))|⟨⟨?_⟩⟩];by_cases h1:1<ds.length
  .rw[bT (by rw[ld];exact xb h1)];refine a_ %[xs,as,i,u,v,E,rfl,Y.sub,hu.up g.fs,dR.up hv g.fs,aa,ao,ar,λx mx=>by simp_all only,L|λF3 H3 Z d R q3 fy wy=>?_];have hw:qM (f_ xs as i) ((ents.map eI).getD i 0)=some d:=by
    refine ZI wy λc z hz=>?_;unfold lQ at hz;cases t:sel (f_ xs as i) c with
    |nil=>rw[t]at hz;cases hz
    |cons e j=>
     have m:e∈sel (f_ xs as i) c:=by cbv
     obtain⟨p,a3,x⟩:=bF.mp m;obtain⟨a4,bb⟩:=Ae.mp a3;obtain⟨q,hq,rfl⟩:=bF.mp a4;have:=(hx q.1 (Ah hq).1).2 i
     cbv
   have n:=Y.trans R;have t:kH xs as (ents.map eI) (i+1)=tw xs as (ents.map eI) (kH xs as (ents.map eI) i) i:=by grind-order [Oa]
   have s:=M.mono R.fs;unfold tw at t;rw[hw]at t;refine%[rfl|⟨?_⟩];cases N:kH xs as (ents.map eI) i with
   |none=>
    rw[N]at s t;rw[show I=V.bB from s,bT rfl];refine a_ (a_ %[fV|λp4 G=>?_]);have O:=ag.put (o:=.tup [.int (i:Nat),Z]) n.sub G;refine%[_,_,_,_,_,rfl,n.trans O|?_];rw[t];exact%[p4,Z,rfl,ak,q3.mono O.fs|fy]
   |some b=>
    rw[N]at s t;obtain⟨ba,yv,rfl,a5,a6,fb⟩:=id s;rw[bK (λq=>by cases q)];refine bt %[bN.of (R.sub _ _ a5),bg (j:=1) rfl,d,b.2,_,_,rfl,q3.mono R.sub,a6.mono R.sub,fy,fb,_,rfl|?_];by_cases lt:d<b.2
    .rw[bT lt];refine a_ %[fV|λp4 G=>?_];have O:=ag.put (o:=.tup [.int (i:Nat),Z]) n.sub G;refine%[_,_,_,_,_,rfl,n.trans O|?_];rw[t];show tD K _ _ (if d<b.2 then some (i,d)else some b);rw[aS lt];exact%[p4,Z,rfl,ak,q3.mono O.fs|fy]
    .rw[bK lt];refine bt %[_,_,_,_,_,rfl,n|?_];simp[*]
  .rw[bK (by rw[ld];lia)];refine bt %[E,I,_,_,_,rfl,Y|?_]
   grind [Oa]
end
end
def ZK(l:List (List Nat))(x:List Nat):(d6 l x).isSome=decide (x∈l):=by rcases nH l x with⟨j,e,q⟩|⟨e,q⟩<;>rw[e,q]<;>rfl
def Ob(s:cH)(k:List Nat)(r:List (List Nat)):Nat⊕cH->Prop
 |.inl e=>mI s.lots (s.places.map λp=>p.1) (k::r) s.entries.length=(e:Int)/\e≠0
 |.inr t=>mI s.lots (s.places.map λp=>p.1) (k::r) s.entries.length=0/\∃n,r=[n]/\t=if k=wd "lot" then{s with lots:=s.lots++[n]}else{s with places:=s.places++[(n,k==wd "silo")]}
def ZL(s:cH)(k:List Nat)(r:List (List Nat))(h:k=wd "lot"\/k=wd "bag"\/k=wd "silo")(dH:s.lots.length<=6/\s.places.length<=8):Ob s k r (ju s (k::r)):=by?
 unfold ju;dsimp only;rw[aS h]
 match r with
 |[]=>exact%[rfl|by decide]
 |_::_::_=>exact%[rfl|by decide]
 |[n]=>
  dsimp only;have i:∀m,mI s.lots (s.places.map λp=>p.1) [k,n] m=if cy n=false then 1 else if(decide _||decide (n∈s.places.map λp=>p.1))=true then 2 else if m≠0 then 5 else if k=wd "lot" then(if s.lots.length=6 then 4 else 0)else if(s.places.map λp=>p.1).length=8 then 4 else 0:=λ_=>rfl
  by_cases c:cy n=false
  .rw[aS c];exact%[by rw[i,aS c];rfl|by decide]
  rw[aE c];have d:((t5 s n).isSome=true\/(jt s n).isSome=true)↔(decide (n∈s.lots)||decide (n∈s.places.map λp=>p.1))=true:=by unfold t5 jt;simp[ZK]
  by_cases e:(decide (n∈s.lots)||decide (n∈s.places.map λp=>p.1))=true
  .rw[aS (d.mpr e)];exact%[by cbv|by decide]
  rw[aE (λq=>e (d.mp q))];have f:s.entries.isEmpty=false↔s.entries.length≠0:=by cases s.entries<;>simp
  by_cases g:s.entries.length≠0
  .rw[aS (f.mpr g)];exact%[by cbv|by decide]
  rw[aE (λq=>g (f.mp q))];by_cases b:k=wd "lot"
  .rw[aS b];by_cases a:Vbcraf.LOTS<=s.lots.length
   .rw[aS a];have:=by have:(6:Nat)<=s.lots.length:=a;omega
    exact%[by(cbv;lia)|by decide]
   .rw[aE a];have:=λq=>a (by show(6:Nat)<=_;omega)
    exact%[by grind,n,rfl|by rw[aS b]]
  .rw[aE b];by_cases a:Vbcraf.PLACES<=s.places.length
   .rw[aS a];have:=by have:(8:Nat)<=s.places.length:=a;omega
    exact%[by(cbv;lia)|by decide]
   .rw[aE a];have:=λq=>a (by show(8:Nat)<=_;omega)
    exact%[by grind,n,rfl|by rw[aE b]]
def Oc(s:cH)(ws:List (List Nat)):Nat⊕cH->Prop:=λx=>
 (gX s.lots (s.places.map λp=>p.1) (fA (wd "or") ws) s.entries.length≠0->∃e:Nat,gX s.lots (s.places.map λp=>p.1) (fA (wd "or") ws) s.entries.length=(e:Int)/\x=.inl e)/\
 (gX s.lots (s.places.map λp=>p.1) (fA (wd "or") ws) s.entries.length=0->∃l:List dM,(fA (wd "or") ws).map (dW s)=l.map .inr/\l.map (fQ s)=fA (wd "or") ws/\l.length<=4/\
  x=let t:cH:={s with entries:=s.entries++[⟨l⟩]}
   if(fK t).isEmpty=true then .inl 6 else if 64<(fK t).length then .inl 7 else .inr t)
def ZM(s:cH)(k:List Nat)(r:List (List Nat))(j:¬(k=wd "lot"\/k=wd "bag"\/k=wd "silo"))(dH:s.entries.length<=40):Oc s (k::r) (ju s (k::r)):=by?
 have d:=M0 s (fA (wd "or") (k::r));unfold ju;dsimp only;rw[aE j];cases hw:t6 s _ with
 |inl e=>
  rw[hw]at d;obtain⟨i,f⟩:=d;have a:gX s.lots (s.places.map λp=>p.1) (fA (wd "or") (k::r)) s.entries.length=(e:Int):=by simp_all [gX]
  exact%[λo=>%[e,a|rfl]|λq=>aT (a.symm.trans q) (by simp[*])]
 |inr l=>
  rw[hw]at d;obtain⟨i,f,g⟩:=d;dsimp only;have c:l.length=(fA (wd "or") (k::r)).length:=by exact len_of_map_eq g
  by_cases h:Ay l=false
  .rw[aS h];have a:gX s.lots (s.places.map λp=>p.1) (fA (wd "or") (k::r)) s.entries.length=2:=by grind [gX,M7]
   exact%[λo=>%[2,a|rfl]|λq=>aT (a.symm.trans q) (by simp)]
  .rw[aE h];have nd:=λq=>h ((M7 f g).mpr q)
   by_cases b:Vbcraf.WAYS<l.length\/Vbcraf.ENTRIES<=s.entries.length
   .rw[aS b];have a:gX s.lots (s.places.map λp=>p.1) (fA (wd "or") (k::r)) s.entries.length=4:=by
     unfold gX;rw[aE (by rw[i];simp),aE nd,aS (by
      rcases b with q|q
      .left;have:(4)<l.length:=q;exact Nat.lt_of_lt_of_eq q c
      .right;have:(40)<=s.entries.length:=q;exact kR (Nat.le_antisymm q dH))]
    exact%[λo=>%[4,a|rfl]|λq=>aT (a.symm.trans q) (by simp)]
   .rw[aE b];have m:¬(4)<l.length:=λq=>b (.inl q)
    have n:¬(40)<=s.entries.length:=λq=>b (.inr q);have a:gX s.lots (s.places.map λp=>p.1) (fA (wd "or") (k::r)) s.entries.length=0:=by grind [gX]
    exact%[λq=>aT a q|λo=>%[l,f,g,by exact og m|rfl]]
abbrev ph(w:List Nat):List Nat:=w.map fN
theorem ZN:(63:Nat)∉chars:=by decide+kernel
section
variable{j n:Nat}{κ:List Nat}
def Od(h:j∈chars):fN n=j↔n=j:=by grind [fN,ZN]
theorem jf:∀{w y:List Nat},(∀c∈y,c∈chars)->(ph w=y↔w=y)
 |[],[],_=>by simp
 |[],_::_,_=>by simp
 |_::_,[],_=>by simp
 |a::w,b::y,h=>by show(fN a::ph w=b::y)↔_;rw[aeR,aeR,Od (h b bQ),jf λc d=>h c (bG _ d)]
theorem FQ(h:j7 n=true):n∈chars:=by rw[<-CY]at h;exact mS _ (mS _ (of_decide_eq_true h))
theorem zB(h:gP n=true):n∈chars:=by rw[<-CZ]at h;exact mS _ (nW _ (of_decide_eq_true h))
def Oe(c:Nat):j7 (fN c)=j7 c:=by
 unfold fN;split
 .rfl
 .have:j7 c=false:=by grind [FQ]
  rw[this];decide
def Of(c:Nat):gP (fN c)=gP c:=by
 unfold fN;split
 .rfl
 .have:gP c=false:=by grind [zB]
  rw[this];decide
theorem FR(h:∀c∈κ,c∈chars):ph κ=κ:=(jf h).mpr rfl
def kI{s:String}(h:((cu s).all λc=>decide (c∈chars))=true):∀c∈cu s,c∈chars:=λc a=>of_decide_eq_true (nY.mp h c a)
def qN(w:List Nat):cy (ph w)=cy w:=by?
 cases w with
 |nil=>rfl
 |cons c r=>
  show cy (fN c::ph r)=_;unfold cy;dsimp only;have b:((fN c::ph r)!=cu "or")=((c::r)!=cu "or"):=by
   have:=jf (w:=c::r) (y:=cu "or") (kI (by decide+kernel));by_cases q:c::r=cu "or"
   .have a:fN c::ph r=cu "or":=this.mpr q;rw[q,a]
   .have a:¬(fN c::ph r=cu "or"):=λz=>q (this.mp z);rw[bne_iff_ne.mpr q,bne_iff_ne.mpr a]
  have d:((ph r).all λx=>j7 x||gP x)=r.all λx=>j7 x||gP x:=by rw[nX];congr 1;funext x;show(j7 (fN x)||gP (fN x))=_;rw[Oe,Of]
  rw[b,d,Oe];simp
theorem vR(h:cy κ=true):ph κ=κ:=by
 refine FR λc b=>?_;cases κ with
 |nil=>cases b
 |cons a r=>
  unfold cy at h
  grind [FQ,zB]
def zC(w:List Nat):dP (ph w)=dP w:=by
 by_cases h:w.all gP=true
 .grind [FR,zB]
 .have a:w.all gP=false:=by simpa using h
  have b:(ph w).all gP=false:=by simp_all [nX,Of]
  unfold dP Iu;simp[*]
theorem zD(a:n∈chars):∀t:List Nat,eM n (ph t)=(eM n t).map ph
 |[]=>rfl
 |x::r=>by?
  have b:=zD a r;rw[show ph (x::r)=fN x::ph r from rfl];unfold eM;rw[b];cases eM n r with
  |nil=>rfl
  |cons l m=>
   dsimp only[jL];by_cases e:x=n
   .rw[aS ((Od a).mpr e),aS e];rfl
   .rw[aE λq=>e ((Od a).mp q),aE e];rfl
end
def ZO:∀c∈cu "come",c∈chars:=kI (by decide+kernel)
def ZP:∀c∈cu "move",c∈chars:=kI (by decide+kernel)
def ZQ:∀c∈cu "weigh",c∈chars:=kI (by decide+kernel)
def ZR:∀c∈cu "sell",c∈chars:=kI (by decide+kernel)
def ZS:∀c∈cu "waste",c∈chars:=kI (by decide+kernel)
def Og:∀c∈cu "to",c∈chars:=kI (by decide+kernel)
def Oh:∀c∈cu "from",c∈chars:=kI (by decide+kernel)
def ZT:∀c∈cu "or",c∈chars:=kI (by decide+kernel)
def ZU:∀c∈cu "lot",c∈chars:=kI (by decide+kernel)
def ZV:∀c∈cu "bag",c∈chars:=kI (by decide+kernel)
def ZW:∀c∈cu "silo",c∈chars:=kI (by decide+kernel)
def ZX(s:cH)(ws:List (List Nat)):dW s (ws.map ph)=dW s ws:=by?
 match ws with
 |[]=>rfl
 |[_]=>rfl
 |[_,_]=>rfl
 |[k,p,w]=>
  unfold dW
  simp_all [zC,qN,jf,ZQ,vR]
 |[k,w,fr,p]=>
  unfold dW
  simp_all [zC,qN,jf,ZR,ZS,Oh,vR]
 |[k,l,w,to,p]=>
  show dW s [ph k,ph l,ph w,ph to,ph p]=_;unfold dW;dsimp only;rw[zC,qN,qN];simp only[jf ZO,jf Og]
  grind [vR]
 |[k,w,fr,p,to,q]=>
  show dW s [ph k,ph w,ph fr,ph p,ph to,ph q]=_;unfold dW;dsimp only;rw[zC,qN,qN];simp only[jf ZP,jf Og,jf Oh]
  grind [vR]
 |_::_::_::_::_::_::_::_=>rfl
theorem Oi(s:cH):∀told:List (List (List Nat)),t6 s (told.map λws=>ws.map ph)=t6 s told
 |[]=>rfl
 |ws::r=>by rw[cx];unfold t6;rw[ZX,Oi s r]
theorem Oj:∀ws:List (List Nat),fA (cu "or") (ws.map ph)=(fA (cu "or") ws).map λl=>l.map ph
 |[]=>rfl
 |x::r=>by?
  have a:=Oj r;rw[cx];unfold fA;rw[a];cases fA _ r with
  |nil=>rfl
  |cons l m=>
   show(if ph x=cu "or" then[]::(l.map ph::m.map λl=>l.map ph)else(ph x::l.map ph)::m.map λl=>l.map ph)=jL (λl=>l.map ph) (if x=cu "or" then[]::(l::m)else(x::l)::m);by_cases e:x=cu "or"
   all_goals simp_all [jf,ZT]
def Ol(s:cH)(ws:List (List Nat)):ju s (ws.map ph)=ju s ws:=by?
 cases ws with
 |nil=>rfl
 |cons k r=>
  have b:fA _ (ph k::r.map ph)=(fA _ (k::r)).map λl=>l.map ph:=Oj (k::r);rw[cx];unfold ju;dsimp only;rw[b,Oi];simp only[jf ZU,jf ZV,jf ZW];by_cases c:k=cu "lot"\/k=cu "bag"\/k=cu "silo"
  .have a:ph k=k:=by
    rcases c with e|e|e<;>rw[e]
    all_goals rfl
   rw[a]
   match r with
   |[]=>rfl
   |[n]=>
    simp_all [qN,vR]
   |_::_::_=>rfl
  simp[*]
theorem Om:∀(n:Nat) (s:cH) (a:List (List (List Nat))),oo n s (a.map λws=>ws.map ph)=oo n s a
 |_,_,[]=>rfl
 |n,s,ws::l=>by
  rw[cx];unfold oo;rw[Ol];cases ju s ws with
  |inl k=>rfl
  |inr t=>exact Om _ t l
def Oo:(32:Nat)∈chars:=by decide+kernel
def ZY:(10:Nat)∈chars:=by decide+kernel
def ZZ(t:List Nat):oq (ph t)=oq t:=by?
 unfold oq;rw[zD ZY];have a:(((eM 10 t).map ph).getLast?≠some [])↔((eM 10 t).getLast?≠some []):=by cbv
 have b:(((eM 10 t).map ph).dropLast.map (eM 32))=((eM 10 t).dropLast.map (eM 32)).map λws=>ws.map ph:=by rw[<-aeS,cC,cC];congr 1;funext l;exact zD Oo l
 grind [Om]
theorem FT:∀ws:List (List Nat),pq 32 ws=TL.dQ [32] ws
 |[]=>rfl
 |[w]=>rfl
 |w::v::l=>by show w++(32::pq 32 _)=w++([32]++TL.dQ [32] _);rw[FT _];rfl
theorem Oq:∀(a b:List (List Nat)),a≠[]->b≠[]->pq 32 (a++b)=pq 32 a++(32::pq 32 b)
 |[],_,h,_=>aT rfl h
 |[x],[],_,h=>aT rfl h
 |[x],y::b,_,_=>rfl
 |x::y::a,b,_,c=>by show x++(32::pq 32 (y::a++b))=(x++(32::pq 32 _))++_;rw[Oq _ b (by simp) c];simp
theorem Ot:∀(a:List (List (List Nat))),a≠[]->(∀ws∈a,ws≠[])->pq 32 (IP (cu "or") a)=TL.dQ (32::(cu "or"++[32])) (a.map (TL.dQ [32]))
 |[],h,_=>aT rfl h
 |[l],_,_=>by exact FT l
 |l::m::r,_,h=>by
  have b:=Ot _ (by simp) λws f=>h ws (bG _ f);show pq 32 (l++(cu "or"::IP _ _))=TL.dQ [32] l++((32::(cu "or"++[32]))++TL.dQ _ ((m::r).map _));have c:IP (cu "or") (m::r)≠[]:=by
   have e:=h m (bG _ bQ);cases r with
   |nil=>exact e
   |cons g i=>
    show m++_≠[];simp
  rw[Oq _ _ (h l bQ) (by simp),FT l];rw[<-b];cases d:IP _ _ with
  |nil=>exact aT d c
  |cons x y=>
   rfl
def Z0(s:cH)(d:dM):fQ s d≠[]:=by cases d<;>simp[fQ]
def Z4(s:cH)(l:List dM)(h:l≠[]):Q8 s ⟨l⟩=TL.dQ (32::(cu "or"++[32])) ((l.map (fQ s)).map (TL.dQ [32]))++[10]:=by
 unfold Q8 Q9
 simp_all [Ot,Z0]
theorem Ou:∀l:List (List Nat),TL.dQ [] l=l.flatten
 |[]=>rfl
 |[p]=>by simp[TL.dQ]
 |p::q::r=>by show p++([]++TL.dQ [] _)=_;rw[Ou _];simp
def FU(s:cH):List (List Nat):=(s.lots.map λl=>wd "lot"++(32::(l++[10])))++((s.places.map λp=>wd (if p.2=true then "silo" else "bag")++(32::(p.1++[10])))++
 s.entries.map λe=>TL.dQ (32::(wd "or"++[32])) ((e.ways.map (fQ s)).map (TL.dQ [32]))++[10])
def Z5(s:cH)(h:∀e∈s.entries,e.ways≠[]):IQ s=(FU s).flatten:=by?
 have b:(s.lots.flatMap λl=>Q9 [cu "lot",l])=(s.lots.map λl=>wd "lot"++(32::(l++[10]))).flatten:=by rfl
 have c:(s.places.flatMap λp=>Q9 [cu (if p.2=true then "silo" else "bag"),p.1])=(s.places.map λp=>wd (if p.2=true then "silo" else "bag")++(32::(p.1++[10]))).flatten:=by refine congrArg List.flatten (jq λp f=>?_);show(wd _++(32::p.1))++[10]=_;simp
 have d:s.entries.flatMap (Q8 s)=(s.entries.map λe=>TL.dQ (32::(wd "or"++[32])) ((e.ways.map (fQ s)).map (TL.dQ [32]))++[10]).flatten:=by exact congrArg List.flatten (jq λe a=>Z4 s e.ways (h e a))
 unfold IQ FU;simp[*]
theorem zE(c:Nat):∀l:List Nat,∃h t,eM c l=h::t
 |[]=>%[[],[]|rfl]
 |x::r=>by
  obtain⟨h,t,e⟩:=zE c r;unfold eM
  grind
theorem FV(c:Nat):∀(l a h:List Nat) (t:List (List Nat)),eM c l=h::t->TL.fC [c] 0 a l=(a++h)::t
 |[],a,h,t,e=>by? cases e;rw[TL.KY,g9]
 |x::r,a,h,t,e=>by?
  obtain⟨d,f,b⟩:=zE c r;unfold eM at e;rw[b]at e;dsimp only at e;by_cases q:x=c
  .rw[aS q]at e;cases e;rw[TL.KZ (by rw[q];simp[TL.pre])];show a::TL.fC [c] 0 [] r=_;rw[FV c r [] d f b];simp
  .rw[aE q]at e;obtain⟨g,i⟩:=II e;rw[TL.K1 (by simp[TL.pre,q]),FV c r _ d f b,<-g,i];simp
def Ov(c:Nat)(l:List Nat):TL.fC [c] 0 [] l=eM c l:=by obtain⟨h,t,e⟩:=zE c l;rw[FV c l [] h t e,e];rfl
def Ow:tl (" ":Str)=[32]:=by decide+kernel
theorem oY:tl ("\n":Str)=[10]:=by decide+kernel
def FW(x:Str):(mW x (" ":Str)).map tl=eM 32 (tl x):=by rw[TL.K7 x " " (by rw[Ow];simp) (TL.K8 (by decide+kernel)),Ow,Ov]
def Z6(x:Str):(mW x ("\n":Str)).map tl=eM 10 (tl x):=by rw[TL.K7 x "\n" (by rw[oY];simp) (TL.K8 (by decide+kernel)),oY,Ov]
section
variable{A:Around}{E Q:Value->aj->Prop}{P:aC}{S:Int}{X:Cx}{b e:Expr}{j n:Nat}{p:Pos}{s:aj}{w:World}{x:Str}{κ:List Nat}{ν:List Str}{ξ:List Expr}
section
open PySem.AutoSeq1 (wpAny_loadPart')
def Z_{Η:Bool}{Q:Bool->aj->Prop}(h:∀Η,Q Η s):wpAny (model P w) A (pure Η) Q E s:=bh (h Η)
def Z'(l:ae)(items:Array Value)(n:Nat)(dct:Option ae)(sl:Array (Option Value))(t:Tok):
  Meets (Builtin.«enumerate.__new__» ⟨[.type "enumerate",.ref l],[("start",.int 1 t)]⟩) (λa R s=>s.heap.get? l=some {cls:=.type "list",dict:=dct,data:=.seq items n,slots:=sl}/\
   R (.ok (.ret (.ref (s.heap.push {cls:=.type "list_iterator",data:=.fields #[.ref l,.int 0 0]}).objs.size)))
    {s with heap:=(s.heap.push {cls:=.type "list_iterator",data:=.fields #[.ref l,.int 0 0]}).push {cls:=.type "enumerate",data:=.fields #[.none,.bool false,.ref ↥s,rawInt 1,.none,.none]}}):=
 .of_wp λa a a a s ⟨hl,h⟩=>by?
  obtain⟨hp,a⟩:=s;have sb:=sub_enumerate;have L:hp.IsList l items:=⟨_,hl,rfl,n,rfl⟩
  wp_walk using wpAny_loadPart' hl
  refine wpAny_stack_any λa=>Z_ λb=>?_;cases b
  all_goals(wp_walk using wpAny_loadPart' hl,xk L;exact⟨_,rfl,h⟩)
def aaa{η b v:Value}(d:typeLookup (.type "enumerate") "__init__"=pure (some (.builtin "object.__init__")))(f:Bind.madeBy (.type "enumerate")=pure (some "enumerate.__new__")):
  Meets (Builtin.«object.__init__» %[[η,b]|[(x,v)]]) (λh R s=>s.TypeIs η "enumerate"/\R (.ok (.ret .none)) s):=by?
 refine Meets.of_wp λP w A R s %[e|a]=>?_;have c:(some "enumerate.__new__" !=some "object.__new__")=true:=by decide
 wp_walk
 exact%[_,rfl|a]
def aab{l:ae}{Ρ:Array Value}{t:Tok}(D:s.heap.IsList l Ρ)
  (h:∀f,IsEnum f (↥s+1) ↥s 1 .none->f.IsListIter ↥s l 0->f.objs.size=↥s+2->
   (∀b o,s.heap.get? b=some o->f.get? b=some o)->Q (.ref (↥s+1)) {s with heap:=f}):
  wpAny (model P w) A (call (.type "enumerate") [.ref l] [("start",.int 1 t)]) Q E s:=by?
 obtain⟨⟨F,g,G,sl⟩,H,i,n,hd⟩:=D;replace i:F=.type "list":=i;replace hd:G=.seq Ρ n:=hd;subst i hd;have a:=PySem.F.called_enumerate;obtain⟨c,tl,u⟩:=a.mro;have j:=a.made;have v:=a.sub;have I:=Z7 (.ref l) (.int 1 t);have k:=Z8 (.ref l) (.int 1 t);refine wpAny_call (codeAny_of_tree ?_);show wpAny _ _ (callAny (.type "enumerate") _) _ _ _;refine bh %[Code.quiet_builtin _ (by decide+kernel)|rG aeE ?_];rw[Around.under_plain (weight_type_call_type "enumerate" [.ref l] [("start",.int 1 t)]) (units_type_call_type "enumerate" [.ref l] [("start",.int 1 t)])];have O:=a.notType;have R:=a.canCreate
 wp_walk
 have m:(s.heap.push {cls:=.type "list_iterator",data:=.fields #[.ref l,.int 0 0]}).objs.size=↥s+1:=eG ..;refine rE (codeAny_call_builtin (R:=wants (λobj y=>obj=.ref (↥s+1)/\y={s with heap:=(s.heap.push {cls:=.type "list_iterator",data:=.fields #[.ref l,.int 0 0]}).push {cls:=.type "enumerate",data:=.fields #[.none,.bool false,.ref ↥s,rawInt 1,.none,.none]}}) E) a.plain PySem.F.entry_enumerate_new (wpAny_of_eq k (Z' l Ρ n g sl t P w A.in1 _ s %[H|?_]))) λr y p=>?_
 .show _/\_;rw[m];exact%[rfl|rfl]
 cases r with
 |error e=>exact p
 |ok J=>
  cases J with
  |ret obj=>
   obtain⟨rfl,rfl⟩:=p;have C:IsEnum ((s.heap.push {cls:=.type "list_iterator",data:=.fields #[.ref l,.int 0 0]}).push {cls:=.type "enumerate",data:=.fields #[.none,.bool false,.ref ↥s,rawInt 1,.none,.none]}) (↥s+1) ↥s 1 .none:=by have:=cV (s.heap.push {cls:=.type "list_iterator",data:=.fields #[.ref l,.int 0 0]}) (o:={cls:=.type "enumerate",data:=.fields #[.none,.bool false,.ref ↥s,rawInt 1,.none,.none]}) rfl;rw[m]at this;exact this
   have z:Q2 {s with heap:=(s.heap.push {cls:=.type "list_iterator",data:=.fields #[.ref l,.int 0 0]}).push {cls:=.type "enumerate",data:=.fields #[.none,.bool false,.ref ↥s,rawInt 1,.none,.none]}} (.ref (↥s+1)) "enumerate":=%[_,C|rfl];have K:=a.init.lookup;have L:=a.init.bind (.ref (↥s+1))
   wp_walk
   refine rE (codeAny_call_builtin (R:=wants (λr B=>r=.none/\Q (.ref (↥s+1)) B) E) a.init.plain PySem.F.entry_object_init (a.init.check _ _ _ _ _ _ _ _ z (Z9 _ _ _) (aaa a.init.lookup a.made P w A.in1 _ _ %[z,rfl|?_]))) λM B d=>?_
   .exact h _ C %[_,bL _ (cV _ rfl),rfl|rfl] (by rw[eG,m]) λb o x=>bL _ (bL _ x)
   .cases M with
    |error e=>exact d
    |ok q=>
     cases q with
     |ret r=>
      obtain⟨rfl,N⟩:=d
      wp_walk;exact N
     |_=>exact d.elim
  |_=>exact p.elim
end
def aac{Ι:Env}{M:Model}{T:String}{b:List Keyword}
  (h:wpAny M A (spliced (backTo p (bP (e::ξ) Ι))) (λg c=>wpAny M A (evalAll ((kY p (kZ b Ι)).map (·.2)))
   (λws f=>wpAny M A (call (.type T) g (((kY p (kZ b Ι)).filterMap (·.1)).zip ws)) Q E f) E c) E s)
  (m:bP (e::ξ) Ι=(false,eval e Ι)::bP ξ Ι)(hp:(backTo p (bP ξ Ι)).any (·.1)=false)
  (i:(kY p (kZ b Ι)).all (·.1.isSome)=true)(j:(kY p (kZ b Ι)).any (·.1.isNone)=false):
  wpAny M A (callWith p (.type T) [] (backTo p (bP (e::ξ) Ι)) (kY p (kZ b Ι))) Q E s:=by?
 rw[m]at h⊢;have d:(backTo p ((false,eval e Ι)::bP ξ Ι)).any (·.1)=false:=by show(false||(backTo p _).any _)=false;rw[hp];rfl
 refine aA (kX (jM (evalArgs_kwB (Q:=λa c=>wpAny M A (call _ a.pos a.kw) Q E c) i h) (λa c k=>aA (wpAny_standAt ?_)) λn n x=>x));simp only[d,j];exact aA (bh (aA (jM k (λr f l=>aA (kX (wpAny_point (bh l)))) λn n x=>x)))
def aad{a:ae}{Μ:List ae}{b:Nat->Value->Prop}{St:Nat->ax->Prop}(D:Draws P w A a Μ n b St):
  Draws P w A a Μ (n+1) (λj v=>b (j-1) v) (λj h=>1<=j/\St (j-1) h) where
 live:=λi h st=>D.live _ h st.2
 frame:=λi h c st k=>%[st.1|D.frame _ h c st.2 k]
 item:=λi s Q E e st f=>by
  obtain⟨d,st⟩:=st;refine D.item _ s Q E (by exact Nat.sub_lt_right_of_lt_add d e) st λx c tk g l m=>f x c tk g %[by exact Ar d|?_] m
  cbv
 done:=λs Q E st o=>D.done s Q E st.2 o
def FX(K:ah)(a:ae):It:=
 ⟨λi H=>X2 λ(b:List V) (x:V)=>A2 (af K H a b) (b[i]?=some x),λi H v c=>X2 λT x=>A4 (v=.ref T) (H T=aq) (c=upd H T (.tup [.int ((i+1:Nat):Int),x])) (∀b,af K H a b->b[i]?=some x),λi H=>∃b:List V,af K H a b/\b.length<=i⟩
def aae{K:ah}(a e d:ae):
  Turn P w K (.Tuple ξ n p) (FX K a) [e,d] e (λi h=>(∃g,IsEnum h e d ((i+1:Nat):Int) g)/\h.IsListIter d a i/\e≠d/\a≠e/\a≠d) where
 mem:=by simp
 obj:=λi h st b v=>by
  obtain⟨⟨g,r⟩,⟨o,ho,J,hd⟩,_⟩:=st
  grind
 keep:=λi h L st k=>let%[%[g|r],hi|f]:=st;%[%[g|k e (by simp) _ r],hi.at λo q=>k d (by simp) o q|f]
 item:=by?
  intro X R hw S J i B s σ H E I O st T;subst R hw S;obtain⟨⟨g,r⟩,t,f,C,m⟩:=st;obtain⟨xs,x,M,U⟩:=T;obtain⟨l,V,c,hz⟩:=I.list M;obtain⟨u,hu,ru⟩:=V.get U;have W:e<↥s:=bU r;have ar:d<↥s:=by obtain⟨_,q,_⟩:=t;exact bU q
  have Y:i<l.toArray.size:=by exact(fP.mp (by assumption)).1
  have N:X.A.in1.handled=none:=by have:=I.ok.hd J;simpa using this
  refine wpAny_pyNext_enum_itemD (i:=i+1) (aad (wV N d a m l.toArray)) r %[by exact Nat.le_add_left 1 i,t|c.isList] (by exact aes Y 1) f (by grind) λy L tk py ho Z hT av hk=>?_
  obtain⟨_,F,_⟩:=Z;obtain rfl:u=y:=by cbv
  refine%[_,rfl|wpAny_letOwnedTupleGo_enum ho λG az sb=>?_];have aa:=(sb.2 _ (j5 W)).trans hT;have new:eB X.prog X.w (upd H ↥s (.tup [.int ((i+1:Nat):Int),x])) G ↥s (.tup [.int ((i+1:Nat):Int),x]):=
   %[by show 2<=bf;decide,[.int ((i+1:Nat):Int) tk,u],.cons %[_|rfl] (.cons ru .nil)|%[_,aa,rfl,_|rfl]]
  have I1:Inv X B σ _ {s with heap:=G,toks:=tk+1}:=
   I.uH (ch:=[e,d]) (λb ob v q=>(sb.2 b (λz=>v (by simp[z]))).trans (hk b ob (λz=>v (by simp[z])) (λz=>v (by simp[z])) q)) O (bx _) new
  refine%[.ref ↥s,_,I1,rfl,%[_,x,rfl,I.aU.fresh (bx _),rfl|λys hy=>by rw[I.pP hy M];exact U],%[%[u|?_],(F).at λo q=>(sb.2 d (kP f)).trans q,f,C|m]|λb v=>?_]
  .trivial
  .have ao:b<↥s:=by (cbv;lia)
   rw[aB (dn ao)];exact(O b v).1
 done:=by
  intro X R hw S J i B s σ H E I O st T;subst R hw S;obtain⟨⟨g,r⟩,t,f,C,m⟩:=st;obtain⟨xs,M,U⟩:=T;obtain⟨l,V,c,hz⟩:=I.list M;obtain⟨f0,f1,f2,f3,f4,f5⟩:=O d (by simp);have hl:=V.length;have N:X.A.in1.handled=none:=by have:=I.ok.hd J;simpa using this
  have DD:Draws X.prog X.w X.A.in1 d [d,a] i (λ_ _=>False) (λj h=>j=i/\h.IsListIter d a i/\h.IsList a l.toArray):=by
   have D:=wV (prog:=X.prog) (w:=X.w) N d a m l.toArray;refine%[λj h st=>D.live _ h st.2,λj h L st k=>%[st.1|D.frame _ h L st.2 k],λj s Q E hj st hQ=>?_|λs Q E st hE=>wpAny_nextOf_list_end N st.2.1 st.2.2 (by simp;cbv) hE];have:=st.1
   cbv
  exact wpAny_pyNext_enum_endD DD r %[rfl,t|c.isList] λL eb=>%[rfl|I.turned (t':=s.toks) (λb o v q=>eb b o v q) f0 f1 f3 f4 f5]
 self:=λA i s Q E st h=>let%[%[_|r]|_]:=st;wpAny_pyIter_enum r h
inductive aaf(R:It->Hp->Prop)(K:ah)(c:List V)(b:Hp):Prop
 |mk a xs(d:c=[.ref a])(d:af K b a xs)(d:R (FX K a) b)
def aag(K:ah)(a:TA):TI:=λσ H R=>a σ H λb c=>aaf R K b c
def aah{t:TA}{M Β g i:Pos}(y:Gl X "enumerate")(Q:X.mg "enumerate"=aq)(z:PA X [e] t)
  (A:bP [e] X.env=[(false,eval e X.env)]:=by rfl):
  PI X (.Tuple ξ j Β) (.Call (.Name "enumerate" p) [e] [%[some "start",.Constant (.int 1) n g|i]] M) (aag X.K t):=by?
 intro d s σ H R I h;refine xm (m9 I y Q boot_enumerate ?_);refine aac (aZ (z M d s σ H _ I h) λZ S %[T,w,B,C|D]=>?_) A rfl rfl rfl;obtain⟨a,xs,ex,E,q⟩:=D;subst ex;obtain⟨u,rfl,F⟩:=vals1 C;cases F;refine aZ (SU aL SS M d S σ w (λws m=>ws=[.int 1]/\m=w) B %[rfl|rfl]) λws f %[zs,m,l,G,J|K]=>?_
 subst J K;obtain⟨v,rfl,c,rfl⟩:=vals1 G;obtain⟨L,U,r,V⟩:=l.list E;have la:=r.lt;refine aab r.isList λW x o N O=>wpAny_pyIter_enum x ?_
 have P:=l.kept (t':=f.toks) O;refine%[↥f+1,[↥f+1,↥f],_,_,m,rfl,P,aae a _ ↥f,%[%[.none|x],o,adp _,dn (o_ la)|dn la],λb Y=>?_|q];have k:↥f<=b:=by (cbv;lia)
 exact l.ni k (l.aU.fresh k)
inductive aai(Q:VK)(v:V)(a:Hp):Prop
 |mk(x:Str)(b:v=V.str x)(b:x.length<=bf)(b:Q (V.str x) a)
def tFv(a:TE):TE:=λσ H Q=>a σ H λv b=>aai Q v b
def tJ:List TE->Str->TE
 |[],out=>λc H Q=>out.length<=bf/\Q (V.str out) H
 |t::a,out=>λσ H Q=>t σ H λv b=>X1 λ(y:Str)=>A3 (v=V.str y) ((out++y).length<=bf) (tJ a (out++y) σ b Q)
def FY{ι:TE}(h:PE X e ι):PE X (.FormattedValue e (-1) aq p) (tFv ι):=by intro b s σ H Q I q;refine FormattedValue_plain (aZ (h b s σ H _ I q) λu i %[v,g,c,r,x,a,d|k]=>?_);subst a;obtain⟨t,rfl⟩:=r;exact formatField_str (λf tk=>%[.str x,g,c.tok tk,%[f|rfl]|k]) d
inductive PJ(X:Cx):List Expr->List TE->Prop
 |nil:PJ X [] []
 |cons{v:Expr}{t:TE}{a:List Expr}{b:List TE}:PE X v t->PJ X a b->PJ X (v::a) (t::b)
def aak:∀{b:List Expr} {c:List TE},PJ X b c->∀(out:Str) (a:List (ae×Obj)) (s:aj) (σ:L2.St) (H:Hp) (Q:VK),Inv X a σ H s->tJ c out σ H Q->
  wpAny (model X.prog X.w) X.A (joinParts out (evalEach b X.env)) (EP X a σ Q) X.xe s:=by?
 intro i i h;induction h with
 |nil=>exactλout a s σ H Q I q=>joinParts_nil %[.str out,H,I.tok _,%[_|rfl]|q.2] q.1
 |cons h _ d=>
  intro out a s σ H Q I q;refine joinParts_cons (aZ (h a s σ H _ I q) ?_);rintro u s1 ⟨x,H1,f,r,y,e,g,k⟩;subst e;obtain⟨t,rfl⟩:=r;exact%[g|d _ a s1 σ H1 Q f k]
def Ox{c:List TE}(h:PJ X (e::b::ξ) c):PE X (.JoinedStr (e::b::ξ) p) (tJ c jI):=by intro a s σ H Q I q;exact JoinedStr_many (aak h jI a s σ H Q I q)
def aal:∀c:List (List Int),aeU c=c
 |[]=>rfl
 |[]::_=>rfl
 |(a::x)::r=>by? rcases a with(_|_|_|_|_|_|_|_|_|_|_|_|_|_|_|_|_|_|_|_|_|_|_)|_<;>rcases x with _|⟨_,_|⟨_,_|⟨_,_|⟨_,_⟩⟩⟩⟩<;>rcases r with _|⟨_,_|⟨_,_⟩⟩<;>rfl
theorem aam(a:List (List (List Int))):a.map aeU=a:=by
 induction a with
 |nil=>rfl
 |cons c r b=>rw[cx,aal,b]
def aan(l:List Int):aeV l=ou pA l.length l:=by
 unfold aeV
 grind [aam]
set_option tactic.hygienic true in
def aao{U:List Int}{b:Int->Option (Nat×Nat)}{u:List (List (List Int))}(h:ou b n (S::U)=some u):
  ∃o a k c t i,n=o+1/\b S=some (a,k)/\a<=U.length/\ou b o t=some i/\u=c::i/\(k=0->c=[S::U.take a]/\t=U.drop a)/\
   (k=1->∃m j,U.drop a=m::j/\0<=m/\m.toNat<=j.length/\c=[S::U.take a,j.take m.toNat]/\t=j.drop m.toNat):=by?
 cases n with
 |zero=>exact aT h (by unfold ou;simp)
 |succ o=>
  unfold ou at h;split at h
  .cases h
  .rename_i c t d;split at h
   .cases h
   .rename_i i q;cases h;unfold PyFlat.call at d;dsimp only at d;cases s:b S with
    |none=>rw[s]at d;cases d
    |some nk=>
     obtain⟨a,k⟩:=nk;rw[s]at d;dsimp only at d;split at d
     .cases d
     .split at d
      .cases d
      .rename_i y v l;cases d;refine%[o,a,k,_,_,i,rfl,rfl,by cbv,q,rfl,λe=>?_|λe=>?_]
       .subst e;cases l;exact%[rfl|rfl]
       .subst e;unfold PyFlat.rows at l;split at l
        .cases l
        .rename_i x w g;cases l;cases hd:U.drop a with
         |nil=>rw[hd]at g;cases g
         |cons m j=>
          unfold PyFlat.row at g
          (cbv;lia)
def aap(h:pA S=some (n,j)):(j=0\/j=1)/\n<=3/\0<=S/\S<=21/\(j=1↔S=0\/S=2\/S=17\/S=19):=by?
 have e:∀S:Int,(pA S).all (λx=>decide ((x.2=0\/x.2=1)/\x.1<=3/\0<=S/\S<=21/\(x.2=1↔S=0\/S=2\/S=17\/S=19)))=true:=by rintro((_|_|_|_|_|_|_|_|_|_|_|_|_|_|_|_|_|_|_|_|_|_|_)|_)<;>rfl
 have q:=e S;rw[h]at q;exact of_decide_eq_true q
def aaq(a:List Int)(r:List (List Int)):xc (a::r)=(a.length:Int)::(a++xc r):=by rfl
inductive aar(lots places ws:List Str)(d:dM):Prop
 |mk(z:Str)(r:List Str)(x:Str×List Str)(a:Str)(c:List Str)(b:Nat)(pl:List Nat)(e:ws=z::r)(e:x∈kE)(e:x.1=z)(e:(z::r).length=x.2.length)(e:picks (z::r) x.2 "KG"=a::c)(e:dP (tl a)=some b)(e:∀n∈picks (z::r) x.2 "LOT",tl n∈lots.map tl)(e:Paired (λn j=>d6 (places.map tl) (tl n)=some j) (picks (z::r) x.2 "PLACE") pl)(e:DM.Is %[z::r,b,(picks (z::r) x.2 "LOT").foldl (λe n=>d6 (lots.map tl) (tl n)) none|pl] d)(e:Deed.In lots.length places.length d)
def qO(h:d6 (ν.map tl) κ=some j):j<ν.length:=by
 have:=(fP.mp (vj h)).1
 cbv
def aas(h:d6 (ν.map tl) (tl x)=some j):tl x∈ν.map tl:=bO (vj h)
def Oy{s:cH}{lots places:List Str}{d:dM}(b:s.lots=lots.map tl)(hp:(s.places.map λp=>p.1)=places.map tl)(h:dW s (ν.map tl)=.inr d):aar lots places ν d:=by?
 have a:∀{x j},t5 s x=some j->d6 (lots.map tl) x=some j:=λh=>b▸h;have pl:∀{x j},jt s x=some j->d6 (places.map tl) x=some j:=λh=>hp▸h;obtain⟨k,t,w,e,e,l,p⟩|⟨k,f,t,w,e,e,p,q⟩|⟨k,w,e,p⟩|⟨k,f,w,e,p⟩|⟨k,f,w,e,p⟩:=MU h<;>have kl:=De w
 .cases lI.mp (k.trans MA.symm);exact%[_,_,_,_,[],_,[_],rfl,.head _,rfl,rfl,rfl,w,(λn c=>by rw[fJ.mp c];exact aas (a l)),.cons (pl p) .nil,%[rfl,rfl,a l|rfl],qO (a l),kl.1,kl.2.1|qO (pl p)]
 .cases lI.mp (k.trans MB.symm);exact%[_,_,_,_,[],_,[_,_],rfl,.tail _ (.head _),rfl,rfl,rfl,w,(λe h=>nomatch h),.cons (pl p) (.cons (pl q) .nil),%[rfl,rfl|rfl],kl.1,kl.2.1,qO (pl p)|qO (pl q)]
 .cases lI.mp (k.trans MC.symm);exact%[_,_,_,_,[],_,[_],rfl,.tail _ (.tail _ (.head _)),rfl,rfl,rfl,w,(λe h=>nomatch h),.cons (pl p) .nil,%[rfl,rfl|rfl],kl.1,kl.2.1|qO (pl p)]
 .cases lI.mp (k.trans MD.symm);exact%[_,_,_,_,[],_,[_],rfl,.tail _ (.tail _ (.tail _ (.head _))),rfl,rfl,rfl,w,(λe h=>nomatch h),.cons (pl p) .nil,%[rfl,rfl|rfl],kl.1,kl.2.1|qO (pl p)]
 .cases lI.mp (k.trans ME.symm);exact%[_,_,_,_,[],_,[_],rfl,.tail _ (.tail _ (.tail _ (.tail _ (.head _)))),rfl,rfl,rfl,w,(λe h=>nomatch h),.cons (pl p) .nil,%[rfl,rfl|rfl],kl.1,kl.2.1|qO (pl p)]
def aat(h:cy κ=true):κ.length<=8:=by
 unfold cy at h
 grind
def aau(h:dP κ=some n):κ.length<=8:=by
 unfold dP Iu at h
 grind
end
def aav:(wd "come").length<=8/\(wd "move").length<=8/\(wd "weigh").length<=8/\(wd "sell").length<=8/\(wd "waste").length<=8/\(wd "to").length<=8/\(wd "from").length<=8:=by decide+kernel
theorem aaw{s:cH}{ws:List (List Nat)}{d:dM}(h:dW s ws=.inr d):∀w∈ws,w.length<=8:=by
 obtain⟨c1,c2,c3,c4,c5,c6,c7⟩:=aav
 cases MV h<;>simp_all [aau (by assumption),aat]
structure SM where
 lots:List Str
 places:List Str
 bj:List Bool
 ents:List (List DE)
def entryOf(a:List DE):Vbcraf.Entry:=⟨a.map (·.bX)⟩
namespace SM
abbrev pl(s:SM):List (rA×Bool):=gA s.places s.bj
def store(s:SM):cH:=%[s.lots.map tl,s.pl|s.ents.map entryOf]
def lay(s:SM)(i:Nat):cB:=eC s.lots.length s.pl (mD s.places.length) ((s.ents.take i).map entryOf)
def ways(s:SM):cB:=s.lay s.ents.length
def gh(s:SM):List cB:=(bV (s.ents.length+1)).map s.lay
structure Ok(s:SM):Prop where
 len:s.bj.length=s.places.length
 dH:s.lots.length<=6/\s.places.length<=8
 many:s.ents.length<=40
 nm:(∀z∈s.lots,cy (tl z)=true)/\∀z∈s.places,cy (tl z)=true
 ent:∀ds∈s.ents,(1<=ds.length/\ds.length<=4)/\∀d∈ds,Deed.In s.lots.length s.places.length d.bX/\d.words.map tl=fQ s.store d.bX/\∀z∈d.words,(tl z).length<=8
 ne:s.ways≠[]
 tF:∀i,i<=s.ents.length->(s.lay i).length<=64
def Ok.kJ{s:SM}(h:s.Ok):s.pl.length=s.places.length:=Yy h.len
def Ok.vS{s:SM}(h:s.Ok):(s.store.places.map λp=>p.1)=s.places.map tl:=by exact List.map_fst_zip (by rw[aY,h.len];exact bx _)
theorem Oz(s:SM):(mD s.places.length).Ok s.lots.length s.places.length:=by refine%[aeX,λb a p hp=>?_,(λp hp=>nomatch hp),(λp hp=>nomatch hp),(λp hp=>nomatch hp)|λl=>rfl];rw[Qy a]at hp;cases hp
theorem aax{s:SM}(h:s.pl.length=s.places.length):Vbcraf.begun s.store=(mD s.places.length).q s.pl:=by
 show(%[s.pl.map _,[]|[]]:Vbcraf.World)=%[kC s.pl (cS s.places.length []),[]|[]];congr 1;unfold kC;rw[<-h];generalize s.pl=l;induction l with
 |nil=>rfl
 |cons a r b=>
  grind [Q_]
theorem OA{s:SM}(hp:s.pl.length=s.places.length)(f:∀a∈s.ents,∀d∈a,Deed.In s.lots.length s.places.length d.bX)(i:Nat):∀e∈(s.ents.take i).map entryOf,∀d∈e.ways,Deed.In s.lots.length s.pl.length d:=by
 intro e c d hd;obtain⟨a,b,rfl⟩:=bF.mp c;obtain⟨x,g,rfl⟩:=bF.mp (hd)
 grind
def Ok.OB{s:SM}(h:s.Ok)(i:Nat):∀e∈(s.ents.take i).map entryOf,∀d∈e.ways,Deed.In s.lots.length s.pl.length d:=OA h.kJ (λb a d hd=>((h.ent b a).2 d hd).1) i
def FZ{s:SM}(hp:s.pl.length=s.places.length)(a:∀ds∈s.ents,∀d∈ds,Deed.In s.lots.length s.places.length d.bX):fK s.store=s.ways.map (qW s.pl):=by
 unfold fK SM.ways SM.lay;have b:s.store.lots.length=s.lots.length:=aY _;have c:s.store.entries=s.ents.map entryOf:=rfl
 grind [aax,OA,LD,Oz]
def Ok.all{s:SM}(h:s.Ok):fK s.store=s.ways.map (qW s.pl):=FZ h.kJ λb a d hd=>((h.ent b a).2 d hd).1
def Ok.zF{n:Nat}{s:SM}(h:s.Ok)(e:n<=s.ents.length):∀x∈s.lay n,x.2.Ok s.lots.length s.places.length/\Sz n x.2/\x.1.length=n:=by?
 intro x a;have b:(mD s.places.length).Ok s.lots.length s.pl.length:=by rw[h.kJ];exact Oz s
 have c:=LG _ _ b (h.OB n) x a;have ln:((s.ents.take n).map entryOf).length=n:=by cbv
 have d:=LZ _ _ 0 b (Vm _) (by have:=h.many;lia) (h.OB n) x a;rw[ln]at d;rw[h.kJ]at c
 cbv
def Ok.iq{s:SM}(h:s.Ok):nO s.lots.length s.places.length s.ways:=λx d=>by
 obtain⟨a,b,c⟩:=h.zF (bx _) x d;have:=h.many
 grind
theorem qP(s:SM):s.gh.length=s.ents.length+1:=by unfold gh;simp
def zG{n:Nat}(s:SM)(h:n<=s.ents.length):s.gh[n]?=some (s.lay n):=by grind [gh]
end SM
structure LA where
 g:ae
 dg:ae
 ly:ae
 dl:ae
 la:ae
 pa:ae
 sa:ae
 ea:ae
 ya:ae
def LA.foot(A:LA):List ae:=[A.g,A.ly,A.la,A.pa,A.sa,A.ea,A.ya]
structure CA where
 P:ae
 W:ae
 D:ae
 L:ae
 G:ae
structure cN(K:ah)(C:CA)(F H:Hp)(A:LA)(s:SM):Prop where
 g:H A.g=some (.ins C.G A.dg (ef (.ref A.ly) (.ref A.ea) (.ref A.ya)))
 ly:H A.ly=some (.ins C.L A.dl (lf (.ref A.la) (.ref A.pa) (.ref A.sa)))
 la:H A.la=some (.lst (s.lots.map V.str))
 pa:H A.pa=some (.lst (s.places.map V.str))
 sa:H A.sa=some (.lst (s.bj.map V.bl))
 ea:∃a,H A.ea=some (.lst a)/\Paired (mK K C.D F) a s.ents
 ya:∃c,H A.ya=some (.lst c)/\Paired (fi K C.P C.W F) c s.gh
 out:∀b∈A.foot,F b=aq
 nd:[A.la,A.pa,A.sa,A.ea,A.ya].Nodup
 ok:s.Ok
section
variable{B:SM}{C:CA}{K:ah}{P:aC}{f:ae}{h:ax}{j n:Nat}{r:Str->Option Value}{w:World}{y:aK}
section
variable{A ω:LA}{H J Ν ο:Hp}{N Ξ:Type}{a l:ae}{s:SM}{x:Str}{ξ:List Expr}
theorem cN.lay(h:cN K C J H A s):jE C.L H (.ref A.ly) s.lots s.places s.bj:=%[%[A.ly,A.dl,A.la,A.pa,A.sa,rfl,h.ly,h.la,h.pa|h.sa],h.ok.len|h.ok.dH]
def cN.has(h:cN K C J H A s):∀b∈A.foot,∃o,H b=some o:=by
 obtain⟨c,d,i⟩:=h.ea;obtain⟨e,f,i⟩:=h.ya;intro b a;unfold LA.foot at a;simp only[cU,ub,or_false]at a;rcases a with rfl|rfl|rfl|rfl|rfl|rfl|rfl
 .exact%[_|h.g]
 .exact%[_|h.ly]
 .exact%[_|h.la]
 .exact%[_|h.pa]
 .exact%[_|h.sa]
 all_goals cbv
def cN.grow(h:cN K C J H A s)(g:ag J H ο Ν):cN K C ο Ν A s:=by? obtain⟨c,d,e⟩:=h.ea;obtain⟨f,i,j⟩:=h.ya;refine%[g.same _ _ h.g,g.same _ _ h.ly,g.same _ _ h.la,g.same _ _ h.pa,g.same _ _ h.sa,%[c,g.same _ _ d|cT e λl l q=>q.up g.fs],%[f,g.same _ _ i|cT j λl l q=>q.up g.fs],λb a=>?_,h.nd|h.ok];obtain⟨o,k⟩:=h.has b a;exact g.out k (h.out b a)
structure Mv(F H:Hp)(A:LA)(F' H':Hp)(A':LA):Prop where
 fs:aD F F'
 sub:aD F' H'
 keep:∀b o,H b=some o->b∉A.foot->H' b=some o
 new:∀b,b∈A'.foot->b∈A.foot\/H b=aq
 nw:∀b o,F' b=some o->F b=some o\/H b=aq
 gg:A'.g=A.g
 F_:∀b,b∈A.foot->∃o,H' b=some o
def Mv.of(h:cN K C J H A s)(g:ag J H ο Ν):Mv J H A ο Ν A:=%[g.fs,g.sub,λb o e d=>g.same b o e,λb a=>.inl a,g.new,rfl|λb a=>let%[o|c]:=h.has b a;%[o|g.same _ _ c]]
theorem Mv.trans{A' A2:LA}{f g:Hp}(a:Mv J H A ο Ν A')(b:Mv ο Ν A' f g A2):Mv J H A f g A2:=by?
 have h:∀x,Ν x=aq->x∉A.foot/\H x=aq:=λx e=>by
  have n:x∉A.foot:=λm=>by obtain⟨o,c⟩:=a.F_ x m;rw[c]at e;cases e
  refine%[n|?_];cases q:H x with
  |none=>rfl
  |some o=>rw[a.keep x o q n]at e;cases e
 refine%[a.fs.trans b.fs,b.sub,λx o e n=>?_,λx d=>?_,λx o e=>?_,b.gg.trans a.gg|λx d=>?_]
 .refine b.keep x o (a.keep x o e n) λm=>?_;rcases a.new x m with q|q
  all_goals cbv
 .rcases b.new x d with q|q
  .exact a.new x q
  cbv
 .rcases b.nw x o e with q|q
  .exact a.nw x o q
  cbv
 .obtain⟨o,c⟩:=a.F_ x d;by_cases m:x∈A'.foot
  .exact b.F_ x m
  .exact%[o|b.keep x o c m]
def OC{R:N->Ξ->Prop}:∀{d:List N} {e:List Ξ} {x:Ξ},Paired R d (e++[x])->X2 λc y=>A3 (d=c++[y]) (Paired R c e) (R y x):=by
 intro d e x h;induction e generalizing d with
 |nil=>
  obtain i|⟨h,⟨⟩⟩:=h
  exact%[[],_,rfl,.nil|h]
 |cons _ _ f=>
  obtain i|⟨h,t⟩:=h
  obtain⟨c,y,rfl,a,b⟩:=f t;exact%[_::c,y,rfl,.cons h a|b]
theorem SM.zH(s:SM):s.gh=(bV s.ents.length).map s.lay++[s.ways]:=by unfold SM.gh;rw[pk,cF];rfl
def mO{D g:ae}(h:[a,f,D,l,g].Nodup):a≠f/\a≠D/\a≠l/\a≠g/\f≠D/\f≠l/\f≠g/\D≠l/\D≠g/\l≠g:=by cbv
def cN.OD{s':SM}(h:cN K C J H ω B)(c:aD J H)(d:s'.lots=B.lots)(f:s'.places=B.places)(g:s'.bj=B.bj)(ok:s'.Ok){es ys:List V}(i:Paired (mK K C.D J) es s'.ents)(I:Paired (fi K C.P C.W J) ys s'.gh):
  cN K C J (upd (upd H ω.ea (.lst es)) ω.ya (.lst ys)) ω s'/\Mv J H ω J (upd (upd H ω.ea (.lst es)) ω.ya (.lst ys)) ω:=by?
 obtain⟨j,a,P⟩:=h.ea;obtain⟨k,b1,b2⟩:=h.ya;obtain⟨M,N,l,m,O,p,q,r,t,u⟩:=mO h.nd;have E:=eA h.g a (by intro z;cases z);have G:=eA h.g b1 (by intro z;cases z);have v:=eA h.ly a (by intro z;cases z);have w:=eA h.ly b1 (by intro z;cases z);have x:J ω.ea=aq:=h.out _ (by simp[LA.foot]);have y:J ω.ya=aq:=h.out _ (by simp[LA.foot]);have L:cN K C J (upd (upd H ω.ea (.lst es)) ω.ya (.lst ys)) ω s':=by refine%[by rw[aB G,aB E];exact h.g,by rw[aB w,aB v];exact h.ly,by rw[aB m,aB l,d];exact h.la,by rw[aB q,aB p,f];exact h.pa,by rw[aB t,aB r,g];exact h.sa,%[es,by simp_all [aB,ak]|i],%[ys,ak|I],h.out,h.nd|ok]
 refine%[L,aD.refl _,λb o e=>?_,λb o e n=>?_,λb D=>.inl D,λb o e=>.inl e,rfl|L.has]
 .rw[aB (λz=>by rw[z,y]at e;cases e),aB (λz=>by rw[z,x]at e;cases e)];exact c b o e
 simp_all [aB,LA.foot]
abbrev Ga:Stmt:=inClass (top 90) 1
inductive zI(K:ah)(C:CA)(a:List V)(H:Hp)(Q:VK)(E:XK):Prop
 |mk(A:LA)(s:SM)(F:Hp)(b:a=[.ref A.g])(b:cN K C F H A s)(b:∀r,fi K C.P C.W F r s.ways->Q r H)
def aay:aV ["self"] ["self"] (aM Ga):=aX
def aaz(e:aH K "ways" "Ledger.ways" Ga f y)(T:ik K C.G):aJ P w K r h aR 1 f y ["self"] (zI K C):=by? refine e.go aay ?_;rintro l l l l l l l l l ⟨A,s,F,rfl,a,k⟩;refine%[_,au (aF (aQ bA (aG (pv 0)) (uo uq aL) (λl l=>rfl)))|?_];obtain⟨j,g,d⟩:=a.ya;rw[SM.zH]at d;obtain⟨c,b,rfl,l,i⟩:=OC d;exact%[a.g,T.cl,T.nl,vt _ _ _,af.of g,xO c b|k b i]
def SM.undo(s:SM):SM:={s with ents:=s.ents.dropLast}
def SM.Gb(s:SM)(h:n<=s.ents.length-1):s.undo.lay n=s.lay n:=by grind [SM.lay,SM.undo,IS]
def OE(s:SM){a:List DE}(h:s.ents[n]?=some a):s.lay (n+1)=(s.lay n).flatMap (jW s.lots.length s.pl (a.map (·.bX))):=by unfold SM.lay;rw[take_snoc h,cF];exact LF _ _ _
def aaA(s:SM)(a:n<s.ents.length)(h:s.lay (n+1)≠[]):s.lay n≠[]:=λe=>by rw[OE s (cA a),e]at h;exact h rfl
theorem SM.Ok.undo(h:B.Ok)(ne:B.ents≠[]):B.undo.Ok:=by?
 have b:B.undo.ents.length=B.ents.length-1:=Ra;have pos:=wD.mpr ne;refine%[h.len,h.dH,by have:=h.many;lia,h.nm,λd a=>h.ent d (lY (by rw[<-IS];exact a)),?_|λi c=>?_]
 .unfold SM.ways;rw[b,B.Gb (bx _)];refine aaA B (by exact Nat.sub_one_lt_of_lt pos) ?_;rw[show B.ents.length-1+1=B.ents.length by exact aeZ pos];exact h.ne
 .rw[b]at c;rw[B.Gb c];exact h.tF i (by omega)
theorem SM.aaB(ne:B.ents≠[]):B.undo.gh=(bV B.ents.length).map B.lay:=by? have pos:=wD.mpr ne;unfold SM.gh;have a:B.undo.ents.length=B.ents.length-1:=Ra;rw[a,show B.ents.length-1+1=B.ents.length by exact aeZ pos];exact jq λi b=>B.Gb (by grind)
abbrev Gd{X:Cx}{o:Expr}{to:TE}{b a:Pos}:=@Tj X o to "pop" b a "list" "list.pop" Kj Ir ade PySem.F.type_list_pop Tq
abbrev Ge:Stmt:=inClass (top 90) 8
inductive Gf(K:ah)(C:CA)(b:List V)(H:Hp)(Q:VK)(E:XK):Prop
 |mk(A:LA)(s:SM)(F:Hp)(c:b=[.ref A.g])(c:aD F H)(c:cN K C F H A s)(c:s.ents≠[])(c:∀a,cN K C F a A s.undo->Mv F H A F a A->Q .bB a)
def aaC:aV ["self"] ["self"] (aM Ge):=aX
def aaD(m:aH K "undo" "Ledger.undo" Ge f y)(T:ik K C.G):aJ P w K r h aR 1 f y ["self"] (Gf K C):=by?
 refine m.go aaC ?_;rintro u u u u H u u u u ⟨A,s,F,rfl,n,c,ne,k⟩;refine%[_,aw (eN (Gd (aG (pv 0)))) (au (eN (Gd (aG (pv 0)))))|?_];obtain⟨d,i,l⟩:=c.ea;obtain⟨e,t,o⟩:=c.ya;have le:=bu l;have ly:=bu o;rw[SM.qP]at ly;have pos:=wD.mpr ne;have p:=(mO c.nd).2.2.2.2.2.2.2.2.2;have q:A.g≠A.ea:=eA c.g i (by intro z;cases z);refine%[c.g,T.cl,T.ne,j3 _ _ _,.inl %[rfl,_|af.of i],A.ea,d,d[d.length-1]'(by lia),rfl,rfl,i,cA _|?_];have g:(upd H A.ea (.lst d.dropLast)) A.ya=some (.lst e):=by grind [aB]
 have j:(upd H A.ea (.lst d.dropLast)) A.g=some (.ins C.G A.dg (ef (.ref A.ly) (.ref A.ea) (.ref A.ya))):=by rw[aB q];exact c.g
 refine%[j,T.cl,T.nl,vt _ _ _,.inl %[rfl,_|af.of g],A.ya,e,e[e.length-1]'(by cbv),rfl,rfl,g,cA _|?_];have dl:∀{α β:Type} {R:α->β->Prop} {a:List α} {b:List β},Paired R a b->Paired R a.dropLast b.dropLast:=by grind [IS,bu,Cp]
 obtain⟨L,M⟩:=c.OD (s':=s.undo) n rfl rfl rfl (c.ok.undo ne) (ys:=e.dropLast) (dl l) (by grind [SM.zH,SM.aaB])
 exact k _ L M
def SM.none:SM:=%[[],[],[]|[]]
def OF(s:SM):s.lay 0=[([],mD s.places.length)]:=rfl
def SM.aaE:SM.none.Ok:=by?
 refine%[rfl,%[bM _|bM _],bM _,%[λb h=>(nomatch h)|λb h=>(nomatch h)],λb h=>(nomatch h),?_|λi a=>?_]
 .show SM.none.lay 0≠[];rw[OF];simp
 .rw[Nat.le_zero.mp a];decide
def nS{ψ:HO}(h:aD J H)(n:J a=aq):aD J (upd H a ψ):=λb u e=>by rw[aB (λz=>by rw[z,n]at e;cases e)];exact h b u e
abbrev OG(P:aC)(w:World)(K:ah)(mg:Str->Option Value)(base:ax)(C:CA):Prop:=aW P w K mg base "first_way" 3 ["layout"] (Ei K C.P C.W C.L)
abbrev Gg:Stmt:=inClass (top 90) 0
inductive Gh(K:ah)(C:CA)(d:List V)(H:Hp)(Q:VK)(E:XK):Prop
 |mk(p dp:ae)(F:Hp)(e:d=[.ref p])(e:aD F H)(e:F p=aq)(e:H p=some (.ins C.G dp []))(e:∀a c A,A.g=p->cN K C a c A SM.none->aD F a->aD a c->(∀b o,H b=some o->b≠p->c b=some o)->(∀b∈A.foot,b=p\/H b=aq)->(∀b o,a b=some o->F b=some o\/H b=aq)->Q .bB c)
def aaF:aV ["self"] ["self"] (aM Gg):=aX
def aaG(Fn:aH K "__init__" "Ledger.__init__" Gg f y)(T:ik K C.G)(O:jX P w K r h "Layout" C.L 1 ["self"] (yZ C.L))(u:OG P w K r h C):aJ P w K r h aR 4 f y ["self"] (Gh K C):=by?
 refine Fn.go aaF ?_;rintro _ _ _ _ H _ _ _ hr ⟨p,dp,F,rfl,M,np,hp,k⟩;refine%[_,aw (fR (pv 0) (Cc O hr (by decide) rfl) rfl) (aw (fR (pv 0) (bH e_) rfl)
  (au (fR (pv 0) (bH (ai (bH (ai (aI u hr (ai (aG (pv 0)))))))) rfl)))|?_]
 intro x N nx nd a8;refine%[x,N,rfl,ak|λY la pa sa t i j n1 n2 n3 h1 h2 h3 h4 kp=>%[rfl|?_]];have Z:aD H Y:=aD.made nx nd kp;have free:∀{b:ae},(upd (upd H N (.own x)) x (.ins C.L N [])) b=aq->H b=aq/\b≠x:=λ{b} e=>by grind [ak,aB]
 obtain⟨t,a9⟩:=free t;obtain⟨i,bb⟩:=free i;obtain⟨j,bo⟩:=free j;have aa:=Z _ _ hp;have c:∀{b:ae},H b=aq->b≠p:=λe z=>by rw[z,hp]at e;cases e
 refine%[aa,T.cl,T.na,(by show 0<1000;decide)|?_];generalize v:upd Y p (.ins C.G dp (cb "layout" (.ref x) []))=H2;have a6:∀{b:ae} {o:HO},b≠p->Y b=some o->H2 b=some o:=λn e=>by rw[<-v,aB n];exact e
 have p2:H2 p=some (.ins C.G dp (cb "layout" (.ref x) [])):=by rw[<-v];exact ak
 refine%[bM _|λea l=>%[cQ l _ _ p2,T.cl,T.ne,(by show 1<1000;decide)|?_]];have A:ea≠p:=λz=>by cbv
 have Q:H ea=aq:=by rw[<-v,aB A]at l;exact Z.free l
 have a7:Y ea=aq:=by rw[<-v,aB A]at l;exact l
 have ao:ea≠x:=λz=>by grind
 have ar:ea≠la:=λz=>by cbv
 have av:ea≠pa:=λz=>by cbv
 have az:ea≠sa:=λz=>by cbv
 generalize B:upd (upd H2 ea (.lst [])) p (.ins C.G dp (cb "entries" (.ref ea) (cb "layout" (.ref x) [])))=g;have m:∀{b:ae} {o:HO},b≠p->b≠ea->Y b=some o->g b=some o:=λn n' e=>by rw[<-B,aB n,aB n'];exact a6 n e
 have R:g p=some (.ins C.G dp (cb "entries" (.ref ea) (cb "layout" (.ref x) []))):=by rw[<-B];exact ak
 have e4:g ea=some (.lst []):=by rw[<-B,aB A];exact ak
 have D:∀b o,H b=some o->b≠p->g b=some o:=λb o e n=>m n (eZ e Q) (Z _ _ e);have a0:aD F g:=λb o e=>D b o (M _ _ e) (λz=>by rw[z,np]at e;cases e);have x4:g x=some (.ins C.L N (lf (.ref la) (.ref pa) (.ref sa))):=m (c nx) ao.symm h1;have E:g la=some (.lst []):=m (c t) ar.symm h2;have G:g pa=some (.lst []):=m (c i) av.symm h3;have I:g sa=some (.lst []):=m (c j) az.symm h4;have a3:(cb ("entries":Str) (V.ref ea) (cb "layout" (.ref x) [])).lookup ("layout":Str)=some (.ref x):=by rfl
 refine%[R,T.cl,T.na,a3,[],[],[],.ref x,F,rfl,a0,%[%[x,N,la,pa,sa,rfl,x4,E,G|I],rfl|%[bM _|bM _]]|λF5 H5 S U q5=>?_];refine%[dc|λJ a4=>?_];have L:=ag.put (o:=.lst [S]) U.sub a4;refine%[dc|λya d=>?_];have g7:=ag.bD (o:=.lst [.ref J]) L.sub d;have a:=(U.trans L).trans g7;have p7:=a.same _ _ R;refine%[p7,T.cl,T.nl,iP (nj _ _ _) (by show 1+1<1000;decide)|?_];have a5:ya≠p:=λz=>by rw[z]at d;rw[(U.trans L).same _ _ R]at d;cases d
 have W:g ya=aq:=(U.trans L).same.free d;have br:H ya=aq:=by
  cases q:H ya with
  |none=>rfl
  |some o=>cbv
 have bz:∀{b:ae} {o:HO},g b=some o->b≠ya:=λe=>eZ e W;have s:∀{b:ae} {o:HO},b≠p->g b=some o->(upd (upd (upd H5 J (.lst [S])) ya (.lst [.ref J])) p (.ins C.G dp (cb "layers" (.ref ya) (cb "entries" (.ref ea) (cb "layout" (.ref x) []))))) b=some o:=λn e=>by rw[aB n];exact a.same _ _ e
 have X:(upd F5 J (.lst [S])) p=aq:=a.out R np;refine k (upd F5 J (.lst [S])) _ %[p,dp,x,N,la,pa,sa,ea|ya] rfl %[ak,s (c nx) x4,s (c t) E,s (c i) G,s (c j) I,%[[],s A e4| .nil],%[[.ref J],?_|?_],λb hb=>?_,?_|SM.aaE] (U.fs.trans L.fs) (nS g7.sub X) ?_ ?_ ?_
 .rw[aB a5];exact ak
 .refine .cons ?_ .nil;refine%[J,[S],rfl,ak,.cons (q5.mono L.fs) .nil|by simp]
 .unfold LA.foot at hb;simp only[cU,ub,or_false]at hb;rcases hb with rfl|rfl|rfl|rfl|rfl|rfl|rfl
  .exact X
  .exact a.out x4 (M.free nx)
  .exact a.out E (M.free t)
  .exact a.out G (M.free i)
  .exact a.out I (M.free j)
  .exact a.out e4 (M.free Q)
  .exact L.sub.free d
 ·(cbv;lia)
 .simp_all
 .simp_all [LA.foot]
 .intro b o e;rcases a.new b o e with q|q
  .exact .inl q
  .refine .inr ?_;have nb:b≠p:=λz=>by rw[z,R]at q;cases q
   cases q':H b with
   |none=>rfl
   |some o=>cbv
def OH(s:SM)(ws:List (List Nat))(a:Int)(b:SM):Prop:=(ju s.store ws=.inr b.store/\a=0)\/X1 λ(k:Nat)=>A4 (k≠0) (ju s.store ws=.inl k) (a=k) (b=s)
def aaH{Α places:List (List Nat)}{κ x:List Nat}(h:mI Α places [κ,x] n=0):cy x=true/\n=0/\(κ=wd "lot"->Α.length≠6)/\(κ≠wd "lot"->places.length≠8):=by
 unfold mI at h;dsimp only at h;split at h
 .cases h
 split at h
 .cases h
 split at h
 .cases h
 split at h<;>split at h<;>first|cases h;done|cbv
def Gi:tl ("silo":Str)=wd "silo":=by decide+kernel
def OI:tl ("bag":Str)=wd "bag":=by decide+kernel
def SM.mP(s:SM)(x:Str):SM:={s with lots:=s.lots++[x]}
def SM.mQ(s:SM)(x:Str)(b:Bool):SM:={s with places:=s.places++[x],bj:=s.bj++[b]}
def Gj(s:SM)(e:s.ents=[]):s.ways≠[]/\(∀i,i<=s.ents.length->(s.lay i).length<=64)/\s.gh=[[([],mD s.places.length)]]:=by simp_all [SM.ways,OF,SM.gh]
theorem SM.Ok.mP(h:B.Ok)(e:B.ents=[])(c:cy (tl x)=true)(d:B.lots.length≠6):(B.mP x).Ok:=by?
 have o:=Gj (B.mP x) e;have f:=h.dH;refine%[h.len,%[by show(B.lots++[x]).length<=6;(cbv;lia)|f.2],h.many,%[λz b=>?_|h.nm.2],λg a=>?_,o.1|o.2.1]
 .rcases eF.mp (b)with q|q
  .exact h.nm.1 z q
  cbv
 .rw[show(B.mP x).ents=[]from e]at a;cases a
theorem SM.Ok.mQ(h:B.Ok)(e:B.ents=[])(b:Bool)(d:cy (tl x)=true)(g:B.places.length≠8):(B.mQ x b).Ok:=by?
 have o:=Gj (B.mQ x b) e;have f:=h.dH;refine%[?_,%[f.1|by show(B.places++[x]).length<=8;(cbv;lia)],h.many,%[h.nm.1|λz c=>?_],λi a=>?_,o.1|o.2.1]
 .show(B.bj++[b]).length=(B.places++[x]).length;rw[dB,dB,h.len];rfl
 .rcases eF.mp (c)with q|q
  .exact h.nm.2 z q
  cbv
 .rw[show(B.mQ x b).ents=[]from e]at a;cases a
def aaI(h:B.Ok)(x:Str)(b:Bool):(B.mQ x b).store={B.store with places:=B.store.places++[(tl x,b)]}:=by?
 show(%[B.lots.map tl,gA (B.places++[x]) (B.bj++[b])|_]:cH)=%[_,B.pl++[(tl x,b)]|_];have:gA (B.places++[x]) (B.bj++[b])=B.pl++[(tl x,b)]:=by unfold gA SM.pl;rw[cF,ae0 (by rw[aY,h.len])];rfl
 rw[this];rfl
def aaJ(s:SM)(x:Str):(s.mP x).store={s.store with lots:=s.store.lots++[tl x]}:=by show(%[(s.lots++[x]).map tl,_|_]:cH)=%[s.lots.map tl++[tl x],_|_];rw[cF];rfl
abbrev Gk:Stmt:=inClass (top 90) 3
inductive lR(K:ah)(C:CA)(b:Hp->V->List Str->Prop)(f:List V)(H:Hp)(Q:VK)(E:XK):Prop
 |mk(A:LA)(s:SM)(ws:List Str)(u:V)(F:Hp)(h:f=[.ref A.g,u])(h:aD F H)(h:cN K C F H A s)(h:b F u ws)(h:∀c a d e why,Mv F H A c a d->cN K C c a d e->OH s (ws.map tl) why e->Q (.int why) a)
def zJ(F:Hp)(u:V)(ws:List Str):Prop:=gN F u ws/\(∀z∈ws,z.cps.size<=1000000)/\X2 λk r=>A2 (ws=k::r) (tl k=wd "lot"\/tl k=wd "bag"\/tl k=wd "silo")
def OJ:aV ["self","words","why"] ["self","words"] (aM Gk):=aX
theorem Gm(f:Str)(v w:V):∀l:List (Str×V),cb f v (cb f w l)=cb f v l
 |[]=>by simp[cb]
 |(g,x)::r=>by
  by_cases h:g=f
  .simp_all [cb]
  .rw[show cb f w _=(g,x)::cb f w r from by show(if g=f then _ else _)=_;rw[aE h]];show(if g=f then _ else _)=(if g=f then _ else _);rw[aE h,aE h,Gm f v w r]
def OK(a b c d:V):cb "layers" d (ef a b c)=ef a b d:=Gm _ _ _ _
def cN.lg(h:cN K C J H ω B):ω.ly≠ω.g:=λz=>by
 have a:=h.ly;rw[z,h.g]at a;injection a with a
 injection a with _ _ a
 have b:=fX (.ref ω.ly) (.ref ω.ea) (.ref ω.ya);rw[a]at b;cases b
def OL{O:V}{s':SM}{Ζ ζ S:List V}(hF:aD J H)(h:cN K C J H ω B)(ok:s'.Ok)(e:B.ents=[])(G:s'.ents=[])
  (el:ζ=s'.lots.map V.str)(X:Ζ=s'.places.map V.str)(Y:S=s'.bj.map V.bl){d:Hp}(Z:d=upd (upd (upd H ω.la (.lst ζ)) ω.pa (.lst Ζ)) ω.sa (.lst S))(m:ag J d ο Ν)(q5:fZ K C.P C.W ο O ([],mD s'.places.length))(p:Ν a=aq)(j:(upd Ν a (.lst [O])) f=aq):
  cN K C (upd ο a (.lst [O])) (upd (upd (upd Ν a (.lst [O])) f (.lst [.ref a])) ω.g (.ins C.G ω.dg (cb "layers" (.ref f) (ef (.ref ω.ly) (.ref ω.ea) (.ref ω.ya))))) {ω with ya:=f} s'/\
  Mv J H ω (upd ο a (.lst [O])) (upd (upd (upd Ν a (.lst [O])) f (.lst [.ref a])) ω.g (.ins C.G ω.dg (cb "layers" (.ref f) (ef (.ref ω.ly) (.ref ω.ea) (.ref ω.ya))))) {ω with ya:=f}:=by?
 subst el X Y;obtain⟨aa,R,T⟩:=h.ea;obtain⟨ao,b1,b2⟩:=h.ya;rw[e]at T;cases T;obtain⟨n1,n2,n3,n4,n5,n6,n7,n8,n9,ar⟩:=mO h.nd;have U:ω.g≠ω.la:=eA h.g h.la (by intro z;cases z);have I:ω.g≠ω.pa:=eA h.g h.pa (by intro z;cases z);have gs:ω.g≠ω.sa:=eA h.g h.sa (by intro z;cases z);have ge:ω.g≠ω.ea:=eA h.g R (by intro z;cases z);have gy:ω.g≠ω.ya:=eA h.g b1 (by intro z;cases z);have ll:ω.ly≠ω.la:=eA h.ly h.la (by intro z;cases z);have lp:ω.ly≠ω.pa:=eA h.ly h.pa (by intro z;cases z);have ls:ω.ly≠ω.sa:=eA h.ly h.sa (by intro z;cases z);have out:∀b∈ω.foot,J b=aq:=h.out;have l:=ag.put (o:=.lst [O]) m.sub p;have M:=ag.bD (o:=.lst [.ref a]) l.sub j;have k:=(m.trans l).trans M;have g:∀{b:ae} {o:HO},b≠ω.la->b≠ω.pa->b≠ω.sa->H b=some o->d b=some o:=λx y z e=>by simp_all [aB]
 have r:d ω.la=some (.lst (s'.lots.map V.str)):=by simp_all [aB,ak]
 have t:d ω.pa=some (.lst (s'.places.map V.str)):=by simp_all [aB,ak]
 have u:d ω.sa=some (.lst (s'.bj.map V.bl)):=by rw[Z];exact ak
 have g4:=g U I gs h.g;have v:=g ll lp ls h.ly;have D:=g n3.symm n6.symm n8.symm R;have E:=g n4.symm n7.symm n9.symm b1;have N:d f=aq:=(m.trans l).same.free j;have yg:f≠ω.g:=λz=>by grind
 have W:∀{b:ae},d b=aq->H b=aq:=λ{b} e=>by
  cases q:H b with
  |none=>rfl
  |some o=>
   grind
 have c:∀{b:ae} {o:HO},b≠ω.g->d b=some o->(upd (upd (upd Ν a (.lst [O])) f (.lst [.ref a])) ω.g (.ins C.G ω.dg (cb "layers" (.ref f) (ef (.ref ω.ly) (.ref ω.ea) (.ref ω.ya))))) b=some o:=λn e=>by rw[aB n];exact k.same _ _ e
 rw[OK]at*;have o1:=(Gj s' G).2.2;have pF:∀b∈ω.foot,∀o,d b=some o->(upd ο a (.lst [O])) b=aq:=λb i o ho=>k.out ho (out b i)
 have L:cN K C (upd ο a (.lst [O])) (upd (upd (upd Ν a (.lst [O])) f (.lst [.ref a])) ω.g (.ins C.G ω.dg (ef (.ref ω.ly) (.ref ω.ea) (.ref f)))) {ω with ya:=f} s':=by
  refine%[ak,c h.lg v,c U.symm r,c I.symm t,c gs.symm u,%[[],c ge.symm D|by rw[G];exact .nil],%[[.ref a],?_|?_],λb i=>?_,?_|ok]
  .simp_all [aB,ak]
  .rw[o1];exact .cons %[a,[O],rfl,ak,.cons (q5.mono l.fs) .nil|by simp] .nil
  .unfold LA.foot at i;simp only[cU,ub,or_false]at i;rcases i with rfl|rfl|rfl|rfl|rfl|rfl|rfl
   .grind [LA.foot]
   .grind [LA.foot]
   .grind [LA.foot]
   .grind [LA.foot]
   .grind [LA.foot]
   .grind [LA.foot]
   .exact l.sub.free j
  (cbv;lia)
 refine%[L,m.fs.trans l.fs,nS M.sub (pF _ (by simp[LA.foot]) _ g4),λb o Q n=>?_,λb i=>?_,λb o Q=>?_,rfl|λb i=>?_]
 .simp_all [LA.foot]
 .grind [LA.foot]
 .rcases k.new b o Q with q|q
  all_goals grind
 .unfold LA.foot at i
  grind [ak]
def aaK(Fn:aH K "add_name" "Ledger.add_name" Gk f y)(G:sS r)(T:ik K C.G)(av:iI K C.L)(D:OG P w K r h C)(S:gL P w K r h C.G "why_no_name" 3 ["self","words"] (Ec C.G C.L))
  (U:gL P w K r h C.L "add_lot" 1 ["self","name"] (DJ C.L))(E:gL P w K r h C.L "add_place" 1 ["self","name","silo"] (DL C.L)):aJ P w K r h aR 4 f y ["self","words"] (lR K C zJ):=by?
 refine Fn.go OJ ?_;rintro _ _ _ _ _ _ _ _ hr ⟨A,s,ws,u,F,rfl,hF,d,⟨hu,hz,H,Q,rfl,ao⟩,k⟩;refine%[_,aw (bp 2 OJ (jY S hr (by decide) (pv 0) (ai (pv 1))))
  (aw (bW (bY dY (pv 2) (bC G.good) (b_ _))
   (aw (bW (bY dY (aQ bA (pv 1) aL (λ_ _=>rfl)) cK (b_ _))
    (au (eN (jY U hr (by decide) (aG (pv 0)) (ai (aQ bA (pv 1) aL (λ_ _=>rfl))))))
    (au (eN (jY E hr (by decide) (aG (pv 0)) (ay (aQ bA (pv 1) aL (λ_ _=>rfl)) (ai (i7 dY (aQ bA (pv 1) aL (λ_ _=>rfl)) cK rfl)))))))
   (au (fR (pv 0) (bH (ai (bH (ai (aI D hr (ai (aG (pv 0)))))))) rfl))) bZ)
  (au (aF (pv 2))))|?_]
 obtain⟨es,e1,e2⟩:=d.ea;have W:∀m:Str,m≠"layers"->m≠"entries"->m≠"layout"->(ef (.ref A.ly) (.ref A.ea) (.ref A.ya)).lookup m=aq:=λm a b c=>by simp_all [ef,mr]
 refine%[d.g,W _ (by decide+kernel) (by decide+kernel) (by decide+kernel),A.g,A.dg,A.ea,.ref A.ly,.ref A.ya,u,es,s.lots,s.places,s.bj,H::Q,F,rfl,hF,d.g,e1,d.lay,hu,hz|λX O N=>?_];have g:=d.grow N;have Y:=ZL s.store (tl H) (Q.map tl) ao %[by show(s.lots.map tl).length<=6;rw[aY];exact d.ok.dH.1|by show s.pl.length<=8;rw[d.ok.kJ];exact d.ok.dH.2];have wn:mI s.store.lots (s.store.places.map λp=>p.1) (tl H::Q.map tl) s.store.entries.length=mI (s.lots.map tl) (s.places.map tl) ((H::Q).map tl) es.length:=by rw[d.ok.vS,show s.store.entries.length=es.length from by rw[bu e2];exact aY _];rfl
 unfold Ob at Y;refine%[rfl|⟨?_⟩];cases I:ju s.store (tl H::Q.map tl)with
 |inl q=>
  rw[I]at Y;obtain⟨R,Z⟩:=Y;rw[wn]at R;rw[R,bK (λz=>Z (by cbv))];exact bt (k _ _ _ s _ (Mv.of d N) g (.inr %[q,Z,I,rfl|rfl]))
 |inr t=>
  rw[I]at Y;obtain⟨R,nn,Z,r3⟩:=Y;rw[wn]at R;rw[R,bT rfl];obtain⟨x,rfl⟩:∃x,Q=[x]:=by obtain _|⟨x,_|_⟩:=Q<;>first|exact%[_|rfl]|cases Z
  have en:nn=tl x:=(II Z).1.symm;subst en;obtain⟨c1,c2,c3,c4⟩:=aaH R;have e:s.ents=[]:=by
   rw[bu e2]at c2
   cbv
  obtain⟨ul,rfl,ar,az⟩:=hu;have n:=N.same _ _ (hF _ _ ar);obtain⟨n1,n2,n3,n4,n5,n6,n7,n8,n9,a0⟩:=mO d.nd;refine a_ %[af.of n,bg (j:=0) rfl,rfl|⟨?_⟩];rw[jc,Ea];have aa:∀m:Str,m≠"silos"->m≠"places"->m≠"lots"->(lf (.ref A.la) (.ref A.pa) (.ref A.sa)).lookup m=aq:=λm a b c=>NF _ _ _ a b c
  have gl:A.g≠A.la:=eA d.g d.la (by intro z;cases z);have gp:A.g≠A.pa:=eA d.g d.pa (by intro z;cases z);have gs:A.g≠A.sa:=eA d.g d.sa (by intro z;cases z);have ll:A.ly≠A.la:=eA d.ly d.la (by intro z;cases z);have lp:A.ly≠A.pa:=eA d.ly d.pa (by intro z;cases z);have ls:A.ly≠A.sa:=eA d.ly d.sa (by intro z;cases z);have nl:X A.la=aq:=g.out _ (by simp[LA.foot]);have np:X A.pa=aq:=g.out _ (by simp[LA.foot]);have ns:X A.sa=aq:=g.out _ (by simp[LA.foot]);have dH:=d.ok.dH;by_cases i:tl H=wd "lot"
  .rw[bT i];have j:=d.ok.mP e c1 (λz=>c3 i (by simp[*]));refine a_ %[g.g,T.cl,T.na,fX _ _ _,g.ly,aa _ (by decide+kernel) (by decide+kernel) (by decide+kernel),af.of n,bg (j:=1) rfl|?_];refine%[x,A.ly,A.dl,A.la,_,_,_,rfl,g.ly,g.la,by grind|?_];have e4:upd O A.la (.lst (s.lots.map V.str++[.str x]))=upd (upd (upd O A.la (.lst ((s.mP x).lots.map V.str))) A.pa (.lst ((s.mP x).places.map V.str))) A.sa (.lst ((s.mP x).bj.map V.bl)):=by
    funext b;by_cases z3:b=A.sa
    .subst z3;rw[ak,aB n2.symm];exact g.sa
    .rw[aB z3];by_cases z2:b=A.pa
     .subst z2;rw[ak,aB n1.symm];exact g.pa
     .rw[aB z2];show _=upd O A.la (.lst ((s.lots++[x]).map V.str)) b;rw[cF];rfl
   have g4:(upd O A.la (.lst (s.lots.map V.str++[.str x]))) A.g=some (.ins C.G A.dg (ef (.ref A.ly) (.ref A.ea) (.ref A.ya))):=by rw[aB gl];exact g.g
   have v:jE C.L (upd O A.la (.lst (s.lots.map V.str++[.str x]))) (.ref A.ly) (s.lots++[x]) s.places s.bj:=%[%[A.ly,A.dl,A.la,A.pa,A.sa,rfl,by rw[aB ll];exact g.ly,by rw[cF];exact ak,by rw[aB n1.symm];exact g.pa|by rw[aB n2.symm];exact g.sa],d.ok.len|j.dH];refine%[g4,T.cl,T.na,fX _ _ _,s.lots++[x],s.places,s.bj,_,X,rfl,nS N.sub nl,v|λF5 H5 r5 J q5=>?_];refine%[dc|λy0 l=>%[dc|λya B=>?_]];have gg:=(J.trans (ag.put (o:=.lst [r5]) J.sub l)).trans (ag.bD (o:=.lst [.ref y0]) (ag.put (o:=.lst [r5]) J.sub l).sub B);refine%[gg.same _ _ g4,T.cl,T.nl,(by show 3<1000;decide)|?_];obtain⟨L,M⟩:=OL (s':=s.mP x) N.sub g j e e rfl rfl rfl e4 J q5 l B;refine k _ _ _ _ _ ((Mv.of d N).trans M) L (.inl %[?_|rfl])
   simp_all [aaJ]
  .rw[bK i];have j:=d.ok.mQ e (decide (tl H=wd "silo")) c1 (λz=>c4 i (by simp[*]));refine bt %[g.g,T.cl,T.na,fX _ _ _,g.ly,aa _ (by decide+kernel) (by decide+kernel) (by decide+kernel),af.of n,bg (j:=1) rfl,af.of n,bg (j:=0) rfl,rfl|?_];rw[jc,Gi];generalize hb:decide (tl H=wd "silo")=b at j;refine%[x,b,A.ly,A.dl,A.pa,A.sa,_,_,_,rfl,g.ly,n5,g.pa,g.sa,by grind,by rw[aY,d.ok.len];lia|?_];have e4:upd (upd O A.pa (.lst (s.places.map V.str++[.str x]))) A.sa (.lst (s.bj.map V.bl++[.bl b]))=upd (upd (upd O A.la (.lst ((s.mQ x b).lots.map V.str))) A.pa (.lst ((s.mQ x b).places.map V.str))) A.sa (.lst ((s.mQ x b).bj.map V.bl)):=by
    funext c;show _=upd (upd (upd O A.la (.lst (s.lots.map V.str))) A.pa (.lst ((s.places++[x]).map V.str))) A.sa (.lst ((s.bj++[b]).map V.bl)) c;rw[cF,cF];by_cases z3:c=A.sa
    .simp_all [ak]
    .rw[aB z3,aB z3];by_cases z2:c=A.pa
     .simp_all [ak]
     .rw[aB z2,aB z2];by_cases z1:c=A.la
      .subst z1;rw[ak];exact g.la
      .rw[aB z1]
   generalize o:upd (upd O A.pa (.lst (s.places.map V.str++[.str x]))) A.sa (.lst (s.bj.map V.bl++[.bl b]))=H4 at e4;have g4:H4 A.g=some (.ins C.G A.dg (ef (.ref A.ly) (.ref A.ea) (.ref A.ya))):=by rw[<-o,aB gs,aB gp];exact g.g
   have v:jE C.L H4 (.ref A.ly) s.lots (s.places++[x]) (s.bj++[b]):=%[%[A.ly,A.dl,A.la,A.pa,A.sa,rfl,by rw[<-o,aB ls,aB lp];exact g.ly,by rw[<-o,aB n2,aB n1];exact g.la,by rw[<-o,aB n5,cF];exact ak|by rw[<-o,cF];exact ak],j.len|j.dH];refine%[g4,T.cl,T.na,fX _ _ _,s.lots,s.places++[x],s.bj++[b],_,X,rfl,by rw[<-o];exact nS (nS N.sub np) ns,v|λF5 H5 r5 J q5=>?_];refine%[dc|λy0 l=>%[dc|λya B=>?_]];have gg:=(J.trans (ag.put (o:=.lst [r5]) J.sub l)).trans (ag.bD (o:=.lst [.ref y0]) (ag.put (o:=.lst [r5]) J.sub l).sub B);refine%[gg.same _ _ g4,T.cl,T.nl,(by show 3<1000;decide)|?_];obtain⟨L,M⟩:=OL (s':=s.mQ x b) N.sub g j e e rfl rfl rfl e4 J q5 l B;refine k _ _ _ _ _ ((Mv.of d N).trans M) L (.inl %[?_|rfl]);show ju s.store (tl H::[x].map tl)=_;rw[I,r3,aE i,aaI d.ok]
   (cbv;lia)
def aaL{Α places:List (List Nat)}{a:List (List (List Nat))}(h:gX Α places a n=0):a.length<=4/\n≠40:=by grind [gX]
def SM.fH(s:SM)(a:List DE):SM:={s with ents:=s.ents++[a]}
def Gn(s:SM)(a:List DE)(h:n<=s.ents.length):(s.fH a).lay n=s.lay n:=by grind [SM.lay,SM.fH]
theorem aaM(s:SM)(a:List DE):(s.fH a).ways=s.ways.flatMap (jW s.lots.length s.pl (a.map (·.bX))):=by?
 have b:(s.fH a).ents.length=s.ents.length+1:=by show(s.ents++[a]).length=_;simp
 have c:(s.fH a).ents[s.ents.length]?=some a:=by show(s.ents++[a])[s.ents.length]?=_;simp
 unfold SM.ways;rw[b,OE _ c,Gn s a (bx _)];rfl
def aaN(s:SM)(a:List DE):(s.fH a).gh=s.gh++[(s.fH a).ways]:=by?
 have b:(s.fH a).ents.length=s.ents.length+1:=by show(s.ents++[a]).length=_;rw[dB];rfl
 rw[SM.zH,b];congr 1;unfold SM.gh;exact jq λi c=>Gn s a (by have:=kT.mp c;exact oj this)
theorem SM.Ok.fH(h:B.Ok){e:List DE}(j:1<=e.length/\e.length<=4)(hd:∀d∈e,Deed.In B.lots.length B.places.length d.bX/\d.words.map tl=fQ B.store d.bX/\∀z∈d.words,(tl z).length<=8)(k:B.ents.length≠40)(ne:(B.fH e).ways≠[])(f:(B.fH e).ways.length<=64):(B.fH e).Ok:=by?
 have l:(B.fH e).ents.length=B.ents.length+1:=by show(B.ents++[e]).length=_;simp
 have n:∀d,fQ (B.fH e).store d=fQ B.store d:=λd=>by cases d<;>rfl
 refine%[h.len,h.dH,by have:=h.many;lia,h.nm,λm g=>?_,ne|λi o=>?_]
 .rcases eF.mp (g)with q|q
  .obtain⟨a,b⟩:=h.ent m q;exact%[a|λd c=>%[(b d c).1,by simp[*]|(b d c).2.2]]
  .rw[fJ.mp q];exact%[j|λd c=>%[(hd d c).1,by simp[*]|(hd d c).2.2]]
 .rcases om i (B.ents.length+1)with q|q
  .rw[Gn B e (by exact oj q)];exact h.tF i (by exact oj q)
  .have:i=B.ents.length+1:=by lia
   rw[this,<-l];exact f
theorem aaO{a:List (List Str)}{l:List dM}(h:a.length=l.length):((a.zip l).map λp=>(%[p.1|p.2]:DE)).map (·.bX)=l:=by rw[cC];exact aec (by simp[*])
abbrev Gp:Stmt:=inClass (top 90) 6
def Gq(K:ah)(F:Hp)(u:V)(ws:List Str):Prop:=Dt K F u (jd ws)/\(jd ws).length+1<2048/\(∀l∈jd ws,∀z∈l,(tl z).length<=3000)/\X2 λk r=>A2 (ws=k::r) (¬(tl k=wd "lot"\/tl k=wd "bag"\/tl k=wd "silo"))
def vT:aV ["self","told","why","deeds","ways","words"] ["self","told"] (aM Gp):=aX
def aaP(Fn:aH K "add_entry" "Ledger.add_entry" Gp f y)(G:sS r)(T:ik K C.G)(cL:GV r "NO_WAY" (.int 6))(cM:GV r "TOO_MANY_WAYS" (.int 7))(cP:GV r "MOST_WAYS" (.int 64))(cD:r "len"=aq)
  (a4:gL P w K r h C.G "why_no_entry" 6 ["self","told"] (D_ K C.G C.L))(Z:gL P w K r h C.G "ways" 1 ["self"] (zI K C))(aa:aW P w K r h "deed_of" 3 ["words","layout"] (yX K C.D C.L))(ao:aW P w K r h "next_ways" 8 ["ways","deeds","layout"] (EA K C.P C.W C.D C.L)):
  aJ P w K r h aR 9 f y ["self","told"] (lR K C (Gq K)):=by?
 refine Fn.go vT ?_;rintro _ _ _ _ _ vs _ _ hr ⟨A,s,ws,u,F,rfl,hF,e,⟨hu,H,hz,kk,rr,cW,c0⟩,k⟩;refine%[_,aw (bp 2 vT (jY a4 hr (by decide) (pv 0) (ai (pv 1))))
  (aw (bW (bY pR (pv 2) (bC G.good) (b_ _)) (au (aF (pv 2))) bZ)
  (aw (oM (i:=3) (own:=[("words",5)]) (te:=oI (yX K C.D C.L) [] E0 (e9 (cf 5) (e9 (fL K (cf 0) "layout") fS))) rfl vT.nd rfl rfl (oN rfl rfl rfl rfl) (cq (pv 1)) (nu rfl) (λ_ _ _ _ _=>bE 5 vT) (λ_ _ _ _ _=>cR) (λ_ _ _ _ _=>aI aa hr (ay (pv 5) (ai (aG (pv 0))))))
  (aw (bp 4 vT (aI ao hr (ay (fM Z hr (by decide) (pv 0)) (ay (pv 3) (ai (aG (pv 0)))))))
  (aw (bW (bY (vd hr.rQ) (pv 4) (bH e_) (b_ _)) (au (aF (bC cL))) bZ)
  (aw (bW (bY oH (cg dG (by rfl) cD du (ai (pv 4))) (bC cP) (b_ _)) (au (aF (bC cM))) bZ)
  (aw (eN (iG (aG (pv 0)) (ai (pv 3))))
  (aw (eN (iG (aG (pv 0)) (ai (pv 4))))
  (au (aF (bC G.good))))))))))|?_]
 obtain⟨es,e1,e2⟩:=e.ea;have U:∀m:Str,m≠"layers"->m≠"entries"->m≠"layout"->(ef (.ref A.ly) (.ref A.ea) (.ref A.ya)).lookup m=aq:=λm a b c=>by simp_all [ef,mr]
 refine%[e.g,U _ (by decide+kernel) (by decide+kernel) (by decide+kernel),A.g,A.dg,A.ea,.ref A.ly,.ref A.ya,u,es,s.lots,s.places,s.bj,jd ws,F,rfl,hF,e.g,e1,e.lay,hu,H,(λl hl z dm=>by grind)|λF1 H1 g1=>?_];have h1:=e.grow g1;have re:=ZM s.store (tl kk) (rr.map tl) c0 (by show(s.ents.map entryOf).length<=40;rw[aY];exact e.ok.many);have ew:tl kk::rr.map tl=ws.map tl:=by rw[cW];rfl
 rw[ew]at re;unfold Oc at re;have wn:gX s.store.lots (s.store.places.map λp=>p.1) (fA (wd "or") (ws.map tl)) s.store.entries.length=gX (s.lots.map tl) (s.places.map tl) ((jd ws).map λws=>ws.map tl) es.length:=by rw[e.ok.vS,show s.store.entries.length=es.length from by rw[bu e2];exact aY _,MI];rfl
 rw[wn]at re;obtain⟨a5,a6⟩:=re;refine%[rfl|⟨?_⟩];by_cases o:gX (s.lots.map tl) (s.places.map tl) ((jd ws).map λws=>ws.map tl) es.length=0
 .rw[o,bT rfl];obtain⟨l,V,l2,l3,I⟩:=a6 o;rw[<-MI]at V l2;obtain⟨c1,c2⟩:=aaL o;rw[aY]at c1;rw[bu e2]at c2;have a7:(jd ws).length=l.length:=by grind [aY]
  obtain⟨dq,ar,rfl,a8,a9,bb⟩:=hu;have J:=g1.same _ _ (hF _ _ a8);have pz:Paired (λv (p:List Str×dM)=>gN F v p.1/\dW s.store (p.1.map tl)=.inr p.2) ar ((jd ws).zip l):=by
   rw[cC]at V;clear l2 I c1 a8 J bb hz H a7 wn a5 a6 o;revert V;generalize jd ws=told at a9;intro V;induction a9 generalizing l with
   |nil=>
    cases l with
    |nil=>exact .nil
    |cons a b=>cases V
   |@cons v x vs xs hv t ih=>
    cases l with
    |nil=>cases V
    |cons a b=>
     rw[cx,cx]at V;obtain⟨p1,p2⟩:=II V;exact .cons %[hv|p1] (ih b (by exact dZ l3) p2)
  refine bt %[%[_|af.of J]|dI (K:=K) (S:=λF v x=>qE K C.D F v x) (R:=λv (p:List Str×dM)=>gN F v p.1/\dW s.store (p.1.map tl)=.inr p.2) (λp=>(%[p.1|p.2]:DE)) g1.sub (af.of J) pz bb (λ_ _ _ _ s q=>q.mono s) ?_ ?_]
  .rintro i v p F' H' hi ⟨hv,av⟩ g Qk kq;obtain⟨z,j,x,kz,kr,kn,pl,ea,mx,ex,N,bo,W,X,br,bz,c3⟩:=Oy (lots:=s.lots) (places:=s.places) rfl e.ok.vS av;refine%[g.same _ _ h1.g,T.cl,T.na,fX _ _ _,z,j,x,s.lots,s.places,s.bj,kz,kr,kn,pl,v,_,F',rfl,g.sub,by rw[<-ea];exact hv.mono (g1.fs.trans g.fs),h1.lay.mono g.same,mx,ex,N,bo,W,X,br|λF2 H2 d g2 q2=>kq _ _ F2 g2 %[_,q2,bz|?_]];exact ea.symm
  .intro F2 H2 D g2 hD;generalize b6:((jd ws).zip l).map (λp=>(%[p.1|p.2]:DE))=n at hD;have b7:n.map (·.bX)=l:=by grind [aaO]
   have c4:n.length=l.length:=by exact len_of_map_eq b7
   have O:∀d∈n,Deed.In s.lots.length s.places.length d.bX/\d.words.map tl=fQ s.store d.bX/\∀z∈d.words,(tl z).length<=8:=λd hd=>by
    rw[<-b6]at hd;obtain⟨p,hp,rfl⟩:=bF.mp hd;obtain⟨i,hi⟩:=List.mem_iff_getElem?.mp hp;obtain⟨v,hv⟩:∃v,ar[i]?=some v:=%[ar[i]'(by grind [bu])|cA _];obtain⟨p',b8,_,av⟩:=dh pz hv;rw[hi]at b8;cases b8;obtain⟨z,j,x,kz,kr,kn,pl,ea,mx,ex,N,bo,W,X,br,bz,c3⟩:=Oy (lots:=s.lots) (places:=s.places) rfl e.ok.vS av
    grind [MW,aaw]
   have az:=g1.trans g2;have h2:=e.grow az;have b9:1<=n.length:=by rw[c4,<-a7];exact wD.mpr (WQ ws [[]] (by simp))
   refine%[h2.g,U _ (by decide+kernel) (by decide+kernel) (by decide+kernel),A,s,F2,rfl,h2|λwv c5=>?_];refine%[h2.g,T.cl,T.na,fX _ _ _,s.ways,n,s.lots,s.places,s.bj,wv,_,_,F2,rfl,az.sub,c5,hD,h2.lay,e.ok.tF _ (bx _),by simp[*],λx mx=>?_,λd hd=>(O d hd).1|λF3 H3 r3 ys S g3 q3 ey er=>?_]
   .obtain⟨a,b,c⟩:=e.ok.zF (bx _) x mx;have:=e.ok.many
    grind
   .have cc:=az.trans g3;have h3:=e.grow cc;have B:(s.fH n).ways=ys++S:=by grind [aaM]
    have ck:fK (s.fH n).store=(s.fH n).ways.map (qW s.pl):=SM.FZ (s:=s.fH n) e.ok.kJ λds c6 d hd=>by
     rcases eF.mp (show ds∈s.ents++[n]from c6)with q|q
     .exact((e.ok.ent ds q).2 d hd).1
     .rw[fJ.mp q]at hd;exact(O d hd).1
    have c7:(s.fH n).store=({s.store with entries:=s.store.entries++[⟨l⟩]}:cH):=by show(%[_,_|(s.ents++[n]).map entryOf]:cH)=%[_,_|s.ents.map entryOf++[⟨l⟩]];rw[cF];show(%[_,_|_++[⟨n.map (·.bX)⟩]]:cH)=_;rw[b7];rfl
    rw[<-c7]at I;dsimp only at I;rw[ck,aY]at I;obtain⟨yl,cm,rfl,c8,cG,dr⟩:=id q3;have E:=bu cG;refine%[bM _|λp4 c9=>?_];have g4:=ag.bD (o:=.lst []) g3.sub c9;have Q:=cc.trans g4;have Y:=e.grow Q;have R:=g4.same _ _ (g3.sub _ _ c8);refine%[yl,cm,p4,rfl,rfl,af.of R,af.of ak|⟨?_⟩];cases cn:cm with
    |nil=>
     rw[cn]at E;have y0:ys=[]:=HZ.mp E.symm;have r0:S=[]:=er (by simp[*]);rw[B,y0,r0]at I;exact a_ (k _ _ _ s _ (Mv.of e Q) Y (.inr %[6,by decide,I,rfl|rfl]))
    |cons a b=>
     rw[cn]at E R cG;have y0:ys≠[]:=λz=>by rw[z]at E;cases E
     have a0:(s.fH n).ways≠[]:=by rw[B];simp[y0]
     have da:((s.fH n).ways.map (qW s.pl)).isEmpty=false:=by
      cases q:(s.fH n).ways with
      |nil=>exact aT q a0
      |cons _ _=>rfl
     rw[da,aE dJ]at I;refine bt %[yl,_,rfl,.inl (af.of R)|⟨⟨?_⟩⟩];rw[E];by_cases big:64<ys.length
     .rw[bT (by exact xb big)];rw[aS (by grind)]at I;exact a_ (k _ _ _ s _ (Mv.of e Q) Y (.inr %[7,by decide,I,rfl|rfl]))
     .rw[bK (by lia)];have r0:S=[]:=er (by exact og big);rw[r0,g9]at B;rw[aE (by rw[B];exact big)]at I;have dd:=e.ok.fH %[b9|by simp[*]] O c2 a0 (by rw[B];exact og big);obtain⟨a3,a1,a2⟩:=Y.ea;obtain⟨cp,b1,b2⟩:=Y.ya;have dt:=(mO e.nd).2.2.2.2.2.2.2.2.2;have ge:A.g≠A.ea:=eA Y.g a1 (by intro z;cases z);have dw:=bu a2;have de:=bu b2;rw[SM.qP]at de;have dx:=e.ok.many;refine bt %[Y.g,T.cl,T.ne,j3 _ _ _,.inl %[rfl,_|af.of a1],a1,eW (by lia)|?_];have g5:(upd (upd H3 p4 (.lst [])) A.ea (.lst (a3++[.ref D]))) A.g=some (.ins C.G A.dg (ef (.ref A.ly) (.ref A.ea) (.ref A.ya))):=by rw[aB ge];exact Y.g
      have cv:(upd (upd H3 p4 (.lst [])) A.ea (.lst (a3++[.ref D]))) A.ya=some (.lst cp):=by grind [aB]
      refine%[g5,T.cl,T.nl,vt _ _ _,.inl %[rfl,_|af.of cv],cv,eW (by lia)|?_];obtain⟨L,M⟩:=Y.OD (s':=s.fH n) Q.sub rfl rfl rfl dd (es:=a3++[.ref D]) (ys:=cp++[.ref yl]) (gM a2 (.cons (mK.up hD g3.fs) .nil)) (by rw[aaN];refine gM b2 (.cons ?_ .nil);rw[B];exact q3)
      exact k _ _ _ _ _ ((Mv.of e Q).trans M) L (.inl %[I|rfl])
 .rw[bK (λz=>o (by injection z))];obtain⟨q,q1,q2⟩:=a5 o;refine a_ (k _ _ _ s _ (Mv.of e g1) h1 (.inr %[q,λz=>o (by rw[q1,z];rfl),q2,q1|rfl]))
theorem Gr(c:Nat):∀l:List Nat,((eM c l).map λw=>w.length+1).sum=l.length+1
 |[]=>rfl
 |x::r=>by?
  have a:=Gr c r;obtain⟨h,t,e⟩:=zE c r;have b:eM c (x::r)=if x=c then[]::(h::t)else(x::h)::t:=by show(match eM c r with|[]=>[[x]]|l::m=>if x=c then[]::(l::m)else(x::l)::m)=_;rw[e]
  grind
theorem Gs:∀(ws:List Str) (a:List (List Str)),a≠[]->(ws.foldl iU a).length=a.length+ws.countP (λz:Str=>decide (z="or"))
 |[],a,_=>rfl
 |z::r,a,h=>by?
  rw[fI];by_cases e:z="or"
  .subst e;rw[yT,Gs r _ (by simp),dB];simp+arith
  .have b:iU a z=a.dropLast++[a.getLastD []++[z]]:=by grind [iU]
   rw[b,Gs r _ (by simp),dB,Ra];have:=wD.mpr h
   simp_all+arith
theorem aaQ:(tl ("or":Str)).length=2:=by decide+kernel
theorem count_le:∀ws:List Str,3*ws.countP (λz:Str=>decide (z="or"))<=((ws.map tl).map λw=>w.length+1).sum
 |[]=>bM _
 |z::r=>by
  have a:=count_le r
  grind [aaQ]
theorem OM:∀(ws:List Str) (a:List (List Str)),∀l∈ws.foldl iU a,∀z∈l,z∈ws\/∃d∈a,z∈d
 |[],a,l,b,z,c=>.inr %[l,b|c]
 |x::r,a,l,b,z,c=>by
  rcases OM r _ l b z c with q|⟨d,e,f⟩
  all_goals grind [iU,IS]
def Gu{κ:List Nat}(h:n∈κ):n<=κ.sum:=by
 induction κ with
 |nil=>cases h
 |cons a r b=>
  (cbv;lia)
abbrev Gv:Stmt:=inClass (top 90) 2
inductive zK(a:Hp)(u:V)(ws:List Str):Prop
 |mk(z:Str)(b:u=.str z)(b:ws=mW z " ")(b:(tl z).length<=3000)
def ON:aV ["self","line","words"] ["self","line"] (aM Gv):=aX
def aaR(Fn:aH K "add_line" "Ledger.add_line" Gv f y)(o:aW P w K r h "told_deeds" 1 ["words"] (MJ K))
  (v:gL P w K r h C.G "add_name" 4 ["self","words"] (lR K C zJ))(j:gL P w K r h C.G "add_entry" 9 ["self","told"] (lR K C (Gq K))):
  aJ P w K r h aR 10 f y ["self","line"] (lR K C zK):=by?
 refine Fn.go ON ?_;rintro _ _ _ _ H _ Q _ N ⟨A,s,ws,u,F,rfl,hF,d,⟨z,rfl,O,hz⟩,k⟩;refine%[_,aw (bp 2 ON (K' (pv 1) cK))
  (aw (bW (PW.pt (kh (bY dY (aQ bA (pv 2) aL (λ_ _=>rfl)) cK (b_ _)) (kh (bY dY (aQ bA (pv 2) aL (λ_ _=>rfl)) cK (b_ _)) (m_ (bY dY (aQ bA (pv 2) aL (λ_ _=>rfl)) cK (b_ _))))))
   (au (aF (jY v N (by decide) (pv 0) (ai (pv 2))))) bZ)
  (au (aF (jY j N (by decide) (pv 0) (ai (aI o N (ai (pv 2))))))))|?_]
 have lz:z.length=(tl z).length:=TL.gU z▸rfl;refine%[%[z|rfl],z,_,rfl,rfl,(by decide+kernel),(by rw[lz];exact gC (eW (by lia)))|λD R=>?_];have T:ws.map tl=eM 32 (tl z):=by simp_all [FW]
 rw[<-O];have sm:=Gr 32 (tl z);rw[<-T]at sm;have wl:ws.length<=3001:=by
  have:∀l:List (List Nat),l.length<=(l.map λw=>w.length+1).sum:=by
   intro l;induction l with
   |nil=>exact bx _
   |cons a e ih=>(cbv;lia)
  grind
 have wz:∀x∈ws,x.cps.size<=1000000:=λx U=>by have:=Gu (g_ (f:=λw:List Nat=>w.length+1) (g_ (f:=tl) U));rw[Dd];lia
 have B:=ag.put (o:=.lst (ws.map V.str)) hF R;have W:=d.grow B;obtain⟨k0,E,X⟩:X2 λk0 E=>ws=k0::E:=by
  cases hw:ws with
  |nil=>
   cbv
  |cons a b=>exact%[a,b|rfl]
 have n:∀m:Str,m≠"layers"->m≠"entries"->m≠"layout"->(ef (.ref A.ly) (.ref A.ea) (.ref A.ya)).lookup m=aq:=λm a b c=>by simp_all [ef,mr]
 have hS:gN (upd F D (.lst (ws.map V.str))) (.ref D) ws:=%[D,rfl,ak|by exact bq (by assumption) (by decide)];have p:(ws.map V.str)[0]?=some (.str k0):=by rw[X];rfl
 have i:(tl k0=wd "lot"\/tl k0=wd "bag"\/tl k0=wd "silo")->uv C.G "add_name" (lR K C zJ) [] E0 (cf 0) (e9 (cf 2) fS) [some (.ref A.g),some (.str z),some (.ref D)] (upd H D (.lst (ws.map V.str))) Q:=λhk=>
  %[W.g,n _ (by decide+kernel) (by decide+kernel) (by decide+kernel),A,s,ws,_,_,rfl,B.sub,W,%[hS,wz,k0,E,X|hk]|λF' H' A' s' Z M L S=>k _ _ _ _ _ ((Mv.of d B).trans M) L S]
 have t:∀g:Str,decide (V.str k0=V.str g)=decide (tl k0=tl g):=λg=>jc;refine%[af.of ak,bg (j:=0) p,rfl|⟨?_⟩];rw[t,Ea];by_cases G:tl k0=wd "lot"
 .rw[bT G];exact a_ (a_ (i (.inl G)))
 rw[bK G];refine bt %[af.of ak,bg (j:=0) p,rfl|⟨?_⟩];rw[t,OI];by_cases I:tl k0=wd "bag"
 .rw[bT I];exact a_ (a_ (i (.inr (.inl I))))
 rw[bK I];refine bt %[af.of ak,bg (j:=0) p,rfl|⟨?_⟩];rw[t,Gi];by_cases J:tl k0=wd "silo"
 .rw[bT J];exact a_ (i (.inr (.inr J)))
 rw[bK J];refine bt %[W.g,n _ (by decide+kernel) (by decide+kernel) (by decide+kernel),ws,_,_,rfl,B.sub,hS,by exact bq (by assumption) (by decide)|λF2 H2 v2 Y q2=>?_];have tc:=Gs ws [[]] (by simp);have cl:=count_le ws;refine%[A,s,ws,v2,F2,rfl,Y.sub,d.grow (B.trans Y),%[q2,?_,λl hl x U=>?_,k0,E,X|λq=>q.elim G λq=>q.elim I J]|λF' H' A' s' Z M L S=>k _ _ _ _ _ ((Mv.of d (B.trans Y)).trans M) L S]
 .show(ws.foldl iU [[]]).length+1<2048
  grind
 .rcases OM ws [[]] l hl x U with q|⟨l',aa,q⟩
  .have:=Gu (g_ (f:=λw:List Nat=>w.length+1) (g_ (f:=tl) q))
   lia
  cbv
def SM.settle(s:SM)(e:Nat)(d:DE):SM:={s with ents:=s.ents.set e [d]}
def Gw(s:SM){a:List DE}{d:DE}(h:s.ents[n]?=some a)(g:a[j]?=some d)(i:Nat):(s.settle n d).lay i=if i<=n then s.lay i else lN n j (s.lay i):=by?
 unfold SM.lay SM.settle;rw[List.take_set];split
 .grind [Qq]
 .rw[Qt];have b:((s.ents.take i).map entryOf)[n]?=some (entryOf a):=by cbv
  have f:(entryOf a).ways[j]?=some d.bX:=by
   show(a.map _)[j]?=_
   cbv
  exact LH _ _ _ _ b f
def aaS(e c:Nat)(a:cB):(lN e c a).length<=a.length:=by grind [lN]
def vU(s:SM)(e:Nat)(d:DE):(s.settle e d).ents.length=s.ents.length:=wB
theorem OO(s:SM){a:List DE}{d:DE}(b:s.ents[n]?=some a)(f:a[j]?=some d):(s.settle n d).ways=lN n j s.ways:=by unfold SM.ways;rw[vU,Gw s b f,aE (by have:=(fP.mp b).1;exact Nat.not_le_of_lt this)]
theorem SM.Ok.settle(h:B.Ok){l:List DE}{d:DE}(o:B.ents[n]?=some l)(m:l[j]?=some d)(ne:lN n j B.ways≠[]):(B.settle n d).Ok:=by?
 have t:∀x,fQ (B.settle n d).store x=fQ B.store x:=λx=>by cases x<;>rfl
 refine%[h.len,h.dH,by rw[vU];exact h.many,h.nm,λp g=>?_,by grind [OO]|λi k=>?_]
 .rcases wI (g)with q|q
  .obtain⟨a,b⟩:=h.ent p q;exact%[a|λd f=>%[(b d f).1,by simp[*]|(b d f).2.2]]
  .rw[q];obtain⟨a,b⟩:=h.ent l (bO o);refine%[%[bx _|(by show 1<=4;decide)]|λx r=>?_];rw[fJ.mp r];have:=b d (bO m);exact%[this.1,by exact this.2.1|this.2.2]
 .rw[vU]at k;rw[Gw B o m];split
  .exact h.tF i k
  .exact bq (aaS ..) (h.tF i k)
def aaT(s:SM){a:List DE}{d:DE}(b:s.ents[n]?=some a)(f:a[j]?=some d):(s.settle n d).gh=s.gh.take (n+1)++(s.gh.drop (n+1)).map (lN n j):=by?
 have g:=(fP.mp b).1;refine tZ λi=>?_;have h:=SM.qP s;rcases om i (s.ents.length+1)with q|q
 .rw[SM.zG _ (by rw[vU];exact oj q),Gw s b f,aeL,jK];split
  .rw[aS (by(cbv;lia)),aeI,aS (by simp_all+arith),SM.zG _ (by exact oj q)]
  .rw[aE (by lia),eJ,AD,show n+1+(i-min (n+1) s.gh.length)=i by lia,SM.zG _ (by exact oj q)];rfl
 .rw[mU (by rw[SM.qP,vU];omega),mU (by rw[dB,jK,aY,q0];(cbv;lia))]
def aaU{R:N->Ξ->Prop}{a:List N}{b:List Ξ}(h:Paired R a b):∀k,Paired R (a.drop k) (b.drop k):=by
 induction h with
 |nil=>intro k;simp;exact .nil
 |cons q t c=>
  intro k;cases k with
  |zero=>exact .cons q t
  |succ k=>exact c k
def aaV(h:j<n):jQ n (j:Int)=some j:=by simp_all [jQ]
abbrev Gx:Stmt:=inClass (top 90) 7
inductive Gy(K:ah)(C:CA)(j:List V)(H:Hp)(Q:VK)(E:XK):Prop
 |mk(A:LA)(s:SM)(e c:Nat)(i:List DE)(d:DE)(F:Hp)(l:j=[.ref A.g,.int e,.int c])(l:aD F H)(l:cN K C F H A s)(l:s.ents[e]?=some i)(l:i[c]?=some d)(l:∀g a h f b,Mv F H A g a h->cN K C g a h f->((b=true/\f=s.settle e d)\/(b=false/\f=s/\lN e c s.ways=[]))->Q (.bl b) a)
def Gz:aV ["self","entry","choice","later","ways"] ["self","entry","choice"] (aM Gx):=aX
def aaW(Fn:aH K "settle" "Ledger.settle" Gx f y)(T:ik K C.G)(u:aW P w K r h "settled" 4 ["ways","entry","choice"] (ED K C.P C.W)):
  aJ P w K r h aR 5 f y ["self","entry","choice"] (Gy K C):=by?
 refine Fn.go Gz ?_;rintro _ _ _ _ _ _ _ _ hr ⟨A,s,e,c,ds,d,F,rfl,hF,a,he,hc,k⟩;refine%[_,aw (oM (i:=3) (own:=[("ways",4)]) rfl Gz.nd rfl rfl (oN rfl rfl rfl rfl) (cq (oJ oK (aG (pv 0)) (lu (bJ jy (pv 1) aL)) uA)) (nu rfl) (λ_ _ _ _ _=>bE 4 Gz) (λ_ _ _ _ _=>cR) (λ_ _ _ _ _=>aI u hr (ay (pv 4) (ay (pv 1) (ai (pv 2))))))
  (aw (bW (bY (vd hr.rQ) (aQ bA (pv 3) (uo uq aL) (λ_ _=>rfl)) (bH e_) (b_ _)) (au (aF m8)) bZ)
  (aw (Jv (bH (ai (aQ bA (aQ bA (aG (pv 0)) (pv 1) (λ_ _=>rfl)) (pv 2) (λ_ _=>rfl)))) (Ju (aG (pv 0)) (pv 1) set_list))
  (aw (fR (pv 0) (bJ eT (oJ oK (aG (pv 0)) uA (lu (bJ jy (pv 1) aL))) (pv 3)) rfl)
  (au (aF m8)))))|?_]
 have aa:=(fP.mp he).1;obtain⟨ys,y1,y2⟩:=a.ya;have ly:=bu y2;rw[SM.qP]at ly;have c2:=a.ok.many;refine%[a.g,T.cl,T.nl,vt _ _ _,af.of y1|λp1 br=>?_];rw[show(e:Int)+1=((e+1:Nat):Int)from by exact AI e,NL];have g1:=ag.bD (o:=.lst (ys.drop (e+1))) hF br;refine%[%[_|af.of ak]|dI (K:=K) (S:=λF v x=>fi K C.P C.W F v x) (R:=fi K C.P C.W F) (lN e c) g1.sub (af.of ak) (aaU y2 (e+1)) (by rw[q0];(cbv;lia)) (λ_ _ _ _ s q=>q.up s) ?_ ?_]
 .rintro i v xs F' H' hi hv g Qk kq;have ao:s.gh[e+1+i]?=some xs:=by rw[<-AD];exact hi
  have Q:e+1+i<=s.ents.length:=by grind [SM.qP]
  rw[SM.zG _ Q]at ao;cases ao;refine%[s.lay (e+1+i),e,c,v,F',rfl,g.sub,hv.up g.fs,λx mx=>?_|λN H2 r2 g2 q2=>kq _ _ N g2 q2];obtain⟨_,_,l3⟩:=a.ok.zF Q x mx;rw[l3];lia
 .rintro N H2 D g2 ⟨D',c3,eD,hD,pD,nD⟩;cases eD;have R:=g1.trans g2;have h2:=a.grow R;have S:s.gh.drop (e+1)=(s.gh.drop (e+1)).dropLast++[s.ways]:=by grind [SM.zH]
  have ar:=pD;rw[S,cF]at ar;obtain⟨B,lw,rfl,_,bz⟩:=OC ar;obtain⟨wl,av,rfl,b6,O,c4⟩:=id bz;have b7:=g2.sub _ _ hD;refine%[af.of b7,xO B (.ref wl),bM _|λp3 b8=>?_];have g3:=ag.bD (o:=.lst []) R.sub b8;have U:=R.trans g3;have h3:=a.grow U;refine%[wl,av,p3,rfl,rfl,af.of (g3.same _ _ (g2.sub _ _ b6)),af.of ak|⟨?_⟩];cases az:av with
  |nil=>
   rw[az]at O;have e0:lN e c s.ways=[]:=HZ.mp (bu O).symm;exact a_ (k _ _ _ s _ (Mv.of a U) h3 (.inr %[rfl,rfl|e0]))
  |cons a0 b0=>
   rw[az]at O;have ne:lN e c s.ways≠[]:=λz=>by have:=bu O;rw[z]at this;cases this
   have b9:=a.ok.settle he hc ne;obtain⟨es,a1,a2⟩:=h3.ea;obtain⟨dl,cc,ck⟩:∃dl,es[e]?=some dl/\mK K C.D N dl ds:=by
    have q:e<es.length:=by rw[bu a2];exact aa
    obtain⟨b,E,j⟩:=dh a2 (cA q)
    grind
   obtain⟨c5,a3,rfl,a4,a5,c1⟩:=ck;obtain⟨dv,cm,cn⟩:∃dv,a3[c]?=some dv/\qE K C.D N dv d:=by
    have q:c<a3.length:=by grind [bu]
    obtain⟨b,E,j⟩:=dh a5 (cA q)
    grind
   refine bt %[h3.g,T.cl,T.ne,j3 _ _ _,af.of a1,bg cc,af.of (g3.same _ _ (g2.sub _ _ a4)),bg cm,dc|λG cp=>?_];have g4:=ag.put (o:=.lst [dv]) g3.sub cp;have V:=U.trans g4;have p:=a.grow V;obtain⟨W,X,a6⟩:=p.ea;have cv:W=es:=by
    have:=g4.same _ _ a1
    grind
   subst cv;refine%[p.g,T.cl,T.ne,j3 _ _ _,X,aaV (by rw[bu a6];exact aa)|?_];have ge:A.g≠A.ea:=eA p.g X (by intro z;cases z);have cD:=(mO a.nd).2.2.2.2.2.2.2.2.2;obtain⟨l,cG,cL⟩:=p.ya;have cM:l=ys:=by
    have:=V.same _ _ y1
    grind
   subst cM;generalize Y:upd (upd (upd H2 p3 (.lst [])) G (.lst [dv])) A.ea (.lst (W.set e (.ref G)))=I;have t:∀{b:ae} {o:HO},b≠A.ea->(upd (upd H2 p3 (.lst [])) G (.lst [dv])) b=some o->I b=some o:=λn q=>by rw[<-Y,aB n];exact q
   have cP:(upd N G (.lst [dv])) A.ea=aq:=p.out _ (by simp[LA.foot]);have s5:aD (upd N G (.lst [dv])) I:=by rw[<-Y];exact nS g4.sub cP
   have g5:I A.g=some (.ins C.G A.dg (ef (.ref A.ly) (.ref A.ea) (.ref A.ya))):=t ge p.g;have y5:I A.ya=some (.lst l):=t cD.symm cG;refine%[g5,T.cl,T.nl,vt _ _ _,af.of y5|λp6 cW=>?_];rw[show(e:Int)+1=((e+1:Nat):Int)from by exact AI e,NK];have D5:I D=some (.lst (B++[.ref wl])):=s5 _ _ (g4.fs _ _ hD);have g6:=ag.bD (o:=.lst (l.take (e+1))) s5 cW;refine%[ak,g6.same _ _ D5,iT (by rw[jK];lia) (by rw[bu pD,aY,q0,SM.qP];lia)|λJ a7=>?_];have g7:=g6.trans (ag.bD (o:=.lst (l.take (e+1)++(B++[.ref wl]))) g6.sub a7);refine%[g7.same _ _ g5,T.cl,T.nl,(by show 3<1000;decide)|?_];rw[OK];have Z:I J=aq:=g6.same.free a7;have pg:J≠A.g:=λz=>by rw[z,g5]at Z;cases Z
   obtain⟨n1,n2,n3,n4,n5,n6,n7,n8,n9,_⟩:=mO a.nd;have gl:A.la≠A.g:=(eA a.g a.la (by intro z;cases z)).symm;have gp:A.pa≠A.g:=(eA a.g a.pa (by intro z;cases z)).symm;have gs:A.sa≠A.g:=(eA a.g a.sa (by intro z;cases z)).symm;have gy:A.ya≠A.g:=(eA a.g y1 (by intro z;cases z)).symm;have le:A.ly≠A.ea:=eA p.ly X (by intro z;cases z);have c0:=t le p.ly;have a8:=t n3 p.la;have a9:=t n6 p.pa;have bb:=t n8 p.sa;have bo:I A.ea=some (.lst (W.set e (.ref G))):=by rw[<-Y];exact ak
   have H:∀{b:ae} {o:HO},b≠A.g->I b=some o->(upd (upd (upd I p6 (.lst (l.take (e+1)))) J (.lst (l.take (e+1)++(B++[.ref wl])))) A.g (.ins C.G A.dg (ef (.ref A.ly) (.ref A.ea) (.ref J)))) b=some o:=λn q=>by rw[aB n];exact g7.same _ _ q
   have gF:(upd N G (.lst [dv])) A.g=aq:=p.out _ (by simp[LA.foot]);have L:cN K C (upd N G (.lst [dv])) (upd (upd (upd I p6 (.lst (l.take (e+1)))) J (.lst (l.take (e+1)++(B++[.ref wl])))) A.g (.ins C.G A.dg (ef (.ref A.ly) (.ref A.ea) (.ref J)))) {A with ya:=J} (s.settle e d):=by
    refine%[ak,H a.lg c0,H gl a8,H gp a9,H gs bb,%[_,H ge.symm bo|?_],%[_,by rw[aB pg];exact ak|?_],λb E=>?_,?_|b9]
    .exact MP e a6 %[G,[dv],rfl,ak,.cons (cn.mono g4.fs) .nil|by show 1<=1000000;decide]
    .rw[aaT s he hc];exact gM (Cp cL _) (cT pD λ_ _ q=>fi.up q g4.fs)
    .unfold LA.foot at E;simp only[cU,ub,or_false]at E;rcases E with rfl|rfl|rfl|rfl|rfl|rfl|rfl
     .exact gF
     .exact p.out _ (by simp[LA.foot])
     .exact p.out _ (by simp[LA.foot])
     .exact p.out _ (by simp[LA.foot])
     .exact p.out _ (by simp[LA.foot])
     .exact p.out _ (by simp[LA.foot])
     .exact s5.free Z
    .have c6:=eZ a8 Z;have c7:=eZ a9 Z;have c8:=eZ bb Z;have c9:=eZ bo Z;simp only[lV,cU,ub,or_false,not_or,rm,and_true,not_false_eq_true];trivial
   have M:Mv (upd N G (.lst [dv])) (upd (upd H2 p3 (.lst [])) G (.lst [dv])) A (upd N G (.lst [dv])) (upd (upd (upd I p6 (.lst (l.take (e+1)))) J (.lst (l.take (e+1)++(B++[.ref wl])))) A.g (.ins C.G A.dg (ef (.ref A.ly) (.ref A.ea) (.ref J)))) {A with ya:=J}:=by
    refine%[aD.refl _,nS g7.sub gF,λb o q n=>?_,λb E=>?_,λb o q=>.inl q,rfl|λb E=>?_]
    .have m:∀x∈A.foot,b≠x:=λx hx z=>n (z▸hx);exact H (m _ (by simp[LA.foot])) (t (m _ (by simp[LA.foot])) q)
    .unfold LA.foot at E⊢;simp only[cU,ub,or_false]at E⊢;rcases E with q|q|q|q|q|q|q
     .exact .inl (.inl q)
     .exact .inl (.inr (.inl q))
     .exact .inl (.inr (.inr (.inl q)))
     .exact .inl (.inr (.inr (.inr (.inl q))))
     .exact .inl (.inr (.inr (.inr (.inr (.inl q)))))
     .simp[*]
     .rw[q];refine .inr ?_;cases q':(upd (upd H2 p3 (.lst [])) G (.lst [dv])) J with
      |none=>rfl
      |some o=>
       grind
    .unfold LA.foot at E;simp only[cU,ub,or_false]at E;rcases E with rfl|rfl|rfl|rfl|rfl|rfl|rfl
     all_goals grind [ak]
   exact k _ _ _ _ _ ((Mv.of a V).trans M) L (.inl %[rfl|rfl])
def aaX{Δ:L2.St}{ζ:List V}{ι:TE}{R:V->N->Prop}{S:Hp->V->Ξ->Prop}{xs:List N}{q:ae->Hp->Prop}(g:N->Ξ)(z:aD J H)(A:af K H l ζ)(hp:Paired R ζ xs)(B:ζ.length<=1000000)
  (mono:∀d f v b,aD d f->S d v b->S f v b)
  (step:∀(i:Nat) (v:V) (x:N) (d c:Hp),xs[i]?=some x->R v x->ag J H d c->∀r:VK,(∀y k s,ag d c s k->S s y (g x)->r y k)->ι ((wipe Δ [j]).set j (some v)) c r)
  (done:∀d c D,H D=aq->ag J H d c->dj (S d) K d (.ref D) (xs.map g)->q D c):
  ∀D,H D=aq->∃W:Nat->Nat->Hp->Prop,(∃m,W 0 m (upd H D (.lst [])))/\∀i m c,W i m c->
   ((iA K l).stop i c/\q D c)\/((iA K l).go i c/\∃n:Hp->Prop,(∀e,n e->∃t,t<m/\W (i+1) t e)/\∀x e,(iA K l).ic i c x e->gH j x (wipe Δ [j]) e λo C=>wipe o [j]=wipe Δ [j]/\jR o C λb u=>
    if b=true then ι o u λy k=>∃acc,k D=some (.lst acc)/\acc.length<bf/\n (upd k D (.lst (acc++[y])))else n u):=by
 intro D w;obtain⟨W,E,G⟩:=dI g z A hp B mono step (λd c I gr h p=>done d c I p gr h) D w;exact%[W,E|λi m c h=>(G i m c h).imp (λ%[a|b]=>%[a|b w]) id]
def ag.drop(g:ag J H ο Ν):ag J H J Ν:=%[g.same,aD.refl _,g.fs.trans g.sub|λa a e=>.inl e]
def tG(a:Hp)(v:V)(x:List Nat):Prop:=∃y:Str,v=.str y/\tl y=x
def tG.strs:∀{d:List V} {f:List (List Nat)},Paired (tG H) d f->∃c:List Str,d=c.map V.str/\c.map tl=f:=by?
 intro i i h;induction h with
 |nil=>exact%[[],rfl|rfl]
 |cons h _ g=>
  obtain⟨y,e,q⟩:=h;obtain⟨c,a,b⟩:=g;exact%[y::c,by rw[e,a];rfl|by rw[<-q,<-b];rfl]
def sl(h:(tl x).length<=1000000):x.length<=bf:=by exact gC (eW h)
def GA(h:cy (tl x)=true):(tl x).length<=8:=by
 unfold cy at h
 grind
def OP:tl ("lot ":Str)=wd "lot"++[32]:=by rfl
def GB:tl (" ":Str)=[32]:=by decide+kernel
def aaY:tl (" or ":Str)=32::(wd "or"++[32]):=by rfl
def zL:tl (jI:Str)=[]:=rfl
theorem zM(a:List Nat):∀l:List (List Nat),(TL.dQ a l).length<=(l.map eI).sum+l.length*a.length
 |[]=>bM _
 |[p]=>by simp[TL.dQ]
 |p::q::r=>by
  have b:=zM a (q::r);show(p++(a++TL.dQ a _)).length<=_
  (cbv;lia)
def sum_bound{l:List Nat}{b:Nat}(h:∀x∈l,x<=b):l.sum<=l.length*b:=by
 induction l with
 |nil=>exact bM _
 |cons a r c=>
  (cbv;lia)
theorem OQ(s:cH)(d:dM):(fQ s d).length<=6:=by cases d<;>(simp[fQ])
abbrev GC:Stmt:=inClass (top 90) 9
abbrev rJoin(K:ah):V->List V->Hp->VK->Prop:=λx c H Q=>X2 λa p=>X1 λ(b:List Str)=>A5 (x=.str a) (c=[.ref p]) (af K H p (b.map V.str)\/bN K H p (b.map V.str)) ((b.map (·.length)).sum+b.length*a.length<=16777216) (Q (.str (pd a b)) H)
inductive GD(K:ah)(C:CA)(b:List V)(H:Hp)(Q:VK)(E:XK):Prop
 |mk(A:LA)(s:SM)(F:Hp)(d:b=[.ref A.g])(d:aD F H)(d:cN K C F H A s)(d:∀c a z,ag F H c a->tl z=IQ s.store->(tl z).length<=20000->Q (.str z) a)
def nU:aV ["self","lines","name","silo","kind","deeds","deed"] ["self"] (aM GC):=aX
def aaZ(Fn:aH K "shown" "Ledger.shown" GC f y)(T:ik K C.G)(o:iI K C.L)(TD:mG K C.D)(az:r "zip"=aq):aJ P w K r h aR 1 f y ["self"] (GD K C):=by?
 refine Fn.go nU ?_;rintro c c c c H vs c c c ⟨A,s,F,rfl,hF,a,k⟩;refine%[_,aw (oM (i:=1) (own:=[("name",2)]) rfl nU.nd rfl rfl (oN rfl rfl rfl rfl) (cq (aG (aG (pv 0)))) (nu rfl) (λc c c c c=>bE 2 nU) (λc c c c c=>cR) (λc c c c c=>Ox (.cons cK (.cons (FY (pv 2)) (.cons cK .nil)))))
  (aw (eO d9 rfl (BK rfl az (ay (aG (aG (pv 0))) (ai (aG (aG (pv 0)))))) (mj rfl (gI (bE 2 nU) (gI (bE 3 nU) mi)))
   (aw (bp 4 nU (rM (eQ (pv 3) (λc=>rfl)) cK cK))
   (au (eN (iG (pv 1) (ai (Ox (.cons (FY (pv 4)) (.cons cK (.cons (FY (pv 2)) (.cons cK .nil)))))))))))
  (aw (eO d9 rfl (cq (aG (pv 0))) (bE 5 nU)
   (au (eN (iG (pv 1) (ai (bJ xJ (xY cK (dC (own:=[("deed",6)]) (te:=xX (rJoin K) (tC (.str " ")) (fL K (cf 6) "words")) nU (cq (pv 5)) (bE 6 nU) cR (xY cK (aG (pv 6))))) cK))))))
  (au (aF (xY cK (pv 1))))))|?_]
 have dH:=a.ok.dH;have a0:=a.la;refine%[a.g,T.cl,T.na,fX _ _ _,a.ly,o.cl,o.nl,lJ _ _ _,%[_|af.of a0]|aaX (K:=K) (S:=tG) (R:=λv (z:Str)=>v=V.str z) (xs:=s.lots) (λz=>wd "lot"++(32::(tl z++[10]))) hF (af.of a0) (oS _) (by rw[aY];lia) (λc c c c c q=>q) ?_ ?_]
 .rintro i v z F' u X rfl g Qk kq;have nl:=GA (a.ok.nm.1 z (bO X));have l1:(tl (jI++("lot ":Str))).length<=4:=by rw[TL.iD,zL,OP];decide
  have Y:tl (jI++("lot ":Str)++z++("\n":Str))=wd "lot"++(32::(tl z++[10])):=by rw[TL.iD,TL.iD,TL.iD,zL,OP,oY];simp
  have l3:(tl (jI++("lot ":Str)++z++("\n":Str))).length<=13:=by grind [TL.iD,oY]
  have l2:(tl (jI++("lot ":Str)++z)).length<=12:=by rw[TL.iD,dB];lia
  exact%[_,rfl,sl (by trivial),_,rfl,sl (by exact bq (by assumption) (by decide)),_,rfl,sl (by exact bq (by assumption) (by decide)),_,rfl,sl (by exact bq (by assumption) (by decide)),sl (by exact bq (by assumption) (by decide))|kq _ _ F' (ag.refl g.sub) %[_,rfl|Y]]
 .rintro F1 H1 D Z a3 ⟨D',vs,eD,hD,pD,nD⟩;cases eD;obtain⟨t,rfl,aa⟩:=tG.strs pD;have g1:=a3.drop;have h1:=a.grow g1;have nD:F D=aq:=hF.free Z;have b7:=a3.sub _ _ hD;have lz:t.length=s.lots.length:=by have:=congrArg eI aa;rw[aY,aY]at this;exact this
  have bz:∀z∈t,(tl z).length<=300:=λz G=>by
   have:=g_ (f:=tl) G;rw[aa]at this;obtain⟨x,M,e⟩:=bF.mp this;have nl:=GA (a.ok.nm.1 x M);rw[<-e,dB,iu,dB];show 3+(_+1+1)<=_
   lia
  refine%[h1.g,T.cl,T.na,fX _ _ _,h1.ly,o.cl,o.np,kF _ _ _,h1.g,T.cl,T.na,fX _ _ _,h1.ly,o.cl,o.ns,yR _ _ _,af.of h1.pa,af.of h1.sa|?_];have c2:=a.ok.len;refine qm (J:=p_ K A.pa A.sa) (n:=s.places.length) (λi σ u=>X4 λ(t:List Str) (N O Q:Option V)=>A6 (σ=[some (.ref A.g),some (.ref D),N,O,Q,aq,aq]) (ag F H F u) (u D=some (.lst (t.map V.str))) (t.map tl=(s.store.lots.map λl=>wd "lot"++(32::(l++[10])))++(s.pl.take i).map (λp=>wd (if p.2=true then "silo" else "bag")++(32::(p.1++[10])))) (∀z∈t,(tl z).length<=300) (t.length=s.lots.length+i))
   %[t,none,none,none,rfl,g1,b7,by rw[aa,Q6,wJ,g9];show _=(s.lots.map tl).map _;rw[cC];rfl,bz|lz] ?_ ?_ ?_
  .rintro σ u ⟨B,N,O,Q,rfl,g,eD,ez,a4,ao⟩;have I:=a.grow g;refine%[%[_,_,af.of I.pa,af.of I.sa| .inl (by rw[aY];exact bx _)]|?_];rw[<-a.ok.kJ,eK]at ez;obtain⟨es,a1,a2⟩:=I.ea;have le:=bu a2;refine%[I.g,T.cl,T.ne,j3 _ _ _,%[_|af.of a1]|iB (K:=K) (a:=A.ea) (xs:=es) (λi σ u=>X5 λ(t:List Str) (N O Q q5:Option V)=>A6 (σ=[some (.ref A.g),some (.ref D),N,O,Q,q5,aq]) (ag F H F u) (u D=some (.lst (t.map V.str))) (t.map tl=(s.store.lots.map λl=>wd "lot"++(32::(l++[10])))++s.pl.map (λp=>wd (if p.2=true then "silo" else "bag")++(32::(p.1++[10])))++((s.ents.take i).map entryOf).map (λe=>TL.dQ (32::(wd "or"++[32])) ((e.ways.map (fQ s.store)).map (TL.dQ [32]))++[10])) (∀z∈t,(tl z).length<=300) (t.length=s.lots.length+s.places.length+i))
    %[B,_,_,_,none,rfl,g,eD,by rw[ez];simp,a4|ao] (λi σ u _ %[_,_,_,_,_,_,g',_,_,_|_]=>by
     obtain⟨b8,b1,c⟩:=(a.grow g').ea;have e':b8=es:=by
      obtain⟨c3,c1,c⟩:=a.ea;have x1:=g'.same _ _ c1;have x2:=g.same _ _ c1
      cbv
     rw[e']at b1;exact af.of b1) ?_ ?_]
   .rintro i v σ H3 X ⟨n,N,O,Q,q5,rfl,g3,J,L,a5,a6⟩;obtain⟨W,E,⟨dl,c4,rfl,b9,cc,ck⟩⟩:=dh a2 X;have cm:=bO E;obtain⟨⟨d1,d4⟩,hd⟩:=a.ok.ent W cm;have cn:=a.ok.many;have c5:=(fP.mp E).1;refine%[.inl %[rfl,_|af.of J]|?_];have S:=g3.same _ _ (hF _ _ b9);refine%[%[_|rfl],%[_|af.of S]|dI (K:=K) (S:=tG) (R:=qE K C.D F) (λd=>TL.dQ [32] (fQ s.store d.bX)) g3.sub (af.of S) cc ck (λc c c c c q=>q) ?_ ?_]
    .rintro j v d F4 H4 hj ⟨dm,ar,c6,cp⟩ g4 Qk kq;obtain⟨e1,Y,e3⟩:=hd d (bO hj);obtain⟨da,c7,wv,kv,c8,rfl,cv,⟨wl,rfl,a7,c9⟩,c,c⟩:=ar;rw[cp]at a7;have a8:=g4.same _ _ (g3.same _ _ (hF _ _ cv));have a9:=g4.same _ _ (g3.same _ _ (hF _ _ a7));have dd:d.words.length<=6:=by grind [OQ]
     have sb:(d.words.map (·.length)).sum<=6*8:=by
      have q:=sum_bound (l:=d.words.map (·.length)) (b:=8) λx M=>by obtain⟨z,G,rfl⟩:=bF.mp M;rw[TL.gU];exact e3 z G
      (cbv;lia)
     refine%[%[_|rfl],a8,TD.cl,TD.nw,Dy _ _ _ _," ",wl,d.words,rfl,rfl,.inl (af.of a9),?_|kq _ _ F4 (ag.refl g4.sub) %[_,rfl|?_]]
     .rw[show(" ":Str).length=1 from by decide+kernel]
      lia
     .rw[TL.join_eq,TL.qa,GB,Y]
    .rintro F4 H4 D4 bb ⟨D5,de,e5,cD,cG,dq⟩;cases e5;obtain⟨m,rfl,av⟩:=tG.strs cG;have g4:=bb.drop;have dr:m.length=W.length:=by have:=congrArg eI av;rw[aY,aY]at this;exact this
     have cL:∀z∈m,(tl z).length<=54:=λz G=>by
      have:=g_ (f:=tl) G;rw[av]at this;obtain⟨d,ar,e⟩:=bF.mp this;obtain⟨e1,Y,e3⟩:=hd d ar;rw[<-e];refine bq (zM _ _) ?_;have w6:=OQ s.store d.bX;have q:=sum_bound (l:=(fQ s.store d.bX).map eI) (b:=8) λx M=>by grind
      (cbv;lia)
     have sb:(m.map (·.length)).sum<=4*54:=by
      have q:=sum_bound (l:=m.map (·.length)) (b:=54) λx M=>by obtain⟨z,G,rfl⟩:=bF.mp M;rw[TL.gU];exact cL z G
      grind
     have bo:(" or ":Str).length=4:=by decide+kernel
     refine%[" or ",D4,m,rfl,rfl,.inl (af.of (bb.sub _ _ cD)),by rw[bo];lia|?_];have ej:tl (pd (" or ":Str) m)=TL.dQ (32::(wd "or"++[32])) (((W.map (·.bX)).map (fQ s.store)).map (TL.dQ [32])):=by rw[TL.join_eq,TL.qa,aaY,av,cC,cC];rfl
     have lj:(tl (pd (" or ":Str) m)).length<=240:=by
      rw[TL.join_eq,TL.qa];refine bq (zM _ _) ?_;rw[aY,<-TL.gU,bo,cC];have:(m.map (eI∘tl)).sum=(m.map (·.length)).sum:=by congr 1
      rw[this]
      lia
     have el:tl (pd (" or ":Str) m++("\n":Str))=TL.dQ (32::(wd "or"++[32])) (((W.map (·.bX)).map (fQ s.store)).map (TL.dQ [32]))++[10]:=by rw[TL.iD,ej,oY]
     refine%[_,_,rfl,rfl,?_|?_]
     .rw[TL.gU,TL.gU,oY];exact gC (eW (by show _+1<=_;exact iP (by assumption) (by decide)))
     .have cM:=g4.same _ _ J;refine%[cM,eW (by rw[aY];lia),n++[pd (" or ":Str) m++("\n":Str)],_,_,_,_,rfl,(g3.trans g4).iE Z nD,by rw[cF];exact ak,?_,λz G=>?_|by rw[dB,a6];rfl]
      .rw[cF,L,take_snoc E,cF,cF,<-lW];congr 1;show[tl _]=[_];rw[el];rfl
      grind
   .rintro σ H3 ⟨n,N,O,Q,q5,rfl,g3,J,L,a5,a6⟩;rw[le,eK]at L;have cn:=a.ok.many;have sb:(n.map (·.length)).sum<=54*300:=by
     have q:=sum_bound (l:=n.map (·.length)) (b:=300) λx M=>by obtain⟨z,G,rfl⟩:=bF.mp M;rw[TL.gU];exact a5 z G
     (cbv;lia)
    have br:("":Str).length=0:=by decide+kernel
    have ez:tl (pd ("":Str) n)=IQ s.store:=by
     rw[TL.join_eq,TL.qa,vc,Ou,L,Z5 s.store (λe he=>?_)]
     .unfold FU;rw[lW];rfl
     .obtain⟨W,E,rfl⟩:=bF.mp (show e∈s.ents.map entryOf from he);have:=(a.ok.ent W E).1.1;intro z;have:(W.map (·.bX)).length=0:=by rw[show W.map (·.bX)=[]from z];rfl
      rw[aY]at this
      cbv
    refine%[%[_|rfl],"",D,n,rfl,rfl,.inl (af.of J),by rw[br];exact bq (by assumption) (by decide)|k _ _ _ g3 ez ?_];rw[TL.join_eq,TL.qa];refine bq (zM _ _) ?_;rw[aY,<-TL.gU,br,cC];have:(n.map (eI∘tl)).sum=(n.map (·.length)).sum:=by congr 1
    rw[this];exact bq (by assumption) (by decide)
  .rintro i σ u X ⟨B,N,O,Q,rfl,g,c⟩;have I:=a.grow g;exact%[_,_,_,_,af.of I.pa,af.of I.sa,cA (by rw[aY];exact X)|cA (by rw[aY];cbv)]
  .rintro i v0 σ u H2 X ⟨B,N,O,Q,rfl,g,eD,ez,a4,ao⟩ ⟨Tn,nv,sv,rfl,nT,rfl,cP,cW⟩;have I:=a.grow g;have e1:=cP _ (af.of I.pa);have Y:=cW _ (af.of I.sa);rw[eJ,cA X]at e1;rw[eJ,cA (by cbv)]at Y;obtain rfl:V.str s.places[i]=nv:=cE e1;obtain rfl:V.bl (s.bj[i]'(by cbv))=sv:=cE Y;generalize eb:s.bj[i]'(by cbv)=b;generalize ep:s.places[i]=z;have gT:=g.trans (ag.bD (o:=.tup [.str z,.bl b]) g.sub nT);have b6:(upd u Tn (.tup [.str z,.bl b])) D=some (.lst (B.map V.str)):=cQ nT _ _ eD;have nl:=GA (a.ok.nm.2 z (by rw[<-ep];exact wL _));refine%[bN.of ak,rfl,rfl|?_];refine%[b,rfl|?_];refine N5 (v:=.str (if b=true then "silo" else "bag")) (λhc R hR=>by subst hc;exact hR) (λhc R hR=>by subst hc;exact hR) ?_;generalize ek:(if b=true then("silo":Str)else "bag")=U;have tk:tl U=wd (if b=true then "silo" else "bag"):=by
    rw[<-ek];cases b with
    |true=>exact Gi
    |false=>exact OI
   have lk:(tl U).length<=4:=by
    rw[tk];cases b with
    |true=>show(wd "silo").length<=4;decide+kernel
    |false=>show(wd "bag").length<=4;decide+kernel
   have el:tl (jI++U++(" ":Str)++z++("\n":Str))=wd (if b=true then "silo" else "bag")++(32::(tl z++[10])):=by rw[TL.iD,TL.iD,TL.iD,TL.iD,zL,tk,GB,oY];simp
   have l1:(tl (jI++U)).length<=4:=by rw[TL.iD,zL];exact lk
   have l2:(tl (jI++U++(" ":Str))).length<=5:=by rw[TL.iD,dB,GB];show _+1<=_;exact QJ l1
   have l3:(tl (jI++U++(" ":Str)++z)).length<=13:=by rw[TL.iD,dB];lia
   have l4:(tl (jI++U++(" ":Str)++z++("\n":Str))).length<=14:=by rw[TL.iD,dB,oY];show _+1<=_;exact QJ l3
   refine%[.inl %[rfl,_|af.of b6],_,rfl,sl (by exact bq (by assumption) (by decide)),_,rfl,sl (by exact bq (by assumption) (by decide)),_,rfl,sl (by exact bq (by assumption) (by decide)),_,rfl,sl (by exact bq (by assumption) (by decide)),_,rfl,sl (by exact bq (by assumption) (by decide)),_,rfl,sl (by exact bq (by assumption) (by decide)),sl (by exact bq (by assumption) (by decide))|?_];refine%[b6,eW (by rw[aY];lia),B++[jI++U++(" ":Str)++z++("\n":Str)],_,_,_,rfl,gT.iE Z nD,by rw[cF];exact ak,?_,λc hy=>?_|by rw[dB,ao];rfl]
   .have c0:s.pl[i]?=some (tl z,b):=by cbv
    rw[cF,ez,take_snoc c0,cF,lW];congr 1;congr 1;show[tl _]=[_];rw[el]
   grind
def aa0{Α:List (List Nat)}{s:cH}{r:List (List (List Nat))}:oo n s (Α::r)=(match ju s Α with
  |.inl k=>.inl (n,k)
  |.inr t=>oo (n+1) t r):=rfl
abbrev GF:Stmt:=top 91
def aa1(K:ah)(C:CA)(H d c:Hp)(r:V):(Nat×Nat)⊕cH->Prop
 |.inl x=>X2 λa la=>A3 (r=.ref a) (c a=some (.tup [.bB,.ref la])) (dO d (.ref la) [(x.1:Int),(x.2:Int)])
 |.inr st=>X3 λa A s=>A5 (r=.ref a) (c a=some (.tup [.ref A.g,.bB])) (cN K C d c A s) (s.store=st) (∀b∈A.foot,H b=aq)
inductive GG(K:ah)(C:CA)(c:List V)(H:Hp)(Q:VK)(E:XK):Prop
 |mk(ns:List Nat)(u:V)(F:Hp)(d:c=[u])(d:aD F H)(d:dO F u (nI ns))(d:ns.length<=2500)(d:∀b a r,ag F H b a->aa1 K C H b a r (oq ns)->Q r a)
def qQ:aV ["text","signs","lines","ledger","number","line","why"] ["text"] (aM GF):=aX
def aa2(Fn:aH K "read_text" "read_text" GF f y)(G:sS r)(a3:r "len"=aq)(E:r "enumerate"=aq)(p:aW P w K r h "signs_of" 1 ["row"] yV)(X:jX P w K r h "Ledger" C.G 4 ["self"] (Gh K C))
  (H:gL P w K r h C.G "add_line" 10 ["self","line"] (lR K C zK)):aJ P w K r h aR 11 f y ["text"] (GG K C):=by?
 refine Fn.go qQ ?_;rintro _ A _ s _ _ _ _ hr ⟨ns,u,F,rfl,hF,hu,hn,k⟩;refine%[_,aw (bp 1 qQ (aI p hr (ai (pv 0))))
  (aw (bp 2 qQ (K' (pv 1) cK))
  (aw (bW (bY pR (Gd (pv 2)) cK (b_ _)) (au (aF (mB (ay j_ (ai (bH (ay (bJ jy (cg dG (by rfl) a3 du (ai (pv 2))) aL) (ai (bC G.yK))))))))) bZ)
  (aw (bp 3 qQ (Cc X hr (by decide) rfl))
  (aw (eO d9 rfl (aah rfl E (ai (pv 2))) (mj rfl (gI (bE 4 qQ) (gI (bE 5 qQ) mi)))
   (aw (bp 6 qQ (jY H hr (by decide) (pv 3) (ai (pv 5))))
   (au (bW (bY pR (pv 6) (bC G.good) (b_ _)) (au (aF (mB (ay j_ (ai (bH (ay (pv 4) (ai (pv 6))))))))) bZ))))
  (au (aF (mB (ay (pv 3) (ai j_)))))))))|?_]
 refine%[ns,u,F,rfl,hF,hu,by exact bq (by assumption) (by decide)|λY n z W ez=>?_];have ck:(tl z).length=ns.length:=by rw[ez,aY]
 have a4:oq ns=oq (tl z):=by rw[ez];exact(ZZ ns).symm
 rw[a4]at k;refine%[%[z|rfl],z,_,rfl,rfl,(by decide+kernel),(by rw[TL.gU];exact gC (eW (by lia)))|λd t=>?_];generalize a5:mW z ("\n":Str)=zs;have Z:zs.map tl=eM 10 (tl z):=by rw[<-a5];exact Z6 z
 have sm:=Gr 10 (tl z);rw[<-Z]at sm;obtain⟨zi,I,rfl⟩:X2 λzi I=>zs=zi++[I]:=by
  cases e:zs.getLast? with
  |none=>
   cbv
  |some x=>
   obtain⟨ys,e2⟩:=aeO.mp e;exact%[ys,x|e2]
 have a6:∀x∈zi,(tl x).length<=3000:=λx hx=>by
  have:=Gu (g_ (f:=λw:List Nat=>w.length+1) (g_ (f:=tl) (mS [I] hx)))
  lia
 have g2:=W.trans (ag.bD (o:=.lst ((zi++[I]).map V.str)) W.sub t);have cc:=W.same.free t;have cm:Y d=aq:=W.sub.free t;refine%[.inl %[rfl,_|af.of ak],d,_,.str I,rfl,rfl,ak,(by simp)|?_];rw[xt,cF,cx,wJ,ae1];have R:=W.trans (ag.bD (o:=.lst (zi.map V.str)) W.sub t);refine%[rfl|⟨?_⟩];rw[jc,vc];have a7:oq (tl z)=if tl I≠[]then .inl (zi.length+1,1)else oo 1 IT ((zi.map tl).map (eM 32)):=by unfold oq;dsimp only;rw[<-Z,cF,cx,wJ,List.getLast?_concat,ae1,dB,aY];simp
 rw[a7]at k;by_cases v:tl I=[]
 .rw[aE (by rw[v];simp)]at k;rw[bT v];refine bt ?_;intro x dx nx nd cn;refine%[x,dx,Y,rfl,?_,R.sub.free nx,ak|λF4 H4 A eg L a8 aa a9 bb bo=>%[rfl|?_]]
  .intro b o e;have e3:=R.sub b o e
   grind [aB]
  have hx:∀b o,(upd n d (.lst (zi.map V.str))) b=some o->H4 b=some o:=λb o e=>a9 b o (by grind [aB]) (eZ e nx);have fr:∀b,(upd (upd (upd n d (.lst (zi.map V.str))) dx (.own x)) x (.ins C.G dx [])) b=aq->(upd n d (.lst (zi.map V.str))) b=aq:=λb e=>by grind [aB]
  have g4:ag Y (upd n d (.lst (zi.map V.str))) F4 H4:=%[hx,a8,aa|λb o e=>(bo b o e).imp id (fr b)];have J:∀b∈A.foot,(upd n d (.lst (zi.map V.str))) b=aq:=λb hb=>(bb b hb).elim (λe=>by rw[e];exact nx) (fr b);subst eg;have br:H4 d=some (.lst (zi.map V.str)):=hx _ _ ak;refine%[d,_,rfl,af.of br|?_];refine qm (J:=FX K d) (n:=zi.length) (λi σ H'=>X6 λ(S:Hp) (l:LA) (s:SM) (q4 q5 q6:Option V)=>A6 (σ=[some u,some (.str z),some (.ref d),some (.ref A.g),q4,q5,q6]) (l.g=A.g) (ag Y (upd n d (.lst (zi.map V.str))) S H') (cN K C S H' l s) (∀b∈l.foot,(upd n d (.lst (zi.map V.str))) b=aq) (oo 1 IT ((zi.map tl).map (eM 32))=oo (i+1) s.store (((zi.drop i).map tl).map (eM 32))))
   %[F4,A,SM.none,none,none,none,rfl,rfl,g4,L,J|rfl] ?_ ?_ ?_
  .rintro σ H' ⟨S,l,s,q4,q5,q6,rfl,j,g,L',ft,D⟩;refine%[%[_,af.of (g.same _ _ ak)|by simp]|?_];rw[adt]at D;have M:oo 1 IT ((zi.map tl).map (eM 32))=.inr s.store:=D;rw[M]at k;refine%[fV|λp5 N=>?_];have B:=ag.bD (o:=.tup [.ref A.g,.bB]) g.sub N;have ao:=(R.trans g).trans B;refine k _ _ _ ao %[p5,l,s,rfl,by rw[j];exact ak,L'.grow B,rfl|λb hb=>R.same.free (ft b hb)]
  .rintro i σ H' hi ⟨S,l,s,q4,q5,q6,rfl,j,g,_⟩;exact%[_,_,af.of (g.same _ _ ak)|cA (by cbv)]
  .rintro i v0 σ H' H2 hi ⟨S,l,s,q4,q5,q6,rfl,j,g,L',ft,D⟩ ⟨Tn,lv,rfl,nT,rfl,hT⟩;have el:=hT _ (af.of (g.same _ _ ak));rw[eJ,cA hi]at el;obtain rfl:V.str zi[i]=lv:=cE el;generalize ar:zi[i]=O;have T:=g.trans (ag.bD (o:=.tup [.int ((i:Nat)+1:Int),.str O]) g.sub nT);have av:=L'.grow (ag.bD (o:=.tup [.int ((i:Nat)+1:Int),.str O]) g.sub nT);have bz:zi.drop i=O::zi.drop (i+1):=by rw[tU hi,ar]
   have b6:=a6 O (by exact List.mem_of_getElem ar);have az:∀m:Str,m≠"layers"->m≠"entries"->m≠"layout"->(ef (.ref l.ly) (.ref l.ea) (.ref l.ya)).lookup m=aq:=λm a b c=>by simp_all [ef,mr]
   refine%[bN.of ak,rfl,rfl|?_];refine%[by rw[<-j];exact av.g,az _ (by decide+kernel) (by decide+kernel) (by decide+kernel),l,s,mW O " ",.str O,S,by rw[j];rfl,T.sub,av,%[O,rfl,rfl|b6]|λF5 H5 A5 s5 cp U L5 S5=>?_];have a0:∀b∈l.foot,(upd n d (.lst (zi.map V.str))) b=aq:=ft;have B:ag Y (upd n d (.lst (zi.map V.str))) F5 H5:=by
    refine%[λb o e=>U.keep b o (T.same b o e) (λm=>by rw[a0 b m]at e;cases e),T.fs.trans U.fs,U.sub|λb o e=>?_];rcases U.nw b o e with q|q
    .exact T.new b o q
    .exact .inr (T.same.free q)
   have b7:∀b∈A5.foot,(upd n d (.lst (zi.map V.str))) b=aq:=λb hb=>(U.new b hb).elim (a0 b) λq=>T.same.free q;have b8:A5.g=A.g:=U.gg.trans j;rw[bz,cx,cx,aa0,<-FW]at D;refine%[rfl|⟨?_⟩];rcases S5 with⟨r1,rfl⟩|⟨kk,k0,r1,rfl,rfl⟩
   .rw[bT rfl];rw[r1]at D;exact bt %[F5,A5,s5,_,_,_,rfl,b8,B,L5,b7|D]
   .rw[bK (λe=>k0 (by cbv))];rw[r1]at D;refine a_ %[fV|λp6 Q=>?_];have g6:=B.trans (ag.put (o:=.lst [.int ((i:Nat)+1:Int),.int (kk:Int)]) B.sub Q);refine%[fV|λp7 b9=>?_];have g7:=g6.trans (ag.bD (o:=.tup [.bB,.ref p6]) g6.sub b9);refine k _ _ _ (R.trans g7) ?_;have M:oo 1 IT ((zi.map tl).map (eM 32))=.inl (i+1,kk):=D;rw[M];exact%[p7,p6,rfl,ak,p6,rfl,ak|by simp]
 .rw[aS v]at k;rw[bK v];refine a_ %[d,_,rfl,.inl (af.of ak),fV|λp5 N=>?_];rw[aY];have B:=R.trans (ag.put (o:=.lst [.int ((zi.length:Int)+1),.int 1]) R.sub N);refine%[fV|λp6 Q=>?_];have g6:=B.trans (ag.bD (o:=.tup [.bB,.ref p5]) B.sub Q);exact k _ _ _ g6 %[p6,p5,rfl,ak,p5,rfl,ak|by simp]
def vV(K:ah)(a b:ae):It:=
 %[λi H=>X4 λ(c d:List V) (x y:V)=>A4 (bN K H a c) (af K H b d) (c[i]?=some x) (d[i]?=some y),
  λi H v e=>X3 λT x y=>A5 (v=.ref T) (H T=none) (e=upd H T (.tup [x,y])) (∀c,bN K H a c->c[i]?=some x) (∀d,af K H b d->d[i]?=some y)|
  λi H=>X2 λ(c d:List V)=>A3 (bN K H a c) (af K H b d) (i=c.length\/(i<c.length/\i=d.length))]
def aa3{D L z ε:ae}{p:Pos}(m:Apart z D l L ε [L,a] [ε,f]):
  Turn P w K (.Tuple ξ n p) (vV K a f) [z,D,l,L,ε] z (λi h=>IsZip h z D l .none/\d_ h D (.ref L) (.ref ε)/\(X2 λx y=>d_ h l x y)/\h.IsTupleIter L a i/\h.IsListIter ε f i) where
 mem:=by simp
 obj:=λi h st c W=>by
  obtain⟨R,J,⟨x,y,S⟩,⟨o1,M,b,d1⟩,⟨o2,N,b,d2⟩⟩:=st;rcases sL W with r|r|r|r|r<;>rw[r]
  all_goals cbv
 keep:=λi h h' st k=>by obtain⟨R,J,⟨x,y,S⟩,⟨o2,N,r2⟩,O⟩:=st;exact%[k z (by simp) _ R,k D (by simp) _ J,%[x,y|k l (by simp) _ S],%[o2,k L (by simp) o2 N|r2]|O.at λo d=>k ε (by simp) o d]
 item:=by?
  intro X hP hw hK W i aa s σ H E I hf st hg;subst hP hw hK;obtain⟨R,J,⟨x0,y0,S⟩,U,O⟩:=st;obtain⟨xs,ys,x,y,B,C,hx,hy⟩:=hg;obtain⟨t,rv,pt,b⟩:=I.tuple B;obtain⟨F,T,pl,b⟩:=I.list C;obtain⟨u,hu,ru⟩:=rv.get hx;obtain⟨u2,ao,ar⟩:=T.get hy;have Y:X.A.in1.handled=none:=I.ok.hd W;have zl:z<↥s:=bU R;have na:a≠L:=λe=>by
   obtain⟨o,M,c1,d1⟩:=U;obtain⟨o',N,c2,b⟩:=(show s.heap.IsTuple a t.toArray from pt)
   grind
  have nb:f≠ε:=λe=>by
   obtain⟨o,M,c1,d1⟩:=O;obtain⟨o',n',N,c2,b⟩:=pl
   grind
  have li:i<t.toArray.size:=by exact(fP.mp (by assumption)).1
  have av:i<F.toArray.size:=by exact(fP.mp (by assumption)).1
  refine Mu (yN Y L a na t.toArray) (wV Y ε f nb F.toArray) m R J S %[U|pt] %[O|pl.isList] li av λvx vy g tk px py z1 o1 sa sb nT sz G=>?_;have ex:vx=u:=cE (px.symm.trans (by simpa using hu));have ey:vy=u2:=cE (py.symm.trans (by simpa using ao));subst ex ey;refine%[_,rfl|wpAny_letOwnedTupleGo_zip (s:={s with heap:=g,toks:=tk}) z1 λg2 z2 V=>?_];have az:=(V.2 _ (j5 zl)).trans nT;have new:eB X.prog X.w (upd H ↥s (.tup [x,y])) g2 ↥s (.tup [x,y]):=
   %[by show 2<=bf;decide,[vx,vy],.cons ru (.cons ar .nil)|%[_,az,rfl,_|rfl]]
  have I1:=
   I.uH (t':=tk) (ch:=[z,D,l,L,ε]) (λc o v d=>(V.2 c (λe=>v (by simp[e]))).trans (G c o (λe=>v (by simp[e])) (λe=>v (by simp[e])) (λe=>v (by simp[e])) (λe=>v (by simp[e])) d)) hf (bx _) new
  have pz:L≠z:=dU m.za m.ma;have qz:ε≠z:=dU m.zb m.mb;refine%[.ref ↥s,_,I1,rfl,%[_,x,y,rfl,I.aU.fresh (bx _),rfl,λj hl=>by rw[I.Jp hl B];exact hx|λj hl=>by rw[I.pP hl C];exact hy],%[z2,?_,%[vx,vy|?_],?_|?_]|λc Z=>?_]
  .exact(V.2 _ m.zi).trans (G _ _ m.zi m.io (dU m.ia m.ma).symm (dU m.ib m.mb).symm J)
  .exact(V.2 _ m.zo).trans o1
  .obtain⟨o,M,r1⟩:=sa.1;exact%[o,(V.2 _ pz).trans M|r1]
  .exact sb.1.at λo d=>(V.2 _ qz).trans d
  .have lt:c<↥s:=by
    rcases sL Z with r|r|r|r|r<;>rw[r]
    .exact zl
    .exact bU J
    .exact bU S
    .obtain⟨b,M,b⟩:=U;exact bU M
    .obtain⟨b,N,b⟩:=O;exact bU N
   rw[aB (dn lt)];exact(hf c Z).1
 done:=by
  intro X hP hw hK W i aa s σ H E I hf st hg;subst hP hw hK;obtain⟨R,J,⟨x0,y0,S⟩,U,O⟩:=st;obtain⟨xs,ys,B,C,a0⟩:=hg;obtain⟨t,rv,pt,b⟩:=I.tuple B;obtain⟨F,T,pl,b⟩:=I.list C;have Y:X.A.in1.handled=none:=I.ok.hd W;have l1:=rv.length;have l2:=T.length;have na:a≠L:=λe=>by
   obtain⟨o,M,c1,d1⟩:=U;obtain⟨o',N,c2,b⟩:=(show s.heap.IsTuple a t.toArray from pt)
   grind
  have nb:f≠ε:=λe=>by
   obtain⟨o,M,c1,d1⟩:=O;obtain⟨o',n',N,c2,b⟩:=pl
   grind
  refine Mw (yN Y L a na t.toArray) (wV Y ε f nb F.toArray) m R J S %[U|pt] %[O|pl.isList] (by cbv) λg tk G=>?_;exact%[rfl|I.BD (t':=tk) (ch:=[z,D,l,L,ε]) (λc o v d=>G c o (λe=>v (by simp[e])) (λe=>v (by simp[e])) (λe=>v (by simp[e])) (λe=>v (by simp[e])) d) hf]
 self:=λA i s Q E st h=>xn st.1 h
abbrev vW(h:ax)(l:ae):ax:=h.push {cls:=.type "tuple_iterator",data:=.fields #[.ref l,.int 0 0]}
abbrev zO(h:ax)(l m:ae):ax:=(vW h l).push {cls:=.type "list_iterator",data:=.fields #[.ref m,.int 0 0]}
abbrev zP(h:ax)(l m:ae):ax:=(zO h l m).push {cls:=.type "tuple",data:=.seq #[.ref h.objs.size,.ref (vW h l).objs.size]}
abbrev zQ(h:ax)(l m:ae):ax:=(zP h l m).push {cls:=.type "tuple",data:=.seq #[.none,.none]}
abbrev tH(h:ax)(l m:ae):ax:=(zQ h l m).push {cls:=.type "zip",data:=.fields #[.none,.bool false,.bool false,.ref (zO h l m).objs.size,.ref (zP h l m).objs.size]}
def aa4(l m:ae)(i a:Array Value):Meets (Builtin.«zip.__new__» %[[.type "zip",.ref l,.ref m]|[]]) (λj R s=>s.heap.IsTuple l i/\s.heap.IsList m a/\R (.ok (.ret (.ref (zQ s.heap l m).objs.size))) {s with heap:=tH s.heap l m}):=
 .of_wp λprog w A R s h=>by?
  obtain⟨hp,g,d,tk,os⟩:=s;obtain⟨b,f,h⟩:=h;have sz:=sub_zip;have c:=b;have e:Heap.IsList (Shared.heap %[vW hp l,g,d,tk|os]) m a:=Heap.IsList.push f _
  wp_walk using wpAny_pyIter_tuple c,xk e
  exact%[_,rfl|h]
def aa5{A:Around}{E Q:Value->aj->Prop}{s:aj}{Ρ j:Array Value}(r:s.heap.IsTuple l Ρ)(u:s.heap.IsList a j)
  (b:∀g,IsZip g (↥s+4) (↥s+2) (↥s+3) .none->d_ g (↥s+2) (.ref ↥s) (.ref (↥s+1))->
   d_ g (↥s+3) .none .none->g.IsTupleIter ↥s l 0->g.IsListIter (↥s+1) a 0->(∀c o,s.heap.get? c=some o->g.get? c=some o)->Q (.ref (↥s+4)) {s with heap:=g}):
  wpAny (model P w) A (call (.type "zip") [.ref l,.ref a]) Q E s:=by?
 refine callType_new F.called_zip (by decide) (F.typeCall_zip_2 _ _) (F.newCall_zip_2 _ _) (λobj=>ad9 obj _ _) F.entry_zip_new (aa4 l a Ρ j) %[r,u|?_];have d:(vW s.heap l).objs.size=↥s+1:=eG ..;have f:(zO s.heap l a).objs.size=↥s+2:=by rw[eG,d]
 have h:(zP s.heap l a).objs.size=↥s+3:=by rw[eG,f]
 have k:(zQ s.heap l a).objs.size=↥s+4:=by rw[eG,h]
 have i:(tH s.heap l a).get? (zQ s.heap l a).objs.size=some _:=cV _ rfl;have n:(tH s.heap l a).get? (zP s.heap l a).objs.size=some _:=bL _ (cV _ rfl);have p:(tH s.heap l a).get? (zO s.heap l a).objs.size=some _:=bL _ (bL _ (cV _ rfl));have q:(tH s.heap l a).get? (vW s.heap l).objs.size=some _:=bL _ (bL _ (bL _ (cV _ rfl)));have t:(tH s.heap l a).get? ↥s=some _:=bL _ (bL _ (bL _ (bL _ (cV _ rfl))));show _/\_;rw[f,h,k]at i;rw[d,f]at p;rw[h]at n;rw[d]at q;rw[k];refine%[%[_,i|rfl]|?_];exact b _ i p n %[_,t,rfl|rfl] %[_,q,rfl|rfl] λc o e=>bL _ (bL _ (bL _ (bL _ (bL _ e))))
inductive aa6(R:It->Hp->Prop)(K:ah)(d:List V)(c:Hp):Prop
 |mk a b xs e(f:d=[.ref a,.ref b])(f:bN K c a xs)(f:af K c b e)(f:R (vV K a b) c)
def aa7(K:ah)(a:TA):TI:=λσ H R=>a σ H λb c=>aa6 R K b c
def aa8{M p Β:Pos}{X:Cx}{b e:Expr}{t:TA}(u:Gl X "zip")(P:X.mg "zip"=aq)(v:PA X [e,b] t)
  (w:bP [e,b] X.env=(false,eval e X.env)::bP [b] X.env:=by rfl)(l:(backTo M (bP [b] X.env)).any (·.1)=false:=by rfl):
  PI X (.Tuple ξ n Β) (.Call (.Name "zip" p) [e,b] [] M) (aa7 X.K t):=by?
 intro j s σ H R I h;refine Call_ (m9 I u P BJ (tR (aZ (v M j s σ H _ I h) λV f %[Q,O,i,x,a,d,W,S,ex,y,z|k]=>?_) w l));subst ex;obtain⟨T,U,rfl,A,B⟩:=Vals.two x;cases A;cases B;obtain⟨C,Y,pt,Y⟩:=i.tuple y;obtain⟨D,Y,pl,Y⟩:=i.list z;have E:=pl.lt;have la:a<↥f:=by obtain⟨o,e,Y⟩:=(pt);exact bU e
 refine aa5 pt pl.isList λg q F G J K m=>xn q ?_;have L:=i.kept (t':=f.toks) m;refine%[↥f+4,[↥f+4,↥f+2,↥f+3,↥f,↥f+1],_,_,O,rfl,L,aa3 (Mx ↥f a d la E),%[q,F,%[_,_|G],J|K],λc N=>?_|k];have le:↥f<=c:=by rcases sL N with r|r|r|r|r<;>rw[r]<;>first|exact bx _|exact wW _ _
 exact i.ni le (i.aU.fresh le)
def aa9{Δ:L2.St}{Ε:TT}{Ζ ζ:List V}{ι:TE}{S:Hp->V->N->Prop}{R:ae->Hp->Prop}(out:V->V->Option N)(Z:n≠j)
  (hF:aD J H)(l:bN K H a ζ)(o:af K H f Ζ)(hn:ζ.length<=1000000)(Y:ζ.length=Ζ.length)
  (mono:∀d q v b,aD d q->S d v b->S q v b)
  (step:∀(v w:V) (d c:Hp),v∈ζ->w∈Ζ->ag J H d c->∀(G:VK) (I:Hp->Prop),(∀r p B b,out v w=some b->ag d c B p->S B r b->G r p)->(∀k L,out v w=aq->ag d c L k->I k)->
   Ε (((wipe Δ [n,j]).set n (some v)).set j (some w)) c λb k=>if b=true then ι (((wipe Δ [n,j]).set n (some v)).set j (some w)) k G else I k)
  (done:∀d c D,ag J H d c->dj (S d) K d (.ref D) ((ζ.zip Ζ).filterMap λx=>out x.1 x.2)->R D c):
  ∀D,H D=aq->∃W:Nat->Nat->Hp->Prop,(∃m,W 0 m (upd H D (.lst [])))/\∀i m c,W i m c->
   ((vV K a f).stop i c/\R D c)\/((vV K a f).go i c/\∃M:Hp->Prop,(∀g,M g->∃U,U<m/\W (i+1) U g)/\∀x g,(vV K a f).ic i c x g->oG K 2 (lq (gH n) (lq (gH j) rN)) x (wipe Δ [n,j]) g λO H2=>wipe O [n,j]=wipe Δ [n,j]/\Ε O H2 λb k=>
    if b=true then ι O k λy p=>∃acc,p D=some (.lst acc)/\acc.length<bf/\M (upd p D (.lst (acc++[y])))else M k):=by?
 have A:∀i,i<ζ.length->X2 λ(v w:V)=>A2 (ζ[i]?=some v) (Ζ[i]?=some w):=λi s=>
  %[_,_,cA s|cA (by cbv)]
 refine qk (K:=K) (λi=>((ζ.zip Ζ)[i]?).bind λx=>out x.1 x.2) hF hn mono ?_ ?_ ?_ ?_
 .intro c t;exact%[ζ,Ζ,t.gK l,t.seq o| .inl rfl]
 .intro i c s t;obtain⟨v,w,C,E⟩:=A i s;exact%[ζ,Ζ,v,w,t.gK l,t.seq o,C|E]
 .rintro i d c s gr x0 g ⟨T,u,z,rfl,nT,rfl,q1,q2⟩ G I kk kn;obtain⟨v,w,C,E⟩:=A i s;have ev:u=v:=cE ((q1 _ (gr.same.gK l)).symm.trans C);have ew:z=w:=cE ((q2 _ (gr.same.seq o)).symm.trans E);subst ev ew;have X:((ζ.zip Ζ)[i]?).bind (λx=>out x.1 x.2)=out u z:=by cbv
  have Q:=ag.bD (o:=.tup [u,z]) gr.sub nT;refine%[bN.of ak,rfl,rfl,?_|?_]
  .show(((((Δ.set j none).set n none).set n (some u)).set j (some z)).set j none).set n none=(Δ.set j none).set n none;rw[List.set_set,List.set_set,List.set_comm _ _ Z,List.set_set,List.set_set]
  .refine step u z d _ (bO C) (bO E) (gr.trans Q) _ _ (λr p B b P g4 hs=>kk r p B b (X.trans P) (Q.trans g4) hs) λk L P g3=>kn k L (X.trans P) (Q.trans g3)
 .intro d c D gr h;refine done d c D gr ?_;have e:(bV ζ.length).filterMap (λi=>((ζ.zip Ζ)[i]?).bind λx=>out x.1 x.2)=(ζ.zip Ζ).filterMap λx=>out x.1 x.2:=by
   have hz:ζ.length=(ζ.zip Ζ).length:=by cbv
   have r:=qo _ ζ.length (qZ hz)
   grind
  rw[e]at h;exact h
end
def cnt(s:SM)(k:Str):Nat:=if k="lot" then s.lots.length else if k="place" then s.places.length else if k="entry" then s.ents.length else if k="way" then s.ways.length else eX s.ways
def there(s:SM)(k:Str)(n:Int):Bool:=decide (0<=n)&&decide (n<(cnt s k:Nat))
def gZ(s:SM)(ks:List Str)(ns:List Int):Bool:=(ks.zip ns).all λp=>decide (p.1="free")||there s p.1 p.2
abbrev iX(P:aC)(w:World)(K:ah)(mg:Str->Option Value)(base:ax)(C:CA):Prop:=gL P w K mg base C.G "ways" 1 ["self"] (zI K C)
def vX{m:Str}(a b c:V)(d:m≠"layers")(e:m≠"entries")(f:m≠"layout"):(ef a b c).lookup m=aq:=by simp_all [ef,mr]
def gO(a b c:V):(ef a b c).lookup ("ways":Str)=aq:=vX _ _ _ (by decide+kernel) (by decide+kernel) (by decide+kernel)
abbrev GH:Stmt:=top 119
inductive GI(K:ah)(C:CA)(b:List V)(H:Hp)(Q:VK)(E:XK):Prop
 |mk(A:LA)(s:SM)(k:Str)(F:Hp)(d:b=[.ref A.g,.str k])(d:aD F H)(d:cN K C F H A s)(d:∀c a,ag F H c a->Q (.int (cnt s k:Nat)) a)
def aa_:aV ["ledger","kind"] ["ledger","kind"] (aM GH):=aX
section
variable{G:WR}{S φ:Int}{Z:Rat}{mg:Str->Option Value}{pl:List (rA×Bool)}{Θ:List Rat}
def aa'(z:aH K "how_many" "how_many" GH f y)(T:ik K C.G)(i:iI K C.L)(d:r "len"=aq)(g:iX P w K r h C)(l:aW P w K r h "most_sold" 1 ["ways"] (sZ K C.P C.W)):
  aJ P w K r h aR 2 f y ["ledger","kind"] (GI K C):=by?
 refine z.go aa_ ?_;rintro J J J J J J J J u ⟨A,s,m,F,rfl,v,a,k⟩;refine%[_,aw (bW (bY dY (pv 1) cK (b_ _)) (au (aF (cg dG (by rfl) d du (ai (aG (aG (pv 0))))))) bZ)
  (aw (bW (bY dY (pv 1) cK (b_ _)) (au (aF (cg dG (by rfl) d du (ai (aG (aG (pv 0))))))) bZ)
  (aw (bW (bY dY (pv 1) cK (b_ _)) (au (aF (cg dG (by rfl) d du (ai (aG (pv 0)))))) bZ)
  (aw (bW (bY dY (pv 1) cK (b_ _)) (au (aF (cg dG (by rfl) d du (ai (fM g u (by decide) (pv 0)))))) bZ)
  (au (aF (aI l u (ai (fM g u (by decide) (pv 0)))))))))|?_]
 have j:=k _ _ (ag.refl v);have n:∀b:Str,decide (V.str m=V.str b)=decide (m=b):=λb=>decide_eq_decide.mpr %[λe=>by injection e|λe=>by rw[e]];unfold cnt at j k;refine%[rfl|⟨?_⟩];rw[n];by_cases o:m="lot"
 .rw[bT o];rw[aS o]at j;refine a_ %[a.g,T.cl,T.na,fX _ _ _,a.ly,i.cl,i.nl,lJ _ _ _,A.la,_,rfl,.inl (af.of a.la)|?_]
  cbv
 rw[bK o];rw[aE o]at j k;refine bt %[rfl|⟨?_⟩];rw[n];by_cases p:m="place"
 .rw[bT p];rw[aS p]at j;refine a_ %[a.g,T.cl,T.na,fX _ _ _,a.ly,i.cl,i.np,kF _ _ _,A.pa,_,rfl,.inl (af.of a.pa)|?_]
  cbv
 rw[bK p];rw[aE p]at j k;refine bt %[rfl|⟨?_⟩];rw[n];by_cases q:m="entry"
 .rw[bT q];rw[aS q]at j;obtain⟨G,D,I⟩:=a.ea;refine a_ %[a.g,T.cl,T.ne,j3 _ _ _,A.ea,_,rfl,.inl (af.of D)|?_]
  grind [bu]
 rw[bK q];rw[aE q]at j k;refine bt %[rfl|⟨?_⟩];rw[n];by_cases t:m="way"
 .rw[bT t];rw[aS t]at j;refine a_ %[a.g,gO _ _ _,A,s,F,rfl,a|λc %[E,B,e,x,H|_]=>?_];subst e;refine%[E,_,rfl,.inl (af.of (v _ _ x))|?_]
  grind [bu]
 rw[bK t];rw[aE t]at k;exact bt %[a.g,gO _ _ _,A,s,F,rfl,a|λc x=>%[s.ways,c,F,rfl,v,x,a.ok.ne|k]]
abbrev GJ:Stmt:=top 120
inductive vY(K:ah)(C:CA)(b:List V)(H:Hp)(Q:VK)(E:XK):Prop
 |mk(A:LA)(s:SM)(k:Str)(n:Int)(F:Hp)(d:b=[.ref A.g,.str k,.int n])(d:aD F H)(d:cN K C F H A s)(d:∀c a,ag F H c a->Q (.bl (there s k n)) a)
def aba:aV ["ledger","kind","number"] ["ledger","kind","number"] (aM GJ):=aX
def abb(e:aH K "is_there" "is_there" GJ f y)(b:aW P w K r h "how_many" 2 ["ledger","kind"] (GI K C)):aJ P w K r h aR 3 f y ["ledger","kind","number"] (vY K C):=by?
 refine e.go aba ?_;rintro l l l l l l l l g ⟨A,s,i,n,F,rfl,c,a,k⟩;refine%[_,au (aF (Bd rP ur aL (pv 2) (aI b g (ay (pv 0) (ai (pv 1))))))|?_];unfold there at k;refine%[_,rfl|?_];by_cases d:(0)<=n
 .rw[bT d]at k⊢;exact a_ %[A,s,i,F,rfl,c,a|λl m j=>⟨k _ _ j⟩]
 .rw[bK d]at k⊢;exact bt (k _ _ (ag.refl c))
abbrev GK:Stmt:=top 121
inductive GL(K:ah)(C:CA)(c:List V)(H:Hp)(Q:VK)(E:XK):Prop
 |mk(A:LA)(s:SM)(ks:List Str)(ns:List Int)(b:ae)(u:V)(F:Hp)(e:c=[.ref A.g,.ref b,u])(e:aD F H)(e:cN K C F H A s)(e:∀a,bN K a b (ks.map V.str))(e:dO F u ns)(e:ks.length=ns.length)(e:∀d a,ag F H d a->Q (.bl (gZ s ks ns)) a)
def zR:aV ["ledger","kinds","numbers","kind","number"] ["ledger","kinds","numbers"] (aM GK):=aX
def abc(I:aH K "are_there" "are_there" GK f y)(i:r "all"=aq)(j:r "zip"=aq)(o:aW P w K r h "is_there" 3 ["ledger","kind","number"] (vY K C)):aJ P w K r h aR 4 f y ["ledger","kinds","numbers"] (GL K C):=by?
 refine I.go zR ?_;rintro _ _ _ _ H J _ _ L ⟨A,s,ks,ns,M,u,F,rfl,B,a,l,⟨ul,rfl,t,N⟩,hlen,k⟩;refine%[_,au (aF (cg (pZ rfl) (by rfl) i boot_all (ai (dC (own:=[("kind",3),("number",4)]) (g:=oG K 2 _) zR (aa8 rfl j (ay (pv 1) (ai (pv 2)))) (mj rfl (gI (bE 3 zR) (gI (bE 4 zR) mi))) cR (Jn (i7 dY (pv 3) cK rfl) (xy (aI o L (ay (pv 0) (ay (pv 3) (ai (pv 4)))))))))))|?_];have d:=B _ _ t;refine%[M,ul,_,_,rfl,l H,af.of d|aa9 (K:=K) (S:=λF v (b:Bool)=>v=V.bl b) (λv w=>match v,w with
  |.str z,.int n=>some (decide (z="free")||there s z n)
  |_,_=>aq) (by decide) B (l H) (af.of d) (by cbv) (by cbv) (λ_ _ _ _ _ q=>q) ?_ ?_]
 .rintro v w E Y O hw g Z Qn m kn;obtain⟨z,_,rfl⟩:=bF.mp O;obtain⟨n,_,rfl⟩:=bF.mp hw;unfold jR;dsimp only;rw[aS rfl];refine%[rfl|⟨?_⟩];have Q:decide (V.str z=V.str ("free":Str))=decide (z="free"):=decide_eq_decide.mpr %[λe=>by injection e|λe=>by rw[e]];rw[Q];dsimp only at m;by_cases c:z="free"
  .rw[bT c]at m⊢;exact a_ (m _ _ E _ rfl (ag.refl g.sub) rfl)
  .rw[bK c]at m⊢;exact bt %[A,s,z,n,E,rfl,g.sub,a.grow g|λR H2 X=>m _ _ R _ rfl X rfl]
 .rintro F1 H1 D g1 ⟨D',J,e,G,S,nD⟩;cases e;have W:=lH (f:=V.bl) S;rw[W]at G;have T:=k _ _ g1;refine%[af.of (g1.sub _ _ G)|?_];have U:((ks.map V.str).zip (ns.map V.int)).filterMap (λx=>match x.1,x.2 with
    |.str z,.int n=>some (decide (z="free")||there s z n)
    |_,_=>aq)=(ks.zip ns).map λp:Str×Int=>decide (p.1=("free":Str))||there s p.1 p.2:=by
   rw[Am,Av];exact congrFun (List.filterMap_eq_map) _
  rw[U,nX];exact T
abbrev GN:Stmt:=top 122
def kK(n d:Int):Bool:=(decide (1<=d)&&decide (d<=1000))&&(decide (0<=n)&&decide (n<=d))
inductive GO(a:List V)(H:Hp)(Q:VK)(E:XK):Prop
 |mk(n d:Int)(b:a=[.int n,.int d])(b:Q (.bl (kK n d)) H)
def abe:aV ["n","d"] ["n","d"] (aM GN):=aX
def abf(e:aH K "is_share" "is_share" GN f y)(g:GV r "GREATEST_D" (.int 1000)):aJ P w K r h aR 1 f y ["n","d"] GO:=by?
 refine e.go abe ?_;rintro i i i i i i i i i ⟨n,d,rfl,k⟩;refine%[_,au (aF (Jm (Bd rP rP aL (pv 1) (bC g)) (xy (Bd rP rP aL (pv 0) (pv 1)))))|?_];unfold kK at k;refine%[_,rfl|?_];by_cases a:(1)<=d
 .rw[bT a]at k⊢;refine a_ ⟨⟨?_⟩⟩;by_cases b:d<=1000
  .rw[bT b]at k⊢;refine a_ %[_,rfl|?_];by_cases c:(0)<=n
   .rw[bT c]at k⊢;exact a_ ⟨k⟩
   .rw[bK c]at k⊢;exact bt k
  .rw[bK b]at k⊢;exact bt k
 .rw[bK a]at k⊢;exact bt ⟨bt k⟩
abbrev GP:Stmt:=top 123
def GQ(s:SM):List Int:=[0,(s.lots.length:Int),(s.places.length:Int),(s.ents.length:Int),(s.ways.length:Int)]
def vZ(h:B.Ok):0::xf B.store=GQ B:=by show 0::Vbcraf.ints [(B.lots.map tl).length,B.pl.length,(B.ents.map entryOf).length,(fK B.store).length]=_;rw[h.all,aY,aY,aY,h.kJ];rfl
inductive GR(K:ah)(C:CA)(c:List V)(H:Hp)(Q:VK)(E:XK):Prop
 |mk(A:LA)(s:SM)(F:Hp)(d:c=[.ref A.g])(d:aD F H)(d:cN K C F H A s)(d:∀a b r,ag F H a b->dO a r (GQ s)->Q r b)
def OR:aV ["ledger","layout"] ["ledger"] (aM GP):=aX
def abg(l:aH K "counted" "counted" GP f y)(T:ik K C.G)(d:iI K C.L)(g:GV r "DONE" (.int 0))(c:r "len"=aq)(i:iX P w K r h C):aJ P w K r h aR 2 f y ["ledger"] (GR K C):=by?
 refine l.go OR ?_;rintro b b b b b b b b m ⟨A,s,F,rfl,j,a,k⟩;refine%[_,aw (bp 1 OR (aG (pv 0)))
  (au (aF (bH (ay (bC g) (ay (cg dG (by rfl) c du (ai (aG (pv 1)))) (ay (cg dG (by rfl) c du (ai (aG (pv 1)))) (ay (cg dG (by rfl) c du (ai (aG (pv 0)))) (ai (cg dG (by rfl) c du (ai (fM i m (by decide) (pv 0))))))))))))|?_]
 obtain⟨u,t,x⟩:=a.ea;refine%[a.g,T.cl,T.na,fX _ _ _|?_];refine%[a.ly,d.cl,d.nl,lJ _ _ _,A.la,_,rfl,.inl (af.of a.la),a.ly,d.cl,d.np,kF _ _ _,A.pa,_,rfl,.inl (af.of a.pa),a.g,T.cl,T.ne,j3 _ _ _,A.ea,_,rfl,.inl (af.of t),a.g,gO _ _ _,A,s,F,rfl,a|λb %[o,n,e,q,v|_]=>?_];subst e;refine%[o,_,rfl,.inl (af.of (j _ _ q)),(by show 5<=bf;decide)|λp hp=>k _ _ _ (ag.put j hp) %[p,rfl,?_|(by show 5<=1000000;decide)]]
 grind [ak,GQ,bu]
theorem OS:∀(l:List Rat) (x:Rat),(l.map bc).foldl Vbcraf.least (bc x)=bc (jD x l)
 |[],x=>rfl
 |y::l,x=>by
  rw[cx,fI,U9];have e:(if x<=y then x else y)=(if y<x then y else x):=by grind
  rw[e,OS l];rfl
theorem OT:∀(l:List Rat) (x:Rat),(l.map bc).foldl Vbcraf.most (bc x)=bc (fW x l)
 |[],x=>rfl
 |y::l,x=>by
  rw[cx,fI,Lo];have e:(if x<=y then y else x)=(if x<y then y else x):=by grind
  rw[e,OT l];rfl
def GS(x:Rat)(a:List Rat):Vbcraf.ends ((x::a).map bc)=some (bc (jD x (x::a)),bc (fW x (x::a))):=by
 have b:jD x (x::a)=jD x a:=by simp[jD]
 have c:fW x (x::a)=fW x a:=by simp[fW]
 rw[b,c,<-OS,<-OT];rfl
def tI{st:Vbcraf.State}(x:Rat)(a:List Rat):Vbcraf.endsRow st (Vbcraf.ends ((x::a).map bc))=(st,0::lO x a):=by rw[GS];rfl
def v3(l:List Rat)(i:Nat):(l.map bc).getD i i6=bc (l.getD i 0):=by rw[ir,ir,eJ];cases l[i]?<;>rfl
def OU{θ:List PR}(h:∀p∈θ,p.green.length=n)(l:Nat):(Rb n (θ.map PR.q)).getD l i6=bc (θ.map λp=>p.green.getD l 0).sum:=by
 rw[Ve,v3];unfold BX;rw[BY θ _ aeX h]
 grind
def OV(a:G.Ok n pl.length)(i l:Nat):IU n (G.q pl) i l=bc (kG G i l):=by unfold IU;rw[qc i a.len,OU (λp hp=>(a.at_ i p hp).len)];rfl
def abh(a:G.Ok n pl.length)(i:Nat):ae6 (Rc (G.q pl) i)=bc (bw (aO G i)):=by rw[qc i a.len,su]
def GU{Ψ:PR}(h:G.sold[j]?=some Ψ):je G j=[Ψ]:=by grind [tU]
def zS(h:G.sold[j]?=aq):je G j=[]:=by cbv
def zT(k l:Nat):xg (G.q pl) k l=bc (dk G k l):=by?
 show(((G.sold.map PR.q)[k]?).map λp=>p.green.getD l i6).getD i6=_;rw[eJ];cases e:G.sold[k]? with
 |none=>
  unfold dk;rw[zS e];rfl
 |some p=>
  rw[NX e];exact v3 p.green l
def abi(k:Nat):(((G.q pl).sold[k]?).map λp=>p.kilos).getD i6=bc (s_ G k):=by?
 show(((G.sold.map PR.q)[k]?).map λp=>p.kilos).getD i6=_;rw[eJ];unfold s_;cases e:G.sold[k]? with
 |none=>rw[zS e];rfl
 |some p=>
  rw[GU e,nB,oP,jj];rfl
def abj(a:G.Ok n j)(k l:Nat):ae7 (G.q pl) k l=bc (oX (je G k) l):=by?
 show(match(G.sold.map PR.q)[k]? with
  |none=>i6
  |some p=>Vbcraf.div _ _)=_
 rw[eJ];cases e:G.sold[k]? with
 |none=>rw[zS e];rfl
 |some p=>
  rw[GU e];show Vbcraf.div ((p.green.map bc).getD l i6) (Vbcraf.sum (p.green.map bc))=bc (p.green.getD l 0/p.green.sum);rw[v3,uO,div_eq (a.sold p (bO e)).some]
theorem OW:∀(b:List (List PR)) (l:Nat),((b.flatten).map λp=>p.green.getD l 0).sum=(b.map λc=>(c.map λp=>p.green.getD l 0).sum).sum
 |[],_=>rfl
 |a::r,l=>by rw[IM,cF,Ia,OW r,cx,jk]
def abk(e:G.Ok n pl.length)(l:Nat):Rf n (G.q pl) l=bc (qG G l):=by?
 unfold Rf;have j:((G.q pl).places.map λp=>(Rb n p.parts).getD l i6)=(G.places.map λd=>(d.map λp=>p.green.getD l 0).sum).map bc:=by
  show((kC pl G.places).map _)=_;unfold kC;rw[cC,cC];have:∀(pl:List (rA×Bool)) (d:List (List PR)),pl.length=d.length->(∀q∈d,∀p∈q,p.green.length=n)->(pl.zip d).map ((λp:Vbcraf.Place=>(Rb n p.parts).getD l i6)∘λx=>%[x.1.1,x.1.2|x.2.map PR.q])=d.map (bc∘λd=>(d.map λp=>p.green.getD l 0).sum):=by
   intro pl;induction pl with
   |nil=>intro d h m;cases d with
    |nil=>rfl
    |cons a b=>cases h
   |cons a r k=>
    intro d h g;cases d with
    |nil=>cases h
    |cons b c=>
     rw[Q_,cx,cx,k c (by simpa using h) λq f=>g q (bG _ f)];congr 1;exact OU (g b (bQ ..)) l
  exact this pl G.places e.len.symm λq f p hp=>(e.parts q f p hp).len
 have i:∀d:List PR,((d.map PR.q).map λp=>p.green.getD l i6)=(d.map λp=>p.green.getD l 0).map bc:=λd=>by rw[cC,cC];exact jq λp m=>v3 p.green l
 have o:((G.q pl).sold.map λp=>p.green.getD l i6)=(G.sold.map λp=>p.green.getD l 0).map bc:=i G.sold;have s:((G.q pl).lost.map λp=>p.green.getD l i6)=(G.lost.map λp=>p.green.getD l 0).map bc:=i G.lost;rw[j,o,s,<-cF,<-cF,uO];congr 1;unfold qG tj;rw[cF,cF];simp only[Ia];rw[OW,e.yd l]
 grind
def abl(l:Nat):Rg (G.q pl) l=bc (mN G l):=by?
 unfold Rg;have:((G.q pl).sold.map λp=>p.green.getD l i6)=(G.sold.map λp=>p.green.getD l 0).map bc:=by show((G.sold.map PR.q).map _)=_;rw[cC,cC];exact jq λp a=>v3 p.green l
 rw[this,uO];rfl
def abm(hd:1<=φ)(l:Nat)(ks:List Nat):Vbcraf.le (Vbcraf.mul (uc S φ.toNat) (Rg (G.q pl) l)) (Vbcraf.sum (ks.map λk=>xg (G.q pl) k l))=tu G l S φ ks:=by?
 have b:(ks.map λk=>xg (G.q pl) k l)=(ks.map λk=>dk G k l).map bc:=by simp[jq,zT]
 rw[uN S φ.toNat (by lia),abl,mul_eq,b,uO,le_eq];refine decide_eq_decide.mpr ?_;have c:((φ.toNat:Nat))=φ:=AJ (by exact As hd);have e:((φ.toNat:Nat))=(φ:Rat):=by show(((φ.toNat:Nat):Int):Rat)=_;rw[c]
 rw[Qx];have dp:(0)<(φ:Rat):=nZ.mpr (by trivial);have f:(S:Rat)/(φ:Rat)*mN G l*(φ:Rat)=(S:Rat)*mN G l:=by grind
 grind [NV,wO]
def SM.Ok.oZ(h:B.Ok){x:List Nat×WR}(a:x∈B.ways):x.2.Ok B.lots.length B.pl.length:=by rw[h.kJ];exact(h.iq x a).1
def SM.Ok.over(h:B.Ok){f:Vbcraf.World->Vbcraf.Q}{g:WR->Rat}(e:∀x∈B.ways,f (x.2.q B.pl)=bc (g x.2)):(fK B.store).map (λx=>f x.2)=(B.ways.map λx=>g x.2).map bc:=by rw[h.all,cC,cC];exact jq λx a=>e x a
def zU(s:SM):s.store.lots.length=s.lots.length:=aY _
def v5(h:B.Ok):AK B.store=eX B.ways:=by unfold AK eX;rw[h.all,cC];congr 1;exact jq λx a=>aY _
def abn(h:B.Ok):((fK B.store).map λx=>x.2.sold.length).foldl min (AK B.store)=sY B.ways:=by rw[v5 h];rw[h.all,cC];congr 1;exact jq λx a=>aY _
def j4(s:SM)(l:Int):kW s.store l=there s "lot" l:=by unfold kW gQ there cnt;rw[aS rfl,zU];congr 1;exact decide_eq_decide.mpr (by exact Int.le_sub_one_iff)
def tK(h:B.Ok)(i:Int):ud B.store i=there B "place" i:=by
 unfold ud gQ there cnt;rw[aE (by decide+kernel),show B.store.places.length=B.places.length from h.kJ]
 grind
def o3(h:B.Ok)(k:Int):pC B.store k=there B "sold" k:=by
 unfold pC gQ there cnt;rw[aE (by decide+kernel),aE (by decide+kernel),aE (by decide+kernel),aE (by decide+kernel),v5 h]
 grind
def OX(h:B.Ok)(hd:1<=φ)(l:Nat)(ks:List Nat):IV ((fK B.store).map λy=>y.2) l (uc S φ.toNat) ks=fO B.ways l S φ ks:=by unfold IV fO;rw[h.all,cC,nX];congr 1;funext x;exact abm hd l ks
def abo(h:B.Ok)(hd:1<=φ)(l:Nat):IW B.store l (uc S φ.toNat)=vN B.ways l S φ (eX B.ways):=by?
 unfold IW vN;have ne:((fK B.store).map λy=>y.2).isEmpty=false:=by
  rw[h.all];cases e:B.ways with
  |nil=>exact aT e h.ne
  |cons _ _=>rfl
 dsimp only;rw[ne,aE dJ,v5 h];congr 1;funext ks;exact OX h hd l ks
inductive bR(K:ah)(C:CA)(pre:SM->List Int->List Int->Prop)(call:List Int->List Int->Rh)(h:List V)(H:Hp)(Q:VK)(E:XK):Prop
 |mk(A:LA)(s:SM)(a b:List Int)(u v:V)(F:Hp)(i:h=[.ref A.g,u,v])(i:aD F H)(i:cN K C F H A s)(i:dO F u a)(i:dO F v b)(i:pre s a b)(i:∀d e f g r c,Mv F H A d e f->cN K C d e f g->hJ (some s.store) (call a b)=(some g.store,c)->dO d r c->Q r e)
abbrev i0(l:List Int):Int:=l.getD 0 0
abbrev i1(l:List Int):Int:=l.getD 1 0
abbrev i2(l:List Int):Int:=l.getD 2 0
inductive gB(k:Str)(s:SM)(a _row:List Int):Prop
 |mk(i:Nat)(b:a=[(i:Int)])(b:i<cnt s k)
inductive fj(k b:Str)(s:SM)(a _row:List Int):Prop
 |mk(i j:Nat)(c:a=[(i:Int),(j:Int)])(c:i<cnt s k)(c:j<cnt s b)
def OY(s:SM):cnt s "place"=s.places.length:=by rfl
def abp(s:SM):cnt s "entry"=s.ents.length:=by rfl
def GW(s:SM):cnt s "way"=s.ways.length:=by rfl
def abq(s:SM):cnt s "sold"=eX s.ways:=by rfl
def iL{x:Str}(h:n<cnt B x):there B x (n:Int)=true:=by simp_all [there]
def tL{H J:Hp}{O:V}{a:ae}(l:aD J H)(d:H a=some (.lst [.int 0])){f:List Rat}(m:dR K J O f)(n:f=Z::Θ)(fit:∀z∈f,ja z){Q:VK}(k:∀h i r,ag J H h i->dO h r (0::lO Z Θ)->Q r i):
  EH K [O] H (λb j=>xT (.ref a) b j Q) E0:=by?
 subst n;refine%[Z,Θ,O,J,rfl,l,m,fit|λq j s c %[bl,e,o|_]=>?_];subst e;refine%[c.same _ _ d,c.sub _ _ o,(by show 1+4<=bf;decide)|λp g=>?_];exact k _ _ _ (c.trans (ag.put c.sub g)) %[p,rfl,ak|by show 5<=1000000;decide]
def qR(h:B.Ok)(f:List Nat×WR->Rat):X2 λy c=>B.ways.map f=y::c:=by
 cases e:B.ways with
 |nil=>exact aT e h.ne
 |cons a b=>exact%[_,_|rfl]
def qS(h:B.Ok){g:WR->Rat}(b:∀(w:WR) (N:Nat),N<=40->Sz N w->w.Ok B.lots.length B.places.length->cw (g w)):∀z∈B.ways.map (λx=>g x.2),ja z:=λz c=>by obtain⟨x,d,rfl⟩:=bF.mp c;obtain⟨a,⟨N,e,f⟩,i⟩:=h.iq x d;exact(b x.2 N e f a).wide
def abr{I d υ:Nat}(i:d<=40)(o:Sz d G)(c:G.Ok n j):cw (oX (je G I) υ):=by?
 cases e:G.sold[I]? with
 |none=>rw[zS e];exact VB
 |some p=>
  rw[GU e];show cw (p.green.getD υ 0/p.green.sum);have b:=bO e;obtain⟨K,D,r⟩:=o.iK i;have a:=c.sold p b;have nn:0<=p.green.getD υ 0/\p.green.getD υ 0<=p.green.sum/\Dv D (p.green.getD υ 0):=by
   rw[ir];cases q:p.green[υ]? with
   |none=>exact%[mY,d8 a.some|Dv.zero D]
   |some g=>exact%[a.nn g (bO q),jU a.nn (bO q)|(r.so p b).2 g (bO q)]
  have f:=by
   have g:=o.vG c i;have s:p.green.sum<=bI G.sold:=by refine jU (λx h=>?_) (g_ b);obtain⟨q,t,rfl⟩:=bF.mp h;exact d8 (c.sold q t).some
   exact d5 s (d5 g sT)
  obtain⟨B,b0,b1,u⟩:=B6 r.d0 a.some f nn.2.2 (Dv.sum λx h=>(r.so p b).2 x h);have ne:p.green.sum≠0:=λz=>Ie (z▸a.some)
  refine lG b0 (bq b1 ?_) u ?_ ?_
  .refine bq (Ii _ r.db) ?_;omega
  .refine wQ.mp λq=>?_;have:=IJ q a.some
   grind [wN]
  .have:p.green.getD υ 0/p.green.sum<=1:=by
    refine wQ.mp λq=>?_
    grind [IJ,wN]
   exact d5 this rfl
def v7{Η b:Bool}(c:Η=true)(d:b=true):¬(Η=false\/b=false):=by rw[c,d];simp
def abt(h:B.Ok)(b:n<cnt B "place")(c:j<cnt B "lot")(e:(B.ways.map λx=>kG x.2 n j)=Z::Θ):hJ (some B.store) (.place n j)=(some B.store,0::lO Z Θ):=by? show(if ud B.store n=false\/kW B.store j=false then _ else _)=_;rw[aE (v7 (by simp_all [tK,iL]) (by simp_all [j4,iL])),gk,gk];unfold Ri;rw[zU,h.over (f:=λx=>IU B.lots.length x n j) (g:=λw=>kG w n j) λx a=>OV (h.oZ a) n j,e,tI]
def abu(h:B.Ok)(b:n<cnt B "place")(e:(B.ways.map λx=>bw (aO x.2 n))=Z::Θ):hJ (some B.store) (.kilos n)=(some B.store,0::lO Z Θ):=by? show(if ud B.store n=false then _ else _)=_;rw[aE (by simp_all [tK,iL]),gk];unfold Vbcraf.weight;rw[h.over (f:=λx=>ae6 (Rc x n)) (g:=λw=>bw (aO w n)) λx a=>abh (h.oZ a) n,e,tI]
def abv(h:B.Ok)(a:n<cnt B "sold")(b:j<cnt B "lot")(e:(B.ways.map λx=>dk x.2 n j)=Z::Θ):hJ (some B.store) (.trace n j)=(some B.store,0::lO Z Θ):=by? show(if pC B.store n=false\/kW B.store j=false then _ else _)=_;rw[aE (v7 (by simp_all [o3,iL]) (by simp_all [j4,iL])),gk,gk];unfold Vbcraf.inSold;rw[h.over (f:=λx=>xg x n j) (g:=λw=>dk w n j) λx c=>zT n j,e,tI]
def abw(h:B.Ok)(b:n<cnt B "sold")(c:j<cnt B "lot")(e:(B.ways.map λx=>oX (je x.2 n) j)=Z::Θ):hJ (some B.store) (.share n j)=(some B.store,0::lO Z Θ):=by? show(if pC B.store n=false\/kW B.store j=false then _ else _)=_;rw[aE (v7 (by simp_all [o3,iL]) (by simp_all [j4,iL])),gk,gk];unfold Vbcraf.shares;rw[h.over (f:=λx=>ae7 x n j) (g:=λw=>oX (je w n) j) λx a=>abj (h.oZ a) n j,e,tI]
def abx(h:B.Ok)(b:n<cnt B "lot")(e:(B.ways.map λx=>qG x.2 n)=Z::Θ):hJ (some B.store) (.mass n)=(some B.store,0::lO Z Θ):=by? show(if kW B.store n=false then _ else _)=_;rw[aE (by simp_all [j4,iL]),gk];rw[zU,h.over (f:=λx=>Rf B.lots.length x n) (g:=λw=>qG w n) λx a=>abk (h.oZ a) n,e,tI]
def aby(h:B.Ok)(a:n<cnt B "sold")(e:(B.ways.map λx=>s_ x.2 n)=Z::Θ):hJ (some B.store) (.soldKilos n)=(some B.store,0::lO Z Θ):=by? show(if pC B.store n=false then _ else _)=_;rw[aE (by simp_all [o3,iL]),gk];unfold Vbcraf.soldKilos;rw[h.over (f:=λx=>((x.sold[n]?).map λp=>p.kilos).getD i6) (g:=λw=>s_ w n) λx b=>abi n,e,tI]
abbrev aP:List Str:=["ledger","numbers","row"]
abbrev qT(P:aC)(w:World)(K:ah)(mg:Str->Option Value)(base:ax):Prop:=aW P w K mg base "bounds" 3 ["amounts"] (EH K)
abbrev GX:Stmt:=top 129
def abz:aV aP aP (aM GX):=aX
def abA(J:aH K "answer_place" "answer_place" GX f y)(c:GV r "DONE" (.int 0))(d:iX P w K r h C)(L:qT P w K r h)(M:aW P w K r h "place_greens" 5 ["ways","place","lot"] (zp K C.P C.W)):
  aJ P w K r h aR 6 f y aP (bR K C (fj "place" "lot") λn _=>.place (i0 n) (i1 n)):=by?
 refine J.go abz ?_;rintro _ _ _ _ _ _ _ _ j ⟨A,s,nums,row,u,v,F,rfl,z,a,⟨ul,rfl,m,_⟩,U,⟨i,l,rfl,o,B⟩,k⟩;refine%[_,au (aF (bJ eT (bH (ai (bC c))) (aI L j (ai (aI M j (ay (fM d j (by decide) (pv 0)) (ay (aQ bA (pv 1) aL (λ_ _=>rfl)) (ai (aQ bA (pv 1) aL (λ_ _=>rfl))))))))))|?_];refine%[(by decide)|λV p=>?_];have g:=ag.bD (o:=.lst [.int 0]) z p;have D:=a.grow g;have e:=af.of (K:=K) (g.same _ _ (z _ _ m));refine%[D.g,gO _ _ _,A,s,F,rfl,D|λT q=>?_];refine%[e,bg (j:=0) rfl,e,bg (j:=1) rfl|?_];refine%[_,_,s.ways,i,l,T,F,rfl,g.sub,q,a.ok.iq,by exact o,by exact B|λW X Y t O=>?_];obtain⟨b,Z,E⟩:=qR a.ok λx=>kG x.2 i l;refine tL t.sub (t.same _ _ ak) O E (qS a.ok (g:=λw=>kG w i l) λw N G H I=>?_) λF3 H3 r3 R Q=>?_
 .obtain⟨KK,DD,S⟩:=H.iK G;exact((S.gY H I G (fE (by rw[I.len];exact o))).CI l).lP
 .have gg:=(g.trans t).trans R;exact k _ _ _ s _ _ (Mv.of a gg) (a.grow gg) (abt a.ok o B E) Q
abbrev GY:Stmt:=top 130
def abB:aV aP aP (aM GY):=aX
def abC(H:aH K "answer_kilos" "answer_kilos" GY f y)(c:GV r "DONE" (.int 0))(d:iX P w K r h C)(I:qT P w K r h)(J:aW P w K r h "place_weights" 5 ["ways","place"] (E_ K C.P C.W)):
  aJ P w K r h aR 6 f y aP (bR K C (gB "place") λn T=>.kilos (i0 n)):=by?
 refine H.go abB ?_;rintro T T T T T T T T g ⟨A,s,nums,row,u,v,F,rfl,t,a,⟨ul,rfl,j,T⟩,S,⟨i,rfl,l⟩,k⟩;refine%[_,au (aF (bJ eT (bH (ai (bC c))) (aI I g (ai (aI J g (ay (fM d g (by decide) (pv 0)) (ai (aQ bA (pv 1) aL (λT T=>rfl)))))))))|?_];refine%[(by decide)|λT m=>?_];have e:=ag.bD (o:=.lst [.int 0]) t m;have z:=a.grow e;have o:=af.of (K:=K) (e.same _ _ (t _ _ j));refine%[z.g,gO _ _ _,A,s,F,rfl,z|λR p=>?_];refine%[o,bg (j:=0) rfl|?_];refine%[_,_,s.ways,i,R,F,rfl,e.sub,p,a.ok.iq,by exact l|λU V W q L=>?_];obtain⟨b,X,B⟩:=qR a.ok λx=>bw (aO x.2 i);refine tL q.sub (q.same _ _ ak) L B (qS a.ok (g:=λw=>bw (aO w i)) λw N D E G=>?_) λY Z r3 O M=>?_
 .obtain⟨KK,DD,Q⟩:=E.iK D;exact(Q.gY E G D (fE (by rw[G.len];exact l))).sums.lP
 .have gg:=(e.trans q).trans O;exact k _ _ _ s _ _ (Mv.of a gg) (a.grow gg) (abu a.ok l B) M
abbrev GZ:Stmt:=top 132
def abD:aV aP aP (aM GZ):=aX
def abE(E:aH K "answer_trace" "answer_trace" GZ f y)(c:GV r "DONE" (.int 0))(d:iX P w K r h C)(G:qT P w K r h)(H:aW P w K r h "sold_greens" 5 ["ways","number","lot"] (vI K C.P C.W)):
  aJ P w K r h aR 6 f y aP (bR K C (fj "sold" "lot") λn U=>.trace (i0 n) (i1 n)):=by?
 refine E.go abD ?_;rintro U U U U U U U U j ⟨A,s,nums,row,u,v,F,rfl,t,a,⟨ul,rfl,m,U⟩,T,⟨i,l,rfl,I,z⟩,k⟩;refine%[_,au (aF (bJ eT (bH (ai (bC c))) (aI G j (ai (aI H j (ay (fM d j (by decide) (pv 0)) (ay (aQ bA (pv 1) aL (λU U=>rfl)) (ai (aQ bA (pv 1) aL (λU U=>rfl))))))))))|?_];refine%[(by decide)|λU o=>?_];have g:=ag.bD (o:=.lst [.int 0]) t o;have B:=a.grow g;have e:=af.of (K:=K) (g.same _ _ (t _ _ m));refine%[B.g,gO _ _ _,A,s,F,rfl,B|λS p=>?_];refine%[e,bg (j:=0) rfl,e,bg (j:=1) rfl|?_];refine%[_,_,s.ways,i,l,S,F,rfl,g.sub,p,a.ok.iq,by exact z|λV W X q J=>?_];obtain⟨b,Y,D⟩:=qR a.ok λx=>dk x.2 i l;refine tL q.sub (q.same _ _ ak) J D (qS a.ok λw N L M O=>(ES M O L i l).lP) λZ H3 r3 R Q=>?_;have gg:=(g.trans q).trans R;exact k _ _ _ s _ _ (Mv.of a gg) (a.grow gg) (abv a.ok I z D) Q
abbrev G0:Stmt:=top 133
def abF:aV aP aP (aM G0):=aX
def abG(E:aH K "answer_share" "answer_share" G0 f y)(c:GV r "DONE" (.int 0))(d:iX P w K r h C)(G:qT P w K r h)(H:aW P w K r h "sold_shares" 5 ["ways","number","lot"] (E5 K C.P C.W)):
  aJ P w K r h aR 6 f y aP (bR K C (fj "sold" "lot") λn U=>.share (i0 n) (i1 n)):=by?
 refine E.go abF ?_;rintro U U U U U U U U j ⟨A,s,nums,row,u,v,F,rfl,t,a,⟨ul,rfl,m,U⟩,T,⟨i,l,rfl,I,z⟩,k⟩;refine%[_,au (aF (bJ eT (bH (ai (bC c))) (aI G j (ai (aI H j (ay (fM d j (by decide) (pv 0)) (ay (aQ bA (pv 1) aL (λU U=>rfl)) (ai (aQ bA (pv 1) aL (λU U=>rfl))))))))))|?_];refine%[(by decide)|λU o=>?_];have g:=ag.bD (o:=.lst [.int 0]) t o;have B:=a.grow g;have e:=af.of (K:=K) (g.same _ _ (t _ _ m));refine%[B.g,gO _ _ _,A,s,F,rfl,B|λS p=>?_];refine%[e,bg (j:=0) rfl,e,bg (j:=1) rfl|?_];refine%[_,_,s.ways,i,l,S,F,rfl,g.sub,p,a.ok.iq,by exact z|λV W X q J=>?_];obtain⟨b,Y,D⟩:=qR a.ok λx=>oX (je x.2 i) l;refine tL q.sub (q.same _ _ ak) J D (qS a.ok λw N L M O=>abr L M O) λZ H3 r3 R Q=>?_;have gg:=(g.trans q).trans R;exact k _ _ _ s _ _ (Mv.of a gg) (a.grow gg) (abw a.ok I z D) Q
abbrev G2:Stmt:=top 137
def abH:aV aP aP (aM G2):=aX
def abI(D:aH K "answer_mass" "answer_mass" G2 f y)(c:GV r "DONE" (.int 0))(d:iX P w K r h C)(E:qT P w K r h)(G:aW P w K r h "masses" 5 ["ways","lot"] (Ff K C.P C.W)):
  aJ P w K r h aR 6 f y aP (bR K C (gB "lot") λn S=>.mass (i0 n)):=by?
 refine D.go abH ?_;rintro S S S S S S S S g ⟨A,s,nums,row,u,v,F,rfl,q,a,⟨ul,rfl,i,S⟩,R,⟨l,rfl,t⟩,k⟩;refine%[_,au (aF (bJ eT (bH (ai (bC c))) (aI E g (ai (aI G g (ay (fM d g (by decide) (pv 0)) (ai (aQ bA (pv 1) aL (λS S=>rfl)))))))))|?_];refine%[(by decide)|λS j=>?_];have e:=ag.bD (o:=.lst [.int 0]) q j;have z:=a.grow e;have m:=af.of (K:=K) (e.same _ _ (q _ _ i));refine%[z.g,gO _ _ _,A,s,F,rfl,z|λQ o=>?_];refine%[m,bg rfl|?_];refine%[_,_,s.ways,l,Q,F,rfl,e.sub,o,a.ok.iq,by exact t|λT U V p H=>?_];obtain⟨b,W,B⟩:=qR a.ok λx=>qG x.2 l;refine tL p.sub (p.same _ _ ak) H B (qS a.ok λw N I J L=>(NS J L I).1.lP) λX Y Z O M=>?_;have gg:=(e.trans p).trans O;exact k _ _ _ s _ _ (Mv.of a gg) (a.grow gg) (abx a.ok t B) M
abbrev G3:Stmt:=top 143
def abJ:aV aP aP (aM G3):=aX
def abK(B:aH K "answer_sold_kilos" "answer_sold_kilos" G3 f y)(c:GV r "DONE" (.int 0))(d:iX P w K r h C)(D:qT P w K r h)(E:aW P w K r h "sold_weights" 5 ["ways","number"] (EY K C.P C.W)):
  aJ P w K r h aR 6 f y aP (bR K C (gB "sold") λn S=>.soldKilos (i0 n)):=by?
 refine B.go abJ ?_;rintro S S S S S S S S g ⟨A,s,nums,row,u,v,F,rfl,q,a,⟨ul,rfl,j,S⟩,R,⟨i,rfl,G⟩,k⟩;refine%[_,au (aF (bJ eT (bH (ai (bC c))) (aI D g (ai (aI E g (ay (fM d g (by decide) (pv 0)) (ai (aQ bA (pv 1) aL (λS S=>rfl)))))))))|?_];refine%[(by decide)|λS l=>?_];have e:=ag.bD (o:=.lst [.int 0]) q l;have t:=a.grow e;have m:=af.of (K:=K) (e.same _ _ (q _ _ j));refine%[t.g,gO _ _ _,A,s,F,rfl,t|λQ o=>?_];refine%[m,bg (j:=0) rfl|?_];refine%[_,_,s.ways,i,Q,F,rfl,e.sub,o,a.ok.iq|λT U V p H=>?_];obtain⟨b,W,z⟩:=qR a.ok λx=>s_ x.2 i;refine tL p.sub (p.same _ _ ak) H z (qS a.ok λw N I J L=>(NP J L I i).lP) λX Y Z O M=>?_;have gg:=(e.trans p).trans O;exact k _ _ _ s _ _ (Mv.of a gg) (a.grow gg) (aby a.ok G z) M
def iY(_s:SM)(_nums _row:List Int):Prop:=True
def o4(n:Nat)(_s:SM)(_nums a:List Int):Prop:=X1 λ(ns:List Nat)=>A3 (a=nI ns) (ns.length<=n) (∀x∈ns,x<=255)
def G4{κ:List Nat}(h:∀x∈κ,x<=255):¬(nI κ).all xh=false:=by
 have:(nI κ).all xh=true:=by
  rw[nY];intro x a;obtain⟨n,b,rfl⟩:=bF.mp a;unfold xh gQ
  grind
 rw[this];simp
def G5(ns:List Nat):(nI ns).map mZ=ns:=by
 rw[cC]
 conv=>rhs;rw[<-List.map_id ns]
 rfl
abbrev v8(P:aC)(w:World)(K:ah)(mg:Str->Option Value)(base:ax)(C:CA):Prop:=aW P w K mg base "counted" 2 ["ledger"] (GR K C)
abbrev G6:Stmt:=top 124
def abL:aV aP aP (aM G6):=aX
def abM(t:aH K "answer_print" "answer_print" G6 f y)(g:GV r "DONE" (.int 0))(b:gL P w K r h C.G "shown" 1 ["self"] (GD K C))(d:aW P w K r h "bytes_of" 1 ["signs"] Mn):
  aJ P w K r h aR 2 f y aP (bR K C iY λJ J=>.print):=by?
 refine t.go abL ?_;rintro J J J J J J J J n ⟨A,s,nums,row,u,v,F,rfl,x,a,H,I,J,k⟩;refine%[_,au (aF (bJ eT (bH (ai (bC g))) (aI d n (ai (fM b n (by decide) (pv 0))))))|?_];refine%[(by decide)|λJ j=>?_];have m:=ag.bD (o:=.lst [.int 0]) x j;have o:=a.grow m;refine%[o.g,vX _ _ _ (by decide+kernel) (by decide+kernel) (by decide+kernel),A,s,F,rfl,m.sub,o|λB L z p D M=>?_];refine%[z,B,rfl,p.sub,by rw[Dd];exact bq (by assumption) (by decide)|λN O Q q %[bl,e,E|_]=>?_];subst e;have i:=p.trans q;refine%[i.same _ _ ak,q.sub _ _ E,?_|λG l=>?_]
 .rw[aY,aY];exact gC (eW (by show 1+_<=_;lia))
 have gg:=(m.trans i).trans (ag.put (o:=.lst ([.int 0]++((tl z).map λ(c:Nat)=>(c:Int)).map V.int)) i.sub l);refine k _ _ _ s _ (0::(tl z).map λ(c:Nat)=>(c:Int)) (Mv.of a gg) (a.grow gg) ?_ %[G,rfl,ak|by grind];rw[D];rfl
abbrev G7:Stmt:=top 125
def OZ:aV ["ledger","numbers","row","why"] aP (aM G7):=aX
def abN(E:aH K "answer_more" "answer_more" G7 f y)(l:GV r "GOOD" (.int 0))(g:GV r "WRONG" (.int 1))(i:aW P w K r h "signs_of" 1 ["row"] yV)(m:gL P w K r h C.G "add_line" 10 ["self","line"] (lR K C zK))(G:v8 P w K r h C):
  aJ P w K r h aR 11 f y aP (bR K C (o4 200) λ_ b=>.more b):=by?
 refine E.go OZ ?_;rintro _ _ _ _ _ _ _ _ o ⟨A,s,nums,row,u,v,F,rfl,H,c,T,I,⟨ns,rfl,U,J⟩,k⟩;refine%[_,aw (bp 3 OZ (jY m o (by decide) (pv 0) (ai (aI i o (ai (pv 2))))))
  (aw (bW (bY pR (pv 3) (bC l) (b_ _)) (au (aF (bH (ay (bC g) (ai (pv 3)))))) bZ)
  (au (aF (aI G o (ai (pv 0))))))|?_]
 refine%[c.g,vX _ _ _ (by decide+kernel) (by decide+kernel) (by decide+kernel),ns,v,F,rfl,H,I,by exact bq (by assumption) (by decide)|λL H1 z B W=>?_];have X:(tl z).length<=200:=by cbv
 refine%[A,s,mW z " ",.str z,L,rfl,B.sub,c.grow B,%[z,rfl,rfl|by exact bq (by assumption) (by decide)]|λN Y A2 D S M2 L2 p=>?_];have q:ju s.store ((mW z " ").map tl)=ju s.store (eM 32 ns):=by simp_all [FW,zD,Oo,Ol]
 unfold OH at p;rw[q]at p;have M:=(Mv.of c B).trans M2;have j:hJ (some s.store) (.more (nI ns))=(match ju s.store (eM 32 ns)with
   |.inl k=>(some s.store,[1,(k:Int)])
   |.inr d=>(some d,0::xf d)):=by
  show(if(nI ns).all xh=false then _ else _)=_;rw[aE (G4 J),G5];rfl
 refine%[rfl|⟨?_⟩];rcases p with⟨t,rfl⟩|⟨O,k0,t,rfl,rfl⟩
 .rw[bT rfl];rw[t]at j;refine bt %[A2,D,N,congrArg (λa=>[V.ref a]) M.gg.symm,M2.sub,L2|λZ H3 r3 n Q=>?_];refine k _ _ _ D _ _ (M.trans (Mv.of L2 n)) (L2.grow n) j ?_;rw[vZ L2.ok];exact Q
 .rw[bK (λe=>k0 (by cbv))];rw[t]at j;refine a_ %[fV|λR x=>?_];have n:=ag.put (o:=.lst [.int 1,.int (O:Int)]) M2.sub x;exact k _ _ _ D _ _ (M.trans (Mv.of L2 n)) (L2.grow n) j %[R,rfl,ak|by simp]
abbrev G8:Stmt:=top 126
inductive zV(s:SM)(a _row:List Int):Prop
 |mk(e:Nat)(c:Int)(b:a=[(e:Int),c])(b:e<s.ents.length)
def G9:aV ["ledger","numbers","row","entry","choice"] aP (aM G8):=aX
def abO(s:SM)(e:Nat)(d:DE):(s.settle e d).store=({s.store with entries:=s.store.entries.set e ⟨[d.bX]⟩}:cH):=by show(%[_,_|(s.ents.set e [d]).map entryOf]:cH)=%[_,_|(s.ents.map entryOf).set e _];rw[Qt];rfl
def abP(h:B.Ok){a:List DE}(g:B.ents[n]?=some a)(c:Int):hJ (some B.store) (.settle (n:Int) c)=if gQ c 0 ((a.length:Int)-1)=false then(some B.store,[-2])else
  let d:cH:={B.store with entries:=B.store.entries.set n ⟨((a.map (·.bX))[c.toNat]?).toList⟩}
  if(fK d).isEmpty=true then(some B.store,[-6])else(some d,0::xf d):=by?
 have b:B.store.entries[n]?=some (entryOf a):=by
  show(B.ents.map entryOf)[n]?=_
  cbv
 have f:B.store.entries.length=B.ents.length:=aY _;show(if gQ _ 0 _=false then _ else match B.store.entries[(n:Int).toNat]? with
  |none=>_
  |some x=>_)=_
 rw[aE (by unfold gQ;grind),gk,b];show(if gQ c 0 (((a.map _).length)-1)=false then _ else _)=_;rw[aY];rfl
def abQ{base:ax}{f:ae}{fd:aK}(Fn:aH K "answer_settle" "answer_settle" G8 f fd)(T:ik K C.G)(hout:GV mg "OUT_OF_RANGE" (.int (-2)))(hno:GV mg "NO_WAY_LEFT" (.int (-6)))(hlen:mg "len"=aq)(hSettle:gL P w K mg base C.G "settle" 5 ["self","entry","choice"] (Gy K C))(hC:v8 P w K mg base C):
  aJ P w K mg base aR 6 f fd aP (bR K C zV λn i=>.settle (i0 n) (i1 n)):=by?
 refine Fn.go G9 ?_;rintro i i i i H i Q i hr ⟨A,s,nums,row,u,v,F,rfl,hF,h,⟨ul,rfl,hul,i⟩,hv,⟨e,c,rfl,he⟩,k⟩;refine⟨_,aw (bp 3 G9 (aQ bA (pv 1) aL (λi i=>rfl)))
  (aw (bp 4 G9 (aQ bA (pv 1) aL (λi i=>rfl)))
  (aw (bW (nh (Sm rP ur aL (pv 4) (cg dG (by rfl) hlen du (ai (aQ bA (aG (pv 0)) (pv 3) (λi i=>rfl)))))) (au (aF (bH (ai (bC hout))))) bZ)
  (aw (bW (nh (eQ (jY hSettle hr (by decide) (pv 0) (ay (pv 3) (ai (pv 4)))) (λi=>rfl))) (au (aF (bH (ai (bC hno))))) bZ)
  (au (aF (aI hC hr (ai (pv 0)))))))),?_⟩
 have hu1:=af.of (K:=K) (hF _ _ hul);obtain⟨ds,hds⟩:∃ds,s.ents[e]?=some ds:=⟨_,cA he⟩;have est:=abP h.ok hds c;obtain⟨es,a1,a2⟩:=h.ea;obtain⟨dv,hdv,hdd⟩:∃dv,es[e]?=some dv/\mK K C.D F dv ds:=by
  have q:e<es.length:=by grind-order [bu]
  obtain⟨b,hb,r⟩:=dh a2 (cA q)
  cbv
 obtain⟨dl,dvs,rfl,hdl,hdp,i⟩:=hdd;have outR:gQ c 0 ((ds.length:Int)-1)=false->∀p,H p=aq->Q (.ref p) (upd H p (.lst [.int (-2)])):=λhin p hp=>by rw[aS hin]at est;have g:=ag.put (o:=.lst [.int (-2)]) hF hp;exact k _ _ _ s _ _ (Mv.of h g) (h.grow g) est ⟨p,rfl,ak,by trivial⟩
 refine⟨hu1,bg (j:=0) rfl,?_⟩;refine⟨hu1,bg (j:=1) rfl,?_⟩;refine⟨_,rfl,?_⟩;by_cases c0:(0:Int)<=c
 .rw[bT c0];refine a_ ⟨h.g,T.cl,T.ne,j3 _ _ _,af.of a1,bg hdv,dl,dvs,rfl,.inl (af.of (hF _ _ hdl)),⟨⟨?_⟩⟩⟩;rw[bu hdp];by_cases c1:c<(ds.length:Int)
  .rw[bT c1];obtain⟨cn,rfl⟩:∃cn:Nat,c=(cn:Int):=⟨c.toNat,(AJ c0).symm⟩;obtain⟨d,hd⟩:∃d,ds[cn]?=some d:=⟨_,cA (by cbv)⟩;rw[aE (by unfold gQ;grind),gk,eJ,hd]at est;dsimp only at est;rw[show((some d).map (·.bX)).toList=[d.bX]from rfl,<-abO]at est;refine bt ⟨h.g,vX _ _ _ (by decide+kernel) (by decide+kernel) (by decide+kernel),A,s,e,cn,ds,d,F,rfl,hF,h,hds,hd,λF2 H2 A2 s2 b M2 L2 S2=>⟨_,rfl,?_⟩⟩;rcases S2 with⟨rfl,rfl⟩|⟨rfl,rfl,e0⟩
   .have nem:(fK (s.settle e d).store).isEmpty=false:=by
     rw[L2.ok.all];cases q:(s.settle e d).ways with
     |nil=>exact aT q L2.ok.ne
     |cons _ _=>rfl
    rw[nem,aE dJ]at est;refine bt ⟨A2,_,F2,congrArg (λa=>[V.ref a]) M2.gg.symm,M2.sub,L2,λF3 H3 r3 g3 q3=>?_⟩;refine k _ _ _ _ _ _ (M2.trans (Mv.of L2 g3)) (L2.grow g3) est ?_;rw[vZ L2.ok];exact q3
   .have hall:=SM.FZ (s:=s2.settle e d) h.ok.kJ λxs hxs x hx=>by
     rcases wI (show xs∈s2.ents.set e [d]from hxs)with q|q
     .exact((h.ok.ent xs q).2 x hx).1
     .rw[q]at hx;rw[fJ.mp hx];exact((h.ok.ent ds (bO hds)).2 d (bO hd)).1
    rw[OO s2 hds hd,e0]at hall;rw[hall]at est;refine a_ ⟨dc,λp3 hp3=>?_⟩;have g3:=ag.put (o:=.lst [.int (-6)]) M2.sub hp3;exact k _ _ _ _ _ _ (M2.trans (Mv.of L2 g3)) (L2.grow g3) est ⟨p3,rfl,ak,by trivial⟩
  .rw[bK c1];exact a_ ⟨dc,outR (by unfold gQ;(cbv;lia))⟩
 .rw[bK c0];exact bt ⟨a_ ⟨dc,outR (by unfold gQ;simp[*])⟩⟩
abbrev G_:Stmt:=top 127
def abR:aV aP aP (aM G_):=aX
def abS(t:aH K "answer_undo" "answer_undo" G_ f y)(T:ik K C.G)(g:GV r "NONE_THERE" (.int (-3)))(d:gL P w K r h C.G "undo" 1 ["self"] (Gf K C))(x:v8 P w K r h C):
  aJ P w K r h aR 3 f y aP (bR K C iY λO O=>.undo):=by?
 refine t.go abR ?_;rintro O O O O O O O O i ⟨A,s,nums,row,u,v,F,rfl,z,a,J,L,O,k⟩;refine%[_,aw (bW (bY (vd i.rQ) (aG (pv 0)) (bH e_) (b_ _)) (au (aF (bH (ai (bC g))))) bZ)
  (aw (eN (fM d i (by decide) (pv 0)))
  (au (aF (aI x i (ai (pv 0))))))|?_]
 refine%[a.g,T.cl,T.ne,j3 _ _ _,bM _|λB j=>?_];have e:=ag.bD (o:=.lst []) z j;have l:=a.grow e;obtain⟨o,H,I⟩:=l.ea;have le:=bu I;have b:hJ (some s.store) .undo=if s.store.entries.isEmpty=true then(some s.store,[-3])else(some {s.store with entries:=s.store.entries.dropLast},0::xf {s.store with entries:=s.store.entries.dropLast}):=rfl;refine%[A.ea,o,B,rfl,rfl,af.of H,af.of ak|⟨?_⟩];cases c:s.ents with
 |nil=>
  rw[c]at le;rw[HZ.mp le];rw[aS (by rw[show s.store.entries=s.ents.map entryOf from rfl,c];rfl)]at b;refine a_ %[dc|λD m=>?_];have p:=ag.put (o:=.lst [.int (-3)]) e.sub m;exact k _ _ _ s _ _ (Mv.of a (e.trans p)) (a.grow (e.trans p)) b %[D,rfl,ak|by trivial]
 |cons M N=>
  have ne:s.ents≠[]:=by rw[c];simp
  have n:o.isEmpty=false:=by grind
  rw[n];rw[aE (by rw[show s.store.entries=s.ents.map entryOf from rfl,c];simp)]at b;have E:(s.undo).store=({s.store with entries:=s.store.entries.dropLast}:cH):=by show(%[_,_|s.ents.dropLast.map entryOf]:cH)=%[_,_|(s.ents.map entryOf).dropLast];rw[aeS];rfl
  rw[<-E]at b;refine bt %[l.g,vX _ _ _ (by decide+kernel) (by decide+kernel) (by decide+kernel),A,s,F,rfl,e.sub,l,ne|λO L2 M2=>?_];refine%[A,s.undo,F,rfl,M2.sub,L2|λQ R S q G=>?_];refine k _ _ _ _ _ _ (((Mv.of a e).trans M2).trans (Mv.of L2 q)) (L2.grow q) b ?_;rw[vZ L2.ok];exact G
abbrev G':Stmt:=top 128
def abT:aV aP aP (aM G'):=aX
def abU(c:aH K "answer_worlds" "answer_worlds" G' f y)(d:v8 P w K r h C):aJ P w K r h aR 3 f y aP (bR K C iY λm m=>.worlds):=by? refine c.go abT ?_;rintro m m m m m m m m e ⟨A,s,nums,row,u,v,F,rfl,g,a,j,l,m,k⟩;refine%[_,au (aF (aI d e (ai (pv 0))))|?_];refine%[A,s,F,rfl,g,a|λm n o b i=>?_];refine k _ _ _ s _ _ (Mv.of a b) (a.grow b) rfl ?_;rw[vZ a.ok];exact i
abbrev Ha:Stmt:=top 131
def abV:aV aP aP (aM Ha):=aX
def abW(q:aH K "answer_sold" "answer_sold" Ha f y)(c:GV r "DONE" (.int 0))(b:iX P w K r h C)(d:aW P w K r h "most_sold" 1 ["ways"] (sZ K C.P C.W))(g:aW P w K r h "fewest_sold" 1 ["ways"] (EN K C.P C.W)):
  aJ P w K r h aR 2 f y aP (bR K C iY λH H=>.sold):=by?
 refine q.go abV ?_;rintro H H H H H H H H i ⟨A,s,nums,row,u,v,F,rfl,t,a,z,B,H,k⟩;refine%[_,au (aF (bH (ay (bC c) (ay (aI d i (ai (fM b i (by decide) (pv 0)))) (ai (aI g i (ai (fM b i (by decide) (pv 0)))))))))|?_];refine%[a.g,gO _ _ _,A,s,F,rfl,a|λl e=>%[s.ways,l,F,rfl,t,e,a.ok.ne|λm G j=>?_]];have n:=a.grow j;refine%[n.g,gO _ _ _,A,s,m,rfl,n|λl e=>%[s.ways,l,m,rfl,j.sub,e,a.ok.ne|λD E o=>?_]];refine%[(by show 3<=bf;decide)|λp hp=>?_];have gg:=(j.trans o).trans (ag.put (o:=.lst [.int 0,.int (eX s.ways),.int (sY s.ways:Nat)]) o.sub hp);refine k _ _ _ s _ [0,(eX s.ways),(sY s.ways)] (Mv.of a gg) (a.grow gg) ?_ %[p,rfl,ak|by simp];show(some s.store,[0,(AK s.store:Int),((((fK s.store).map λx=>x.2.sold.length).foldl min _:Nat))])=_;rw[abn a.ok,v5 a.ok]
def boot_any:l_ "any"=some (.builtin "any"):=by decide+kernel
def abX(h:0<=Z):(!decide (Z=0))=decide (0<Z):=by grind
def abY{I d:Nat}(a:G.Ok n j):0<=dk G d I:=by
 refine jB λx b=>?_;obtain⟨p,hp,rfl⟩:=bF.mp b;rw[ir];cases e:p.green[I]? with
 |none=>exact mY
 |some g=>exact(a.sold p (nP hp)).nn g (bO e)
def abZ(h:B.Ok)(k l:Nat):Rj B.store k l=some (let bs:=B.ways.map λx=>!decide (dk x.2 k l=0);if bs.all id=true then 1 else if bs.any id=true then 2 else 0):=by?
 unfold Rj;have e:((fK B.store).map λx=>Vbcraf.holds x.2 k l)=B.ways.map λx=>!decide (dk x.2 k l=0):=by
  rw[h.all,cC];refine jq λx a=>?_
  show IX i6 (xg (x.2.q B.pl) k l)=_;rw[zT,zero_eq,lt_eq,abX (abY (h.oZ a))]
 dsimp only;rw[e];have ne:(B.ways.map λx=>!decide (dk x.2 k l=0)).isEmpty=false:=by
  cases q:B.ways with
  |nil=>exact aT q h.ne
  |cons _ _=>rfl
 rw[ne,aE dJ];rfl
abbrev Hb:Stmt:=top 134
def Hc:aV ["ledger","numbers","row","has_some","green"] aP (aM Hb):=aX
def ab0(Fn:aH K "answer_surely" "answer_surely" Hb f y)(hZ:lE K r "ZERO" 0)(m:GV r "DONE" (.int 0))(I:GV r "WHATEVER_WAS" (.int 1))(J:GV r "BY_SOME_WAYS" (.int 2))(L:GV r "BY_NO_WAY" (.int 0))(B:r "all"=aq)(E:r "any"=aq)
  (t:iX P w K r h C)(hX:aW P w K r h "sold_greens" 5 ["ways","number","lot"] (vI K C.P C.W)):
  aJ P w K r h aR 6 f y aP (bR K C (fj "sold" "lot") λn _=>.surely (i0 n) (i1 n)):=by?
 refine Fn.go Hc ?_;rintro _ _ _ _ _ _ _ _ M ⟨A,s,nums,row,u,v,F,rfl,hF,a,⟨ul,rfl,N,_⟩,hv,⟨i,l,rfl,hi,hl⟩,k⟩;obtain⟨O,hz,Q⟩:=hZ.ex;refine%[_,aw (oM (i:=3) (own:=[("green",4)]) (te:=e6 (Br K) (cf 4) (tC (.ref O))) rfl Hc.nd rfl rfl (oN rfl rfl rfl rfl) (cq (aI hX M (ay (fM t M (by decide) (pv 0)) (ay (aQ bA (pv 1) aL (λ_ _=>rfl)) (ai (aQ bA (pv 1) aL (λ_ _=>rfl))))))) (nu rfl) (λ_ _ _ _ _=>bE 4 Hc) (λ_ _ _ _ _=>cR) (λ_ _ _ _ _=>i7 (Kv M.units) (pv 4) (ke (v:=.ref O) rfl hz rfl) rfl))
  (aw (bW (eQ (cg (pZ rfl) (by rfl) B boot_all (ai (pv 3))) (λ_=>rfl)) (au (aF (bH (ay (bC m) (ai (bC I)))))) bZ)
  (au (aF (bH (ay (bC m) (ai (rM (eQ (cg (Ku rfl) (by rfl) E boot_any (ai (pv 3))) (λ_=>rfl)) (bC J) (bC L))))))))|?_]
 have G:=af.of (K:=K) (hF _ _ N);refine%[a.g,gO _ _ _,A,s,F,rfl,a|λwv R=>?_];refine%[G,bg (j:=0) rfl,G,bg (j:=1) rfl|?_];refine%[_,_,s.ways,i,l,wv,F,rfl,hF,R,a.ok.iq,by trivial|λF1 H1 r1 Z q1=>?_];obtain⟨gl,aa,rfl,S,T,U⟩:=q1;have o:=Z.sub _ _ S;refine%[%[_|af.of o]|dI (K:=K) (S:=λF v (b:Bool)=>v=V.bl b) (R:=bS K F1) (λc:Rat=>!decide (c=0)) Z.sub (af.of o) T U (λ_ _ _ _ _ q=>q) ?_ ?_]
 .rintro j v' c F' H' hj W g Qk kq;refine%[_,_,sE ((W.mono g.fs).mono g.sub),sE (r:=0) %[O,rfl|Q _],sG _,sG _|kq _ _ F' (ag.refl g.sub) ?_];rw[CO]
 .rintro F2 H2 D g2 ⟨D',ao,e,hD,pD,_⟩;cases e;have ev:=lH (f:=V.bl) pD;rw[ev]at hD;have d:=Z.trans g2;have X:=g2.sub _ _ hD;have z:∀x:Int,Rj s.store i l=some x->hJ (some s.store) (.surely (i:Int) (l:Int))=(some s.store,[0,x]):=λx hx=>by show(if pC s.store i=false\/kW s.store l=false then _ else _)=_;rw[aE (v7 (by rw[o3 a.ok];exact iL hi) (by simp_all [j4,iL])),gk,gk,hx]
  have sq:=abZ a.ok i l;have Y:(s.ways.map λx=>dk x.2 i l).map (λc:Rat=>!decide (c=0))=s.ways.map λx=>!decide (dk x.2 i l=0):=by rw[cC];rfl
  have H:H2 D=some (.lst ((s.ways.map λx=>!decide (dk x.2 i l=0)).map V.bl)):=by rw[X,Y]
  dsimp only at sq;refine%[af.of H,_,rfl|?_];cases ha:(s.ways.map λx=>!decide (dk x.2 i l=0)).all id with
  |true=>
   rw[ha,aS rfl]at sq;refine a_ %[fV|λp hp=>?_];have gg:=d.trans (ag.put (o:=.lst [.int 0,.int 1]) d.sub hp);exact k _ _ _ s _ _ (Mv.of a gg) (a.grow gg) (z _ sq) %[p,rfl,ak|by omega]
  |false=>
   rw[ha,aE dJ]at sq;refine bt %[af.of H,_,rfl|?_];cases hb:(s.ways.map λx=>!decide (dk x.2 i l=0)).any id with
   |true=>
    rw[hb,aS rfl]at sq;refine a_ %[fV|λp hp=>?_];have gg:=d.trans (ag.put (o:=.lst [.int 0,.int 2]) d.sub hp);exact k _ _ _ s _ _ (Mv.of a gg) (a.grow gg) (z _ sq) %[p,rfl,ak|by omega]
   |false=>
    rw[hb,aE dJ]at sq;refine bt %[fV|λp hp=>?_];have gg:=d.trans (ag.put (o:=.lst [.int 0,.int 0]) d.sub hp);exact k _ _ _ s _ _ (Mv.of a gg) (a.grow gg) (z _ sq) %[p,rfl,ak|by omega]
abbrev Hd:Stmt:=top 135
inductive kL(s:SM)(a _row:List Int):Prop
 |mk(l:Nat)(n d:Int)(b:a=[(l:Int),n,d])(b:l<cnt s "lot")
def O0:aV ["ledger","numbers","row","many"] aP (aM Hd):=aX
def O1:(kK S φ=true↔(1<=φ/\φ<=1000)/\0<=S/\S<=φ):=by simp[kK]
def v9:(gQ φ 1 1000=false\/gQ S 0 φ=false)↔kK S φ=false:=by? unfold gQ kK;cases h:decide (1<=φ)<;>cases a:decide (φ<=1000)<;>cases b:decide (0<=S)<;>cases c:decide (S<=φ)<;>simp
def ab1{d:Nat}(a:G.Ok n j):0<=mN G d:=by
 refine jB λx b=>?_;obtain⟨p,hp,rfl⟩:=bF.mp b;rw[ir];cases e:p.green[d]? with
 |none=>exact mY
 |some g=>exact(a.sold p hp).nn g (bO e)
def ab2{a:ae}(Fn:aH K "answer_recall" "answer_recall" Hd f y)(m:GV r "DONE" (.int 0))(G:GV r "OUT_OF_RANGE" (.int (-2)))(R:GV r "TOO_MANY_SOLD" (.int (-5)))(S:GV r "MOST_CALLED_BACK" (.int 10))(e:iX P w K r h C)
  (i:aW P w K r h "is_share" 1 ["n","d"] GO)(o:aW P w K r h "most_sold" 1 ["ways"] (sZ K C.P C.W))(H:aW P w K r h "demands_of" 4 ["ways","lot","n","d"] (zt K C.P C.W a))(I:aW P w K r h "fewest_enough" 4 ["demands","many"] (FG K a)):
  aJ P w K r h aR 5 f y aP (bR K C kL λn _=>.recall (i0 n) (i1 n) (i2 n)):=by?
 refine Fn.go O0 ?_;rintro _ _ _ _ _ _ _ _ E ⟨A,s,nums,row,u,v,F,rfl,O,b,⟨ul,rfl,J,_⟩,hv,⟨l,n,d,rfl,hl⟩,k⟩;refine%[_,aw (bW (nh (eQ (aI i E (ay (aQ bA (pv 1) aL (λ_ _=>rfl)) (ai (aQ bA (pv 1) aL (λ_ _=>rfl))))) (λ_=>rfl))) (au (aF (bH (ai (bC G))))) bZ)
  (aw (bp 3 O0 (aI o E (ai (fM e E (by decide) (pv 0)))))
  (aw (bW (bY oH (pv 3) (bC S) (b_ _)) (au (aF (bH (ai (bC R))))) bZ)
  (au (aF (bJ eT (bH (ai (bC m))) (aI I E (ay (aI H E (ay (fM e E (by decide) (pv 0)) (ay (aQ bA (pv 1) aL (λ_ _=>rfl)) (ay (aQ bA (pv 1) aL (λ_ _=>rfl)) (ai (aQ bA (pv 1) aL (λ_ _=>rfl))))))) (ai (pv 3)))))))))|?_]
 have L:=af.of (K:=K) (O _ _ J);have M:kW s.store l=true:=by simp_all [j4,iL]
 have c:hJ (some s.store) (.recall (l:Int) n d)=if kK n d=false then(some s.store,[-2])else if 10<eX s.ways then(some s.store,[-5])else(match IW s.store l (uc n d.toNat)with
   |none=>(some s.store,[-6])
   |some ks=>(some s.store,0::Vbcraf.ints ks)):=by
  show(if kW s.store l=false\/gQ d 1 1000=false\/gQ n 0 d=false then _ else if 10<AK s.store then _ else match IW s.store (l:Int).toNat (uc n d.toNat)with
   |none=>_
   |some ks=>_)=_
  rw[v5 b.ok,gk];by_cases j:kK n d=false
  .rw[aS (.inr (v9.mpr j)),aS j];rfl
  .rw[aE (λq=>q.elim (λz=>by rw[M]at z;cases z) λz=>j (v9.mp z)),aE j];rfl
 refine%[L,bg (j:=1) rfl,L,bg (j:=2) rfl,n,d,rfl,_,rfl|?_];cases j:kK n d with
 |false=>
  rw[aS j]at c;refine a_ %[dc|λp hp=>?_];have g:=ag.put (o:=.lst [.int (-2)]) O hp;exact k _ _ _ s _ _ (Mv.of b g) (b.grow g) c %[p,rfl,ak|by trivial]
 |true=>
  rw[aE (by rw[j];simp)]at c;obtain⟨⟨X,d2⟩,n0,nd⟩:=O1.mp j;refine bt %[b.g,gO _ _ _,A,s,F,rfl,b|λW t=>%[s.ways,W,F,rfl,O,t,b.ok.ne|λY H1 N=>?_]];have h1:=b.grow N;refine⟨⟨?_⟩⟩;by_cases big:10<eX s.ways
  .rw[bT (by exact xb big)];rw[aS big]at c;refine a_ %[dc|λp hp=>?_];have g:=N.trans (ag.put (o:=.lst [.int (-5)]) N.sub hp);exact k _ _ _ s _ _ (Mv.of b g) (b.grow g) c %[p,rfl,ak|by trivial]
  .rw[bK (by lia)];rw[aE big,abo b.ok X]at c;refine bt %[dc|λp hp=>?_];have Q:=N.trans (ag.bD (o:=.lst [.int 0]) N.sub hp);have Z:=b.grow Q;have B:=af.of (K:=K) (Q.same _ _ (O _ _ J));refine%[Z.g,gO _ _ _,A,s,Y,rfl,Z|λW t=>?_];refine%[B,bg (j:=0) rfl,B,bg (j:=1) rfl,B,bg (j:=2) rfl|?_];refine%[_,_,s.ways,l,n,d,W,Y,rfl,Q.sub,t,b.ok.iq,b.ok.ne,by trivial,n0,by lia,by exact As X,by lia|λF3 H3 r3 g3 q3=>?_];refine%[s.ways,l,eX s.ways,n,d,r3,F3,rfl,g3.sub,q3,λx hx=>%[NZ hx|ab1 (b.ok.iq x hx).1],nd,by exact og big|λF4 H4 r4 ks g4 er aa %[kl,e4,T|_]=>?_];subst e4;rw[er]at c;have D:=g3.trans g4;refine%[D.same _ _ ak,g4.sub _ _ T,?_|λp5 U=>?_]
   .rw[aY,aY];exact gC (eW (by show 1+_<=_;lia))
   have gg:=(Q.trans D).trans (ag.put (o:=.lst ([.int 0]++(nI ks).map V.int)) D.sub U);exact k _ _ _ s _ (0::nI ks) (Mv.of b gg) (b.grow gg) c %[p5,rfl,ak|by(cbv;lia)]
abbrev He:Stmt:=top 138
def ab3:aV aP aP (aM He):=aX
def ab4(L:aH K "answer_way" "answer_way" He f y)(J:fY K C.W)(b:GV r "DONE" (.int 0))(c:iX P w K r h C):aJ P w K r h aR 2 f y aP (bR K C (gB "way") λn _=>.way (i0 n)):=by?
 refine L.go ab3 ?_;rintro _ _ _ _ _ _ _ _ M ⟨A,s,nums,row,u,v,F,rfl,G,a,⟨ul,rfl,l,_⟩,X,⟨j,rfl,N⟩,k⟩;refine%[_,au (aF (bJ eT (bH (ai (bC b))) (aG (aQ bA (fM c M (by decide) (pv 0)) (aQ bA (pv 1) aL (λ_ _=>rfl)) (λ_ _=>rfl)))))|?_];refine%[dc|λY m=>?_];have d:=ag.bD (o:=.lst [.int 0]) G m;have H:=a.grow d;have o:=af.of (K:=K) (d.same _ _ (G _ _ l));rw[GW]at N;refine%[H.g,gO _ _ _,A,s,F,rfl,H|λwv %[wl,p,e,q,t|_]=>?_];subst e;have g:j<p.length:=by grind [bu]
 obtain⟨x,I,z⟩:=dh t (cA g);obtain⟨Z,O,cv,Q,sv,tv,B,W,⟨cl,rfl,D,R⟩,_⟩:=z;have S:=bO I;have T:=(a.ok.iq x S).2.2;refine%[o,bg (j:=0) rfl,af.of (d.sub _ _ q),bg (cA g)|?_];rw[B];refine%[d.sub _ _ W,J.cl,J.nc,nM _ _ _ _,ak,d.sub _ _ D,iT (by show 1<=1000;decide) (by(cbv;lia))|λU E=>?_];have gg:=d.trans (ag.put (o:=.lst ([.int 0]++(nI x.1).map V.int)) d.sub E);refine k _ _ _ s _ (0::nI x.1) (Mv.of a gg) (a.grow gg) ?_ %[U,rfl,ak|by(cbv;lia)];have i:(fK s.store)[j]?=some (qW s.pl x):=by rw[a.ok.all,eJ,I];rfl
 show(match(if(j:Int)<0 then none else(fK s.store)[(j:Int).toNat]?)with
  |none=>_
  |some x=>_)=_
 rw[aE (by exact ae8 j),gk,i];rfl
def ab5{κ:List Nat}(h:cy κ=true):∀c∈κ,c∈chars:=by
 intro c b;cases κ with
 |nil=>cases b
 |cons a r=>
  unfold cy at h
  grind [FQ,zB]
def O9{ν:List Str}(h:∀z∈ν,cy (tl z)=true)(w:List Nat):d6 (ν.map tl) (ph w)=d6 (ν.map tl) w:=by?
 unfold d6;have e:(ν.map tl).findIdx (λx=>x==ph w)=(ν.map tl).findIdx (λx=>x==w):=by
  induction ν with
  |nil=>rfl
  |cons a r c=>
   have b:=ab5 (h a (bQ ..));have f:(tl a==ph w)=(tl a==w):=by
    by_cases q:tl a=w
    .rw[q];have:ph w=w:=by rw[<-q];exact FR b
     rw[this]
    .have:¬tl a=ph w:=λz=>q ((jf b).mp z.symm).symm;rw[beq_eq_false_iff_ne.mpr this,beq_eq_false_iff_ne.mpr q]
   rw[cx,ae9,ae9,f,c λz d=>h z (bG _ d)]
 dsimp only;rw[e]
abbrev Hf:Stmt:=top 140
def O_:aV ["ledger","numbers","row","name"] aP (aM Hf):=aX
def ab6(G:aH K "answer_find" "answer_find" Hf f y)(T:ik K C.G)(c:iI K C.L)(g:GV r "DONE" (.int 0))(q:GV r "A_LOT" (.int 0))(t:GV r "A_PLACE" (.int 1))(x:GV r "NONE_THERE" (.int (-3)))(l:aW P w K r h "signs_of" 1 ["row"] yV):
  aJ P w K r h aR 2 f y aP (bR K C (o4 20) λ_ a=>.find a):=by?
 refine G.go O_ ?_;rintro _ _ _ _ _ _ _ _ H ⟨A,s,nums,row,u,v,F,rfl,I,b,Q,J,⟨ns,rfl,R,L⟩,k⟩;refine%[_,aw (bp 3 O_ (aI l H (ai (pv 2))))
  (aw (bW (bY pX (pv 3) (aG (aG (pv 0))) rfl) (au (aF (bH (ay (bC g) (ay (bC q) (ai (yY (aG (aG (pv 0))) (ai (pv 3))))))))) bZ)
  (aw (bW (bY pX (pv 3) (aG (aG (pv 0))) rfl) (au (aF (bH (ay (bC g) (ay (bC t) (ai (yY (aG (aG (pv 0))) (ai (pv 3))))))))) bZ)
  (au (aF (bH (ai (bC x)))))))|?_]
 refine%[ns,v,F,rfl,I,J,by exact bq (by assumption) (by decide)|λS U z m E=>?_];have e:=b.grow m;have M:t5 s.store ns=d6 (s.lots.map tl) (tl z):=by rw[E];exact(O9 b.ok.nm.1 ns).symm
 have N:jt s.store ns=d6 (s.places.map tl) (tl z):=by rw[E];unfold jt;rw[b.ok.vS];exact(O9 b.ok.nm.2 ns).symm
 have d:hJ (some s.store) (.find (nI ns))=(match d6 (s.lots.map tl) (tl z),d6 (s.places.map tl) (tl z)with
   |some i,_=>(some s.store,[0,0,(i:Int)])
   |none,some i=>(some s.store,[0,1,(i:Int)])
   |none,none=>(some s.store,[-3])):=by
  show(if(nI ns).all xh=false then _ else _)=_;rw[aE (G4 L),G5,M,N];rfl
 have O:km (.str z)=true:=rfl;refine%[e.g,T.cl,T.na,fX _ _ _,e.ly,c.cl,c.nl,lJ _ _ _,A.la,_,rfl,.inl (af.of e.la),rfl,mF _|⟨?_⟩];rw[aE dJ,sN];rcases nH (s.lots.map tl) (tl z)with⟨j,n,B⟩|⟨n,B⟩
 .rw[B];rw[n]at d;have ix:=yW n;refine a_ %[e.g,T.cl,T.na,fX _ _ _,e.ly,c.cl,c.nl,lJ _ _ _,.inl %[rfl,_|af.of e.la],A.la,_,_,j,_,rfl,rfl,af.of e.la,rfl,mF _,ix.1,(by show(z==z)=true;simp),ix.2,(by show 3<=bf;decide)|λp hp=>?_];have gg:=m.trans (ag.put (o:=.lst [.int 0,.int 0,.int (j:Nat)]) m.sub hp);exact k _ _ _ s _ [0,0,(j:Int)] (Mv.of b gg) (b.grow gg) d %[p,rfl,ak|by simp]
 .rw[B];rw[n]at d;refine bt %[e.g,T.cl,T.na,fX _ _ _,e.ly,c.cl,c.np,kF _ _ _,A.pa,_,rfl,.inl (af.of e.pa),rfl,mF _|⟨?_⟩];rw[aE dJ,sN];rcases nH (s.places.map tl) (tl z)with⟨j,o,D⟩|⟨o,D⟩
  .rw[D];rw[o]at d;have ix:=yW o;refine a_ %[e.g,T.cl,T.na,fX _ _ _,e.ly,c.cl,c.np,kF _ _ _,.inl %[rfl,_|af.of e.pa],A.pa,_,_,j,_,rfl,rfl,af.of e.pa,rfl,mF _,ix.1,(by show(z==z)=true;simp),ix.2,(by show 3<=bf;decide)|λp hp=>?_];have gg:=m.trans (ag.put (o:=.lst [.int 0,.int 1,.int (j:Nat)]) m.sub hp);exact k _ _ _ s _ [0,1,(j:Int)] (Mv.of b gg) (b.grow gg) d %[p,rfl,ak|by simp]
  .rw[D];rw[o]at d;refine bt %[dc|λp hp=>?_];have gg:=m.trans (ag.put (o:=.lst [.int (-3)]) m.sub hp);exact k _ _ _ s _ [-3] (Mv.of b gg) (b.grow gg) d %[p,rfl,ak|by trivial]
theorem Pc{pl:List (rA×Bool)}:∀(b:List Vbcraf.Entry) (w:WR),∀x∈eC n pl w b,∀i e,b[i]?=some e->x.1.getD i 0<e.ways.length
 |[],w,x,_,i,e,h=>by simp at h
 |f::r,w,x,a,i,e,h=>by
  obtain⟨d,hd,a⟩:=Qu.mp a;cases q:cJ n pl w d.1 with
  |none=>rw[q]at a;cases a
  |some v=>
   rw[q]at a;obtain⟨y,c,rfl⟩:=bF.mp a;cases i with
   |zero=>
    grind
   |succ i=>exact Pc r v y c i e (by simpa using h)
def SM.Ok.ab7(h:B.Ok):∀x∈B.ways,x.1.length=B.ents.length/\∀i,x.1.getD i 0<(B.ents.map eI).getD i 1:=λx a=>by
 have b:=(h.zF (bx _) x a).2.2;refine%[b|λi=>?_];cases e:B.ents[i]? with
 |none=>
  cbv
 |some ds=>
  have c:=Pc _ _ x (a) i (entryOf ds) (by cbv)
  simp_all [entryOf]
def ab8(b:cB)(f:List Nat×WR->Rat)(i c:Nat):sel (f_ b (b.map f) i) c=(b.filter λx=>x.1.getD i 0==c).map f:=by
 unfold sel f_;induction b with
 |nil=>rfl
 |cons a r d=>
  grind [Q_]
theorem ab9(h:B.Ok)(k l i c:Nat):Rk B.store k l i c=(lQ (f_ B.ways (B.ways.map λx=>dk x.2 k l) i) c).map bc:=by?
 unfold Rk lQ;rw[ab8];have e:(((fK B.store).filter λx=>x.1.getD i 0==c).map λx=>xg x.2 k l)=((B.ways.filter λx=>x.1.getD i 0==c).map λx=>dk x.2 k l).map bc:=by rw[h.all,adQ,cC,cC];exact jq λx b=>zT k l
 rw[e];cases q:(B.ways.filter λx=>x.1.getD i 0==c).map λx=>dk x.2 k l with
 |nil=>rfl
 |cons y a=>
  rw[GS];show some (Vbcraf.sub _ _)=some _;rw[sub_eq];rfl
def ab_(h:B.Ok)(k l i:Nat):Rl B.store k l i=(qM (f_ B.ways (B.ways.map λx=>dk x.2 k l) i) ((B.ents.map eI).getD i 0)).map bc:=by?
 unfold Rl qM;have d:((B.store.entries[i]?).map λe=>e.ways.length).getD 0=(B.ents.map eI).getD i 0:=by
  show(((B.ents.map entryOf)[i]?).map λe=>e.ways.length).getD 0=_;rw[eJ,ir,eJ];cases B.ents[i]? with
  |none=>rfl
  |some ds=>exact aY _
 rw[d];have f:((bV ((B.ents.map eI).getD i 0)).filterMap λc=>Rk B.store k l i c)=((bV ((B.ents.map eI).getD i 0)).filterMap (lQ (f_ B.ways (B.ways.map λx=>dk x.2 k l) i))).map bc:=by grind [ab9]
 rw[f];generalize(bV _).filterMap (lQ (f_ B.ways (B.ways.map λx=>dk x.2 k l) i))=a;have b:∀(a:List Rat) (o:Option Rat),(a.map bc).foldl (λ(o:Option Vbcraf.Q) x=>match o with
   |none=>some x
   |some y=>some (Vbcraf.most x y)) (o.map bc)=(a.foldl zA o).map bc:=by
  intro a;induction a with
  |nil=>intro o;rfl
  |cons y r g=>
   intro o;rw[cx,fI,fI,<-g];congr 1;cases o with
   |none=>rfl
   |some z=>
    show some _=some _;rw[Lo]
 exact b a none
def ab'(h:B.Ok)(k l:Nat):Rm B.store k l=(kH B.ways (B.ways.map λx=>dk x.2 k l) (B.ents.map eI) B.ents.length).map λp=>(p.1,bc p.2):=by?
 unfold Rm kH;have b:B.store.entries.length=B.ents.length:=aY _;have c:((bV B.ents.length).filter λi=>(B.store.entries[i]?).any λe=>decide (1<e.ways.length))=(bV B.ents.length).filter λi=>decide (1<(B.ents.map eI).getD i 0):=by
  congr 1;funext i;show(((B.ents.map entryOf)[i]?).any λe=>decide _)=_;rw[eJ,ir,eJ];cases B.ents[i]? with
  |none=>rfl
  |some ds=>
   show decide (1<(ds.map (·.bX)).length)=decide (1<ds.length);rw[aY]
 rw[b,c];generalize(bV B.ents.length).filter (λi=>decide (1<(B.ents.map eI).getD i 0))=is;have a:∀(is:List Nat) (o:Option (Nat×Rat)),is.foldl (λ(o:Option _) i=>match Rl B.store k l i with
   |none=>o
   |some x=>match o with
    |none=>some (i,x)
    |some y=>if IX x y.2=true then some (i,x)else o) (o.map λp=>(p.1,bc p.2))=(is.foldl (tw B.ways (B.ways.map λx=>dk x.2 k l) (B.ents.map eI)) o).map λp=>(p.1,bc p.2):=by
  intro is;induction is with
  |nil=>intro o;rfl
  |cons i r d=>
   intro o;rw[fI,fI,<-d,ab_ h];unfold tw;congr 1;cases qM (f_ B.ways (B.ways.map λx=>dk x.2 k l) i) ((B.ents.map eI).getD i 0)with
   |none=>rfl
   |some x=>
    cases o with
    |none=>rfl
    |some y=>
     show(if IX (bc x) (bc y.2)=true then _ else _)=Q0 _ (if x<y.2 then _ else _);rw[lt_eq];by_cases q:x<y.2<;>simp[q]
 exact a is none
abbrev Hg:Stmt:=top 136
def Hh:aV ["ledger","numbers","row","greens","best"] aP (aM Hg):=aX
def aca(Fn:aH K "answer_ask" "answer_ask" Hg f y)(T:ik K C.G)(d:GV r "DONE" (.int 0))(J:GV r "NO_ENTRY" (.int (-1)))(m:r "list"=aq)(e:iX P w K r h C)(hX:aW P w K r h "sold_greens" 5 ["ways","number","lot"] (vI K C.P C.W))(o:aW P w K r h "best_entry" 6 ["entries","ways","amounts"] (FP K C.P C.W C.D)):
  aJ P w K r h aR 7 f y aP (bR K C (fj "sold" "lot") λn _=>.ask (i0 n) (i1 n)):=by?
 refine Fn.go Hh ?_;rintro _ _ _ _ _ _ _ _ G ⟨A,s,nums,row,u,v,F,rfl,Y,c,⟨ul,rfl,L,_⟩,hv,⟨i,l,rfl,hi,hl⟩,k⟩;refine%[_,aw (bp 3 Hh (aI hX G (ay (fM e G (by decide) (pv 0)) (ay (aQ bA (pv 1) aL (λ_ _=>rfl)) (ai (aQ bA (pv 1) aL (λ_ _=>rfl)))))))
  (aw (bp 4 Hh (aI o G (ay (aG (pv 0)) (ay (fM e G (by decide) (pv 0)) (ai (pv 3))))))
  (aw (bW (bY uu (pv 4) j_ (b_ _)) (au (aF (bH (ay (bC d) (ai (bC J)))))) bZ)
  (au (aF (bJ eT (bH (ay (bC d) (ai (aQ cO (pv 4) aL (λ_ _=>rfl))))) (nr uD (by rfl) m boot_list (ai (aQ cO (pv 4) aL (λ_ _=>rfl)))))))))|?_]
 have t:=af.of (K:=K) (Y _ _ L);refine%[c.g,gO _ _ _,A,s,F,rfl,c|λwv M=>?_];refine%[t,bg (j:=0) rfl,t,bg (j:=1) rfl|?_];refine%[_,_,s.ways,i,l,wv,F,rfl,Y,M,c.ok.iq,by trivial|λZ H1 r1 U q1=>?_];have H:=c.grow U;obtain⟨es,a1,a2⟩:=H.ea;refine%[H.g,T.cl,T.ne,j3 _ _ _,H.g,gO _ _ _,A,s,Z,rfl,H|λO z=>?_];refine%[s.ents,s.ways,s.ways.map (λx=>dk x.2 i l),A.ea,es,O,r1,Z,rfl,U.sub,a1,a2,z,q1,by rw[aY],c.ok.ne,c.ok.tF _ (bx _),c.ok.ab7,λa ha=>?_|λF2 H2 r2 W I=>?_]
 .obtain⟨x,hx,rfl⟩:=bF.mp ha;obtain⟨ho,⟨N,hN,hs⟩,_⟩:=c.ok.iq x hx;exact(ES hs ho hN i l).lP
 have be:=ab' c.ok i l;have g:hJ (some s.store) (.ask (i:Int) (l:Int))=(match Rm s.store i l with
   |none=>(some s.store,[0,-1])
   |some x=>(some s.store,0::(x.1:Int)::rB x.2)):=by
  show(if pC s.store i=false\/kW s.store l=false then _ else _)=_;rw[aE (v7 (by rw[o3 c.ok];exact iL hi) (by simp_all [j4,iL])),gk,gk];rfl
 rw[be]at g;have j:=U.trans W;refine%[rfl|⟨?_⟩];cases hb:kH s.ways (s.ways.map λx=>dk x.2 i l) (s.ents.map eI) s.ents.length with
 |none=>
  rw[hb]at I g;rw[show r2=V.bB from I,bT rfl];refine a_ %[fV|λp hp=>?_];have gg:=j.trans (ag.put (o:=.lst [.int 0,.int (-1)]) j.sub hp);exact k _ _ _ s _ [0,-1] (Mv.of c gg) (c.grow gg) g %[p,rfl,ak|by omega]
 |some b=>
  rw[hb]at I g;obtain⟨ba,yv,rfl,B,⟨ya,rfl,Q⟩,_⟩:=I;rw[bK (λq=>by cases q)];have R:=bN.of (K:=K) (W.sub _ _ B);refine bt %[R,bg (j:=0) rfl,fV|λp3 D=>?_];have X:=j.trans (ag.bD (o:=.lst [.int 0,.int (b.1:Nat)]) j.sub D);refine%[bN.of (cQ D _ _ (W.sub _ _ B)),bg (j:=1) rfl,ya,_,rfl,.inr (X.sub.gK Q)|λp4 E=>?_];have g4:=X.trans (ag.bD (o:=.lst [.int b.2.num,.int b.2.den]) X.sub E);refine%[cQ E _ _ ak,ak,(by show 2+2<=bf;decide)|λp5 S=>?_];have gg:=g4.trans (ag.put (o:=.lst ([.int 0,.int (b.1:Nat)]++[.int b.2.num,.int b.2.den])) g4.sub S);exact k _ _ _ s _ [0,(b.1:Int),b.2.num,(b.2.den:Int)] (Mv.of c gg) (c.grow gg) g %[p5,rfl,ak|by simp]
abbrev zW{X:Cx}{o e:Expr}{to c:TE}{b a:Pos}:=@Bm X o e [] to (e9 c fS) "extend" b a "list" "list.extend" Ki Ir adb PySem.F.type_list_extend Tp
abbrev Hi:Stmt:=top 141
def zX:aV ["ledger","numbers","row","answer","entry","deeds"] aP (aM Hi):=aX
def v_(a:List (List DE)):List Int:=((bV a.length).zip a).flatMap λx=>if x.2.length<=1 then[]else[(x.1:Int),(x.2.length:Int)]
def acb(Fn:aH K "answer_unsettled" "answer_unsettled" Hi f y)(T:ik K C.G)(l:GV r "DONE" (.int 0))(j:r "len"=aq)(m:r "enumerate"=aq):aJ P w K r h aR 1 f y aP (bR K C iY λ_ _=>.unsettled):=by?
 refine Fn.go zX ?_;rintro _ _ _ _ H _ _ _ _ ⟨A,s,nums,row,u,v,F,rfl,M,a,hu,hv,_,k⟩;refine%[_,aw (bp 3 zX (bH (ai (bC l))))
  (aw (eO d9 rfl (BI rfl m (ai (aG (pv 0)))) (mj rfl (gI (bE 4 zX) (gI (bE 5 zX) mi)))
   (au (bW (bY oH (cg dG (by rfl) j du (ai (pv 5))) aL (b_ _)) (au (eN (zW (pv 3) (ai (bH (ay (pv 4) (ai (cg dG (by rfl) j du (ai (pv 5)))))))))) bZ)))
  (au (aF (pv 3))))|?_]
 refine%[dc|λD d=>?_];have N:=ag.bD (o:=.lst [.int 0]) M d;have h0:=a.grow N;have S:=M.free d;obtain⟨p,L,Z⟩:=a.ea;have le:=bu Z;have aa:=a.ok.many;refine%[h0.g,T.cl,T.ne,j3 _ _ _,af.of (N.same _ _ L)|?_];refine qm (J:=uJ K A.ea) (n:=p.length) (λi σ o=>X3 λ(G I:Option V) (b:List Int)=>A5 (σ=[some (.ref A.g),some u,some v,some (.ref D),G,I]) (ag F H F o) (o D=some (.lst (b.map V.int))) (b=0::v_ (s.ents.take i)) (b.length<=1+2*i))
  %[none,none,[0],rfl,N,ak,rfl|bx _] ?_ ?_ ?_
 .rintro σ o ⟨G,I,b,rfl,g,O,U,bz⟩;refine%[%[p,af.of (g.same _ _ L)|bx _]|?_];have W:=g.fix d O (.inl S);refine k _ _ _ s _ b (Mv.of a W) (a.grow W) ?_ %[D,rfl,ak|by lia];rw[U,le,eK];show(some s.store,0::((bV (s.ents.map entryOf).length).zip (s.ents.map entryOf)).flatMap λx=>if x.2.ways.length<=1 then[]else[(x.1:Int),(x.2.ways.length:Int)])=_;unfold v_;rw[aY,List.zip_map_right,Ao];congr 2;exact mE λx _=>by show(if(x.2.map (·.bX)).length<=1 then([]:List Int)else[(x.1:Int),((x.2.map (·.bX)).length:Int)])=_;rw[aY]
 .rintro i σ o X ⟨G,I,b,rfl,g,_⟩;exact%[p,p[i],af.of (g.same _ _ L)|cA X]
 .rintro i v0 σ o H2 X ⟨G,I,b,rfl,g,O,U,bz⟩ ⟨Tn,dv,rfl,Y,rfl,hT⟩;obtain⟨E,q,⟨dl,t,rfl,Q,z,_⟩⟩:=dh Z (hT p (af.of (g.same _ _ L)));have J:=g.trans (ag.bD (o:=.tup [.int (i:Nat),.ref dl]) g.sub Y);have n:(upd o Tn (.tup [.int (i:Nat),.ref dl])) D=some (.lst (b.map V.int)):=cQ Y _ _ O;have e:=J.same _ _ (M _ _ Q);have R:i<s.ents.length:=by exact place_lt q
  have eu:v_ (s.ents.take (i+1))=v_ (s.ents.take i)++if E.length<=1 then[]else[(i:Int),(E.length:Int)]:=by unfold v_;rw[jK,jK,t8 (by trivial),t8 (by exact dZ R),take_snoc q,pk,ae0 (by(cbv;lia)),ua];simp
  refine%[bN.of ak,rfl,rfl|?_];refine%[dl,t,rfl,.inl (af.of e)|⟨⟨?_⟩⟩];rw[bu z];by_cases c:1<E.length
  .rw[bT (by exact xb c)];refine a_ %[.inl %[rfl,_|af.of n],dl,t,rfl,.inl (af.of e),fV|λp3 B=>?_];rw[bu z];have g3:=J.trans (ag.bD (o:=.lst [.int (i:Nat),.int (E.length:Nat)]) J.sub B);refine%[cQ B _ _ n,ak,iT (by(cbv;lia)) (by show 2<=1000;decide),_,_,b++[(i:Int),(E.length:Int)],rfl,g3.iE d S,by rw[cF];exact ak,?_|?_]
   all_goals simp_all+arith
  .rw[bK (by lia)];refine bt %[_,_,b,rfl,J,n,?_|by lia]
   cbv
abbrev wb(r:Rat):List Int:=[r.num,(r.den:Int)]
def Pd(p:PR):List Int:=wb p.kilos++p.green.flatMap wb
def acd(l:List Rat):(l.map bc).flatMap rB=l.flatMap wb:=by rw[Ao];rfl
abbrev Hj:Stmt:=top 139
def zY:aV ["ledger","numbers","row","answer","part","amount"] aP (aM Hj):=aX
def ace(Fn:aH K "answer_inside" "answer_inside" Hj f y)(TP:lF K C.P)(TW:fY K C.W)(J:GV r "DONE" (.int 0))(L:r "list"=aq)(M:iX P w K r h C):
  aJ P w K r h aR 2 f y aP (bR K C (fj "way" "place") λn _=>.inside_ (i0 n) (i1 n)):=by?
 refine Fn.go zY ?_;rintro _ _ _ _ H _ _ _ hr ⟨A,s,nums,row,u,v,F,rfl,U,b,⟨ul,rfl,a4,_⟩,hv,⟨j,i,rfl,hj,hi⟩,k⟩;refine%[_,aw (bp 3 zY (bH (ai (bC J))))
  (aw (eO d9 rfl (cq (aQ bA (aG (aQ bA (fM M hr (by decide) (pv 0)) (aQ bA (pv 1) aL (λ_ _=>rfl)) (λ_ _=>rfl))) (aQ bA (pv 1) aL (λ_ _=>rfl)) (λ_ _=>rfl))) (bE 4 zY)
   (au (eO d9 rfl (cq (bJ eT (bH (ai (aG (pv 4)))) (aG (pv 4)))) (bE 5 zY)
    (au (eN (zW (pv 3) (ai (nr uD (by rfl) L boot_list (ai (pv 5))))))))))
  (au (aF (pv 3))))|?_]
 refine%[dc|λD o=>?_];have O:=ag.bD (o:=.lst [.int 0]) U o;have h0:=b.grow O;have nD:=U.free o;have X:=af.of (K:=K) (O.same _ _ (U _ _ a4));rw[GW]at hj;rw[OY]at hi;refine%[h0.g,gO _ _ _,A,s,F,rfl,h0|λwv %[wl,a5,e,a6,a7|_]=>?_];subst e;have Y:j<a5.length:=by grind [bu]
 obtain⟨x,hx,a8⟩:=dh a7 (cA Y);obtain⟨wa,cD,cv,cG,sv,tv,a9,hw,w1,w2,_⟩:=a8;have mx:=bO hx;obtain⟨ho,⟨N,hN,hs⟩,_⟩:=b.ok.iq x mx;have Z:i<x.2.places.length:=by rw[ho.len];exact hi
 obtain⟨l0,cL,y0,rfl,bb,bo,⟨pl,aa,rfl,br,ao,cM⟩⟩:=mJ w2 (i:=i) Z;refine%[X,bg (j:=0) rfl,af.of (O.sub _ _ a6),bg (cA Y)|?_];rw[a9];refine%[O.sub _ _ hw,TW.cl,TW.np,iV _ _ _ _,X,bg (j:=1) rfl,af.of (O.sub _ _ bb),bg bo|?_];have G:=U _ _ br;have ar:(fK s.store)[j]?=some (qW s.pl x):=by rw[b.ok.all,eJ,hx];rfl
 have cP:(aO x.2 i).length<=1000:=hs.oW hN (fE Z);have b6:∀p∈aO x.2 i,p.green.length=s.lots.length:=λp hp=>(ho.at_ i p hp).len;have dH:=b.ok.dH;refine%[%[_|af.of (O.same _ _ G)]|iB (K:=K) (a:=pl) (xs:=aa) (λm σ W=>X3 λ(q4 Q:Option V) (E:List Int)=>A5 (σ=[some (.ref A.g),some (.ref ul),some v,some (.ref D),q4,Q]) (ag F H F W) (W D=some (.lst (E.map V.int))) (E=0::((aO x.2 i).take m).flatMap Pd) (E.length<=1+14*m))
  %[none,none,[0],rfl,O,ak,rfl|bx _] (λm σ W _ %[_,_,_,_,g,_,_|_]=>af.of (g.same _ _ G)) ?_ ?_]
 .rintro m yv σ W hm ⟨q4,Q,E,rfl,g,eD,ez,bz⟩;obtain⟨p,hp,⟨a,dx,t,gv,rfl,ea,hk,⟨gl,d,rfl,b7,av,cW⟩⟩⟩:=dh ao hm;have c3:m<(aO x.2 i).length:=(fP.mp hp).1;have c0:=b6 p (bO hp);have c1:=bu av;have az:=g.same _ _ (U _ _ ea);refine%[az,TP.cl,TP.nk,qh _ _,dc|λp2 z=>?_];have g2:=g.trans (ag.bD (o:=.lst [t]) g.sub z);refine%[cQ z _ _ az,TP.cl,TP.ng,nG _ _,ak,g2.same _ _ (U _ _ b7),iT (by show 1<=1000;decide) (by lia)|λp3 R=>?_];have g3:=g2.trans (ag.bD (o:=.lst ([t]++d)) g2.sub R);have b8:(upd (upd W p2 (.lst [t])) p3 (.lst ([t]++d))) D=some (.lst (E.map V.int)):=cQ R _ _ (cQ z _ _ eD);have I:Paired (bS K F) ([t]++d) (p.kilos::p.green):=.cons hk av;have c2:p3≠D:=(eZ (cQ (o:=.lst [t]) z _ _ eD) R).symm;refine%[%[_|af.of ak]|iB (K:=K) (a:=p3) (xs:=[t]++d) (λq σ l=>X2 λ(Q:Option V) (S:List Int)=>A6 (σ=[some (.ref A.g),some (.ref ul),some v,some (.ref D),some (.ref a),Q]) (ag F H F l) (l p3=some (.lst ([t]++d))) (l D=some (.lst (S.map V.int))) (S=E++((p.kilos::p.green).take q).flatMap wb) (S.length<=1+14*m+2*q))
   %[_,E,rfl,g3,ak,b8,by simp|bz] (λq σ l _ %[_,_,_,_,e,_,_|_]=>af.of e) ?_ ?_]
  .rintro q zv σ l hq ⟨Q,S,rfl,gq,b9,B,ey,T⟩;obtain⟨c,a0,⟨ra,rfl,cc⟩⟩:=dh I hq;refine%[.inl %[rfl,_|af.of B],ra,_,rfl,.inr (gq.sub.gK cc)|λp5 a3=>?_];have g5:=gq.trans (ag.bD (o:=.lst [.int c.num,.int c.den]) gq.sub a3);have ck:q<(p.kilos::p.green).length:=(fP.mp a0).1;rw[iu]at ck;refine%[cQ a3 _ _ B,ak,?_,_,S++wb c,rfl,g5.iE o nD,?_,?_,?_|?_]
   .rw[aY];exact gC (eW (by show _+2<=_;lia))
   .grind [aB]
   .rw[cF];exact ak
   .rw[take_snoc a0,ua,ey,lW];simp
   simp_all+arith
  .rintro σ l ⟨Q,S,rfl,gq,b9,B,ey,T⟩;have cm:([t]++d).length=(p.kilos::p.green).length:=bu I;rw[cm]at T ey;rw[eK]at ey;rw[iu]at T;refine%[_,_,S,rfl,gq,B,?_|by lia];have cn:(aO x.2 i)[m]?=some p:=hp;rw[ey,ez,take_snoc cn,ua,List.flatMap_singleton,jr];rfl
 .rintro σ W ⟨q4,Q,E,rfl,g,eD,ez,bz⟩;have lp:=bu ao;have cp:aa.length=(aO x.2 i).length:=lp;rw[cp,eK]at ez;have gf:=g.fix o eD (.inl nD);refine k _ _ _ s _ E (Mv.of b gf) (b.grow gf) ?_ %[D,rfl,ak|by lia];show(if ud s.store i=false then _ else match(if(j:Int)<0 then none else(fK s.store)[(j:Int).toNat]?)with
   |none=>_
   |some x=>_)=_
  rw[aE (by rw[tK b.ok,iL (by rw[OY];exact hi)];simp),aE (by exact ae8 j),gk,ar];show(some s.store,0::(Rc (x.2.q s.pl) i).flatMap λp=>rB p.kilos++p.green.flatMap rB)=_;rw[qc i (b.ok.oZ mx).len,Ao,ez];congr 2;exact mE λp _=>by show rB (bc p.kilos)++(p.green.map bc).flatMap rB=Pd p;rw[acd];rfl
abbrev Hk:Stmt:=top 144
def tM:aV ["ledger","numbers","row","answer","place","greens","green"] aP (aM Hk):=aX
def zZ(s:SM)(l i:Nat):List Int:=match Ri s.store i l with
 |none=>[]
 |some r=>if IX i6 r.2=true then(i:Int)::rB r.1++rB r.2 else[]
def acf{I d:Nat}(a:G.Ok n j):0<=kG G d I:=by
 refine jB λx b=>?_;obtain⟨p,hp,rfl⟩:=bF.mp b;rw[ir];cases e:p.green[I]? with
 |none=>exact mY
 |some g=>exact(a.at_ d p hp).nn g (bO e)
def acg(h:B.Ok)(l i:Nat)(e:(B.ways.map λx=>kG x.2 i l)=Z::Θ):zZ B l i=if((Z::Θ).map λr:Rat=>!decide (r=0)).any id=true then(i:Int)::lO Z Θ else[]:=by?
 unfold zZ Ri;rw[zU,h.over (f:=λx=>IU B.lots.length x i l) (g:=λw=>kG w i l) λx c=>OV (h.oZ c) i l,e,GS];dsimp only;rw[zero_eq,lt_eq];have nn:∀r∈Z::Θ,0<=r:=λr a=>by rw[<-e]at a;obtain⟨x,c,rfl⟩:=bF.mp a;exact acf (h.oZ c)
 have f:((Z::Θ).map λr:Rat=>!decide (r=0)).any id=decide (0<fW Z (Z::Θ)):=by
  by_cases q:0<fW Z (Z::Θ)
  .grind [N_,g_]
  .rw[bK q,ac6];intro b g d;obtain⟨r,a,rfl⟩:=bF.mp g;have j:=d;have:=FK _ Z r a
   grind
 rw[f];rfl
def ach(Fn:aH K "answer_where" "answer_where" Hk f y)(T:ik K C.G)(M:iI K C.L)(hZ:lE K r "ZERO" 0)(t:GV r "DONE" (.int 0))(U:r "len"=aq)(j:r "range"=aq)(O:r "any"=aq)(z:iX P w K r h C)(hB:qT P w K r h)(hX:aW P w K r h "place_greens" 5 ["ways","place","lot"] (zp K C.P C.W)):
  aJ P w K r h aR 6 f y aP (bR K C (gB "lot") λn _=>.where_ (i0 n)):=by?
 refine Fn.go tM ?_;rintro _ _ _ _ H _ _ _ W ⟨A,s,nums,row,u,v,F,rfl,hF,a,⟨ul,rfl,aa,_⟩,hv,⟨l,rfl,hl⟩,k⟩;obtain⟨zz,hz,ao⟩:=hZ.ex;refine%[_,aw (bp 3 tM (bH (ai (bC t))))
  (aw (eO d9 rfl (JB rfl j (ai (cg dG (by rfl) U du (ai (aG (aG (pv 0))))))) (bE 4 tM)
   (aw (bp 5 tM (aI hX W (ay (fM z W (by decide) (pv 0)) (ay (pv 4) (ai (aQ bA (pv 1) aL (λ_ _=>rfl)))))))
   (au (bW (eQ (cg (Ku rfl) (by rfl) O boot_any (ai (dC (own:=[("green",6)]) (te:=e6 (Br K) (cf 6) (tC (.ref zz))) tM (cq (pv 5)) (bE 6 tM) cR (i7 (Kv W.units) (pv 6) (ke (v:=.ref zz) rfl hz rfl) rfl)))) (λ_=>rfl))
    (aw (eN (iG (pv 3) (ai (pv 4)))) (au (eN (zW (pv 3) (ai (aI hB W (ai (pv 5)))))))) bZ))))
  (au (aF (pv 3))))|?_]
 refine%[dc|λD i=>?_];have g0:=ag.bD (o:=.lst [.int 0]) hF i;have h0:=a.grow g0;have nD:=hF.free i;have dH:=a.ok.dH;refine%[h0.g,T.cl,T.na,fX _ _ _,h0.ly,M.cl,M.np,kF _ _ _,A.pa,_,rfl,.inl (af.of h0.pa),?_,?_|?_]
 .simp
 ·(cbv;lia)
 rw[aY,gk];refine JC (n:=s.places.length) (λm σ X=>X4 λ(L:Hp) (q4 q5:Option V) (o:List Int)=>A6 (σ=[some (.ref A.g),some (.ref ul),some v,some (.ref D),q4,q5,aq]) (ag F H L X) (L D=aq) (X D=some (.lst (o.map V.int))) (o=0::(bV m).flatMap (zZ s l)) (o.length<=1+5*m))
  %[F,none,none,[0],rfl,g0,nD,ak,rfl|bx _] ?_ ?_
 .rintro m σ X hm ⟨L,q4,q5,o,rfl,g,E,Y,ez,bz⟩;rw[Int.zero_add];have h1:=a.grow g;have ar:=af.of (K:=K) (g.same _ _ (hF _ _ aa));refine%[h1.g,gO _ _ _,A,s,L,rfl,h1|λwv av=>?_];refine%[ar,bg (j:=0) rfl,_,_,s.ways,m,l,wv,L,rfl,g.sub,av,a.ok.iq,hm,by trivial|λF2 H2 r2 g2 q2=>?_];obtain⟨c,yr,ey⟩:=qR a.ok λx=>kG x.2 m l
  rw[ey]at q2;have wq:=acg a.ok l m ey;obtain⟨gl,a6,rfl,az,a0,a3⟩:=id q2;have p:=g2.sub _ _ az;refine%[%[_|af.of p]|dI (K:=K) (S:=λF v (b:Bool)=>v=V.bl b) (R:=bS K F2) (λd:Rat=>!decide (d=0)) g2.sub (af.of p) a0 a3 (λ_ _ _ _ _ q=>q) ?_ ?_]
  .rintro q v' d Q H3 hq a4 g3 Qk kq;refine%[_,_,sE ((a4.mono g3.fs).mono g3.sub),sE (r:=0) %[zz,rfl|ao _],sG _,sG _|kq _ _ Q (ag.refl g3.sub) ?_];rw[CO]
  .rintro Q H3 B g3 ⟨B',a7,e,R,pB,_⟩;cases e;have ev:=lH (f:=V.bl) pB;rw[ev]at R;have G:=g2.trans g3;have gg:=g.trans G;have I:=G.same _ _ Y;have J:=G.out Y E;refine%[af.of (g3.sub _ _ R),_,rfl|?_];cases hb:((c::yr).map λd:Rat=>!decide (d=0)).any id with
   |true=>
    rw[hb,aS rfl]at wq;refine a_ %[.inl %[rfl,_|af.of I],I,eW (by grind)|?_];have g4:ag F H Q (upd H3 D (.lst (o.map V.int++[.int (m:Nat)]))):=gg.iE i J;refine%[.inl %[rfl,_|af.of ak],c,yr,_,Q,rfl,g4.sub,dR.up q2 g3.fs,?_|λF5 H5 r5 Z %[bl,e5,a5|_]=>?_]
    .rw[<-ey];exact qS a.ok (g:=λw=>kG w m l) λw N hN hs ho=>by obtain⟨KK,DD,wr⟩:=hs.iK hN;exact((wr.gY hs ho hN (fE (by rw[ho.len];exact hm))).CI l).lP
    subst e5;have S:=Z.out ak J;refine%[Z.same _ _ ak,Z.sub _ _ a5,?_,F5,_,_,o++(m:Int)::lO c yr,rfl,(g4.trans Z).iE i S,S,?_,?_|?_]
    .rw[dB,aY,aY];exact gC (eW (by show _+1+4<=_;lia))
    .rw[cF,cx,lW];exact ak
    .simp_all [pk]
    .rw[dB];show _+5<=_;exact aeH bz 5
   |false=>
    rw[hb,aE dJ]at wq;refine bt %[Q,_,_,o,rfl,gg,J,I,?_|by lia]
    simp_all [pk]
 .rintro σ X ⟨L,q4,q5,o,rfl,g,E,Y,ez,bz⟩;have gf:=g.fix i Y (.inl E);refine k _ _ _ s _ o (Mv.of a gf) (a.grow gf) ?_ %[D,rfl,ak|by lia];show(if kW s.store l=false then _ else _)=_;rw[aE (by simp_all [j4,iL]),ez];show(some s.store,0::(bV s.store.places.length).flatMap (zZ s l))=_;rw[show s.store.places.length=s.places.length from a.ok.kJ]
end
end
section
variable{prog:aC}{w:World}{K:Type}[DecidableEq K]{knd:KeyKind prog w K}
def mR(knd:KeyKind prog w K)(p:K×Value):Int×Value:=(knd.hash p.1,p.2)
def kM(knd:KeyKind prog w K)(l:List (K×Value)):List Int:=l.map λp=>knd.hash p.1
def tN(knd:KeyKind prog w K)(p:K×Value):Prop:=knd.is p.1 p.2=true/\p.2.scannable=true/\plainKind p.2=true
structure jG(knd:KeyKind prog w K)(led:Bool)(h:ax)(S:ae)(l:List (K×Value)):Prop where
 ex:∃o a b t,h.get? S=some o/\o.ExactSet/\o.data=.set a b t/\a.toList=l.map (mR knd)/\Tab t (kM knd l)/\l.length*5<t.mask*3/\t.mask<=8191/\t.plain=true/\t.led=led
 keys:∀p∈l,tN knd p
section
variable{Y:SetTable}{ρ:Array (Int×Value)}
def aci{U:List Int}(T:Tab Y U)(a:U.length+1<=Y.mask)(v:ρ.size=U.length)(h:Int)(x:Value):X1 λj=>A3 (layNew Y ρ h x=(rp ρ (Y.put j).2 (h,x),(Y.put j).1,false,false)) ((Y.put j).2<=U.length) (Tab (Y.put j).1 (U.take (Y.put j).2++h::U.drop (Y.put j).2)):=by?
 obtain⟨n,l,c,g⟩:=T.free (by exact dZ a) h;have o:Y.probe (λt=>h+1) h (Y.probeStart h)=some (.empty (path Y (Y.probeStart h) n).j none):=by
  have:=DS (hashAt:=λt=>h+1) (h:=h) T.DT n _ _ l (λm r q=>?_) (.inl (vm T.lL c))
  .unfold SetTable.probe;rw[this];unfold sR;rw[vm T.lL c];rfl
  .rcases q with q|⟨i,_,q⟩
   .obtain⟨i,p,e⟩:=zc (g m r);rw[<-e,vk T.rise p]at q;cases q
   grind
 obtain⟨d,k⟩:=T.put c g;refine%[(path Y _ n).j,?_,d|k];have u:Y.freeSlot h=some ((path Y (Y.probeStart h) n).j,false):=by unfold SetTable.freeSlot;rw[o];rfl
 have f:(rp ρ (Y.put (path Y (Y.probeStart h) n).j).2 (h,x)).size=U.length+1:=by grind [wC,vn]
 have fit:=by
  have b:(U.take (Y.put (path Y (Y.probeStart h) n).j).2++h::U.drop (Y.put (path Y (Y.probeStart h) n).j).2).length=U.length+1:=by simp;simp+arith [*]
  have:=k.fits (by rw[b];exact a);rw[b]at this;exact this
 unfold layNew;rw[u];dsimp only;rw[f];unfold SetTable.orStandIn;rw[fit];rfl
def acj{l:List (K×Value)}(T:Tab Y (kM knd l))(h:ρ.toList=l.map (mR knd))(M:l.length<2048)(hp:0<l.length):
  X3 λd a g=>A8 (relayAll Y ρ (w_ ρ.size)=(d,a,false)) (d.toList=g.map (mR knd)) (g.Perm l) (Tab a (kM knd g)) (g.length*5<a.mask*3) (a.mask<=8191) (a.plain=Y.plain) (a.led=Y.led):=by?
 have m:ρ.size=l.length:=by grind [aY]
 have at_:∀i:Nat,ρ[i]?=(l[i]?).map (mR knd):=λi=>by rw[<-AG,h,eJ]
 have gr:w_ ρ.size=4*l.length:=by
  unfold w_
  (cbv;lia)
 rw[gr];obtain⟨k,y,N,lt⟩:=Nr (n:=4*l.length) (by lia);have le:AF (4*l.length)<=2^13:=DX 64 3 _ (by decide) (by lia);have z:(2:Nat)^13=8192:=rfl;obtain⟨a,order,B,u,n,C,D,o⟩:=Nu (mask:=AF (4*l.length)-1) (finger:=Y.finger) (led:=Y.led) (plain:=Y.plain) (hashes:=ρ.map (·.1)) %[k,y|by grind-order] (by(cbv;lia));have v:Y.relaid (ρ.map (·.1)) (4*l.length)=some (a,order):=B;rw[Array.size_map,m]at u;have L:(order.filterMap (ρ[·]?)).toList=(order.toList.filterMap (l[·]?)).map (mR knd):=by simp_all [Aw]
 have b:(order.toList.filterMap (l[·]?)).Perm l:=by grind [range_all]
 have c:(order.toList.map λk=>(ρ.map (·.1)).getD k 0)=kM knd (order.toList.filterMap (l[·]?)):=by
  unfold kM;rw[Aw];have:∀(q:List Nat),(∀i∈q,i<l.length)->(q.map λk=>(ρ.map (·.1)).getD k 0)=q.filterMap λi=>Q0 (λp:K×Value=>knd.hash p.1) l[i]?:=by
   intro q;induction q with
   |nil=>intro t;rfl
   |cons i q F=>
    intro x;have r:=x i bQ;rw[cx,IC,F λj G=>x j (bG _ G),cA r];simp only[aez];congr 1;have e:i<ρ.size:=by rw[m];exact r
    have:=at_ i;rw[t9 e,cA r]at this;have this:=cE this;rw[Q1,aeA,t9 e,this];rfl
  grind
 rw[c]at o;have f:=b.length_eq;have H:(order.filterMap (ρ[·]?)).size=l.length:=by grind [aY]
 have fit:a.fits l.length=true:=by
  have I:(kM knd (order.toList.filterMap (l[·]?))).length=l.length:=by simp_all [kM]
  have:=o.fits (by rw[I,n];(cbv;lia))
  cbv
 have J:coversAll order ρ.size=true:=by unfold coversAll;rw[m];exact List.isPerm_iff.mpr u
 refine%[_,a,order.toList.filterMap (l[·]?),?_,L,b,o,by rw[f,n];(cbv;lia),by rw[n];exact Nat.sub_le_of_le_add le,D|C];unfold relayAll
 cbv
def jG.ack{led:Bool}{l:List (K×Value)}(a:ρ.toList=l.map (mR knd))(keys:∀p∈l,tN knd p):ElemsOf knd ρ.toList:=by intro e b;rw[a]at b;obtain⟨p,hp,rfl⟩:=bF.mp b;obtain⟨c,d,f⟩:=keys p hp;exact%[%[p.1,c|rfl]|d]
end
def add_int{a:ae}{Η:Bool}{η:Value}{A:Around}{E:Value->aj->Prop}{s:aj}{l:List (K×Value)}{k:K}{Q:Bool->aj->Prop}(X:jG knd Η s.heap a l)(hk:tN knd (k,η))(hn:l.length+1<2048)
  (W:(∃p∈l,p.1=k)->Q false s)
  (no:(∀p∈l,p.1≠k)->∀M Y,gD a s.heap M->jG knd Η M a Y->Y.Perm ((k,η)::l)->Q true {s with heap:=M}):
  wpAny (model prog w) A (setAddHashed a η (knd.hash k)) Q E s:=by?
 obtain⟨o,h,ep,t,I,Z,hd,i,T,aa,V,N,v⟩:=X.ex;have keys:=X.keys;obtain⟨f,m,y⟩:=hk;have hl:h.size=l.length:=by grind [aY]
 have J:(kM knd l).length=l.length:=aY _;have fit:t.fits h.size=true:=by
  have:=T.fits (by rw[J];lia)
  cbv
 have z:=jG.ack (led:=Η) i keys;unfold setAddHashed setAddHashedIn;refine kX (aA (pK I hd fit ?_));dsimp only;rw[byScan_of m (by rw[hl];show _<4096;lia) z];simp only[↓reduceIte];unfold setAddByScan;refine aA ?_;refine aA (wpAny_rule ?_);refine aA (wpAny_setScan_of f I hd fit z ?_);cases hr:List.findIdx? (λe=>knd.is k e.2) h.toList with
 |some j=>
  dsimp only;obtain⟨hj,B,x⟩:=List.findIdx?_eq_some_iff_getElem.mp hr;refine bh (bh (W ?_));obtain⟨p,hp,e⟩:=(λe he=>by rw[i]at he;exact bF.mp he) _ (wL hj)
  refine%[p,hp|?_];rw[<-e]at B;exact knd.inj p.2 p.1 k (keys p hp).1 B
 |none=>
  dsimp only;have O:∀p∈l,p.1≠k:=λp hp e=>by
   have V:mR knd p∈h.toList:=by grind
   have:=List.findIdx?_eq_none_iff.mp hr _ V;have h2:=(keys p hp).1
   simp_all [mR]
  have H:=no O;obtain⟨j,eL,P,T1⟩:=aci T (by rw[J];lia) (hl.trans J.symm) (knd.hash k) η;generalize hp:(t.put j).2=p at*;rw[J]at P;rw[eL];dsimp only;have C:(rp h p (knd.hash k,η)).toList=(l.take p++(k,η)::l.drop p).map (mR knd):=by rw[vn h p _ (by simp[*]),i,cF,cx,rh,t_];rfl
  have b:(l.take p++(k,η)::l.drop p).Perm ((k,η)::l):=by grind [lZ]
  have g:(l.take p++(k,η)::l.drop p).length=l.length+1:=b.length_eq;have L:Tab (t.put j).1 (kM knd (l.take p++(k,η)::l.drop p)):=by simp_all [kM,rh,t_]
  have m1:(t.put j).1.mask=t.mask:=rfl;have R:(t.put j).1.plain=true:=N;have l1:(t.put j).1.led=Η:=v;generalize ao:(t.put j).1=t1 at*;generalize ar:rp h p (knd.hash k,η)=n at*;generalize av:l.take p++(k,η)::l.drop p=D at*;have c:∀q∈D,tN knd q:=λq F=>by
   rcases cU.mp (b.mem_iff.mp F)with rfl|F
   .exact%[f,m|y]
   .exact keys q F
  have z1:n.size=l.length+1:=by grind [aY]
  have sl:bf=16777216:=rfl;refine aA (bh ?_);rw[aS R];refine aA ?_;rw[hashByValue_scannable 8 m,y];refine bh ?_;simp only[↓reduceIte];refine aA (wpAny_storeSet_of I hd ?_ (by rw[z1,sl];lia));have U:=zf I hd n t1;have ff:t1.fill=l.length+1:=by
   unfold QX;rw[L.lL,L.len]
   simp_all [kM]
  by_cases d:t1.tooFull=true
  .rw[aS (by rw[d];rfl)];obtain⟨r,t2,l2,eR,G,u,T3,r3,k3,p3,l3⟩:=acj L C (by simp[*]) (by exact IF g);rw[eR];dsimp only;have z2:r.size=l.length+1:=by rw[<-wC,G,aY,u.length_eq,g]
   refine aA (bh ?_);refine aA (wpAny_storeSet_of U rfl ?_ (by rw[z2,sl];lia));refine bh ?_;dsimp only;exact bh (H _ l2 ((kU s.heap a _).trans (kU _ a _)) %[%[_,r,_,t2,zf U rfl r t2,Z,rfl,G,T3,r3,k3,p3.trans R|l3.trans l1]|λq F=>c q (u.mem_iff.mp F)] (u.trans b))
  .rw[aE (by simpa using d)];refine bh ?_;dsimp only;refine bh (H _ D (kU s.heap a _) %[%[_,n,_,t1,U,Z,rfl,C,L,?_,by rw[m1];exact V,R|l1]|c] b);unfold SetTable.tooFull at d
   cbv
end
section
variable{C:CA}{D a f:ae}{K:ah}{P:aC}{U:List Int}{m x:Str}{n:Nat}{w:World}{y:aK}
section
variable{A:Around}{E Q:Value->aj->Prop}{N:Type}{X:Cx}{Y:SetTable}{j:Nat}{l:ae}{prog τ:aC}{s:aj}{Η:Bool}{ρ:Array (Int×Value)}{χ:Obj}
def jG.kept{h u:ax}{l:List (Int×Value)}(X:jG (j8 P w) Η h a l)(k:∀o,h.get? a=some o->u.get? a=some o):jG (j8 P w) Η u a l:=by obtain⟨⟨o,b,c,t,d,r⟩,keys⟩:=X;exact%[%[o,b,c,t,k o d|r]|keys]
def qU(a:Nat->Int)(i:Nat)(l:List (Int×Value)):Prop:=(l.map (·.1)).Nodup/\∀k,k∈l.map (·.1)↔∃j,j<i/\a j=k
def qU.le{d:Nat->Int}{l:List (Int×Value)}(c:qU d n l)(f:∀a,a<n->0<=d a/\d a<j):l.length<=j:=by
 have:=oT _ ((bV j).map λb:Nat=>(b:Int)) c.1 λx g=>by obtain⟨a,h,e⟩:=(c.2 x).mp g;have:=f a h;exact bF.mpr %[x.toNat,kT.mpr (by cbv)|by lia]
 simpa using this
def acm(n:Int)(t:Tok):tN (j8 P w) (n,.int n t):=%[ae_ _ _ _ _,rfl|rfl]
def acn{Μ wr:List ae}{R:Result->aj->Prop}{G:Array GenState->Array GenState->Prop}{P:Nat->Value->Prop}{St:Nat->aj->Prop}(W:WalksS τ w A.in1 a Μ wr G n P St)(S:ae)(B:S∉Μ)(ka:Nat->Int)(hb:j+1<2048)(K:∀f,f<n->0<=ka f/\ka f<j)(hP:∀f v,P f v->∃t,v=.int (ka f) t):
  ∀(d i:Nat) (s:aj) (l:List (Int×Value)),n-i=d->i<=n->St i s->jG (j8 τ w) Η s.heap S l->qU ka i l->
   (∀g h,Moved (S::wr) G s g->jG (j8 τ w) Η g.heap S h->qU ka n h->R (.ok (.ret .none)) g)->
   codeAny (model τ w) A (.builtin "set.update.loop" %[[.ref S,.ref a]|[]]) R s:=by?
 have C:S∉wr:=λq=>B (W.sub _ q);have up:∀b∈wr,b∈S::wr:=λb q=>bG _ q;intro d;induction d with
 |zero=>
  intro i s l hk hi u L r M;obtain rfl:i=n:=by lia
  refine rG IE ?_;show wpAny _ A.in1 (pyNext (.ref a)>>=_) _ _ s;exact aA (W.done s _ _ u λg H=>bh (M g l (H.mono up) (L.kept λo e=>H.heap S o C e) r))
 |succ d ih=>
  intro i s l hk hi u L r M;have lt:i<n:=by exact IF hk
  refine rG IE ?_;show wpAny _ A.in1 (pyNext (.ref a)>>=_) _ _ s;refine aA (W.item i s _ _ lt u λv g hv D H=>?_);obtain⟨N,rfl⟩:=hP i v hv;have O:Moved (S::wr) G s g:=H.mono up;have E:jG (j8 τ w) Η g.heap S l:=L.kept λo e=>H.heap S o C e;refine aA (kX ?_);unfold setAdd;refine kX (aA ((j8 τ w).pyHash (k:=ka i) (ae_ _ _ _ _) ?_));have next:∀(z:ax) (tk:Nat) (h:List (Int×Value)),g.toks<=tk->gD S g.heap z->jG (j8 τ w) Η z S h->qU ka (i+1) h->codeAny (model τ w) A (.builtin "set.update.loop" %[[.ref S,.ref a]|[]]) R {g with heap:=z,toks:=tk}:=by
   intro z tk h F J Q c';have T:=O.then_heap F λc o x e=>by rw[J.2 c λq=>x (by rw[q];exact bQ)];exact e
   refine ih (i+1) _ h (by omega) lt (W.frame _ g _ _ D F λc x o e=>?_) Q c' λU V X Y Z=>M U V (Moved.trans W.gtrans T X) Y Z;rw[J.2 c λq:c=S=>B (by rw[<-q];exact x)];exact e
  have hl:=r.le λf hj=>K f (by exact fz hj hi);refine add_int (s:={g with toks:=g.toks+1}) E (acm (ka i) N) (by lia) (λy=>?_) λy z h J Q pm=>?_
  .refine bh %[uh IG _|next g.heap _ l (wW _ _) (gD.refl _ _) E %[r.1|λk=>?_]];rw[r.2 k];constructor
   .grind
   .rintro⟨f,hj,e⟩;rcases om f i with q|q
    .exact%[f,q|e]
    .have:f=i:=by exact aeC q hj
     subst this;obtain⟨p,hp,e'⟩:=y;exact(r.2 k).mp (bF.mpr %[p,hp|e'.trans e])
  .refine bh %[uh IG _|next z _ h (wW _ _) J Q %[?_|λk=>?_]]
   .refine((pm.map (·.1)).nodup_iff).mpr ?_;rw[cx,lV];refine%[λq=>?_|r.1]
    grind
   .rw[(pm.map (·.1)).mem_iff,cx,cU,r.2 k]
    grind
def aco{Ρ:Array Value}{ka:Nat->Int}
  (J:A.handled=none)(G:s.heap.IsList l Ρ)(K:∀(i:Nat) v,Ρ[i]?=some v->∃t,v=.int (ka i) t)(L:n+1<2048)(u:∀j,j<Ρ.size->0<=ka j/\ka j<n)
  (h:∀(r:ax) (tk:Nat) (n:List (Int×Value)),s.toks<=tk->jG (j8 P w) (iJ w) r ↥s n->qU ka Ρ.size n->
   (∀b o,b<↥s->s.heap.get? b=some o->r.get? b=some o)->Q (.ref ↥s) {s with heap:=r,toks:=tk}):
  wpAny (model P w) A (call (.type "set") [.ref l]) Q E s:=by?
 obtain⟨T,d,g⟩:=id G;have H:=bU d;have at_:∀b o,s.heap.get? b=some o->(lM w s.heap l).get? b=some o:=λb o e=>bL _ (bL _ e)
 have sz:(s.heap.push (nL (iJ w))).objs.size=↥s+1:=eG _ _;have D:(lM w s.heap l).IsListIter (↥s+1) l 0:=%[_,by rw[<-sz];exact cV _ rfl,rfl|rfl];have f:(lM w s.heap l).get? ↥s=some _:=bL _ (cV _ rfl);have y:=dn (o_ H);have C:↥s∉[↥s+1,l]:=λq=>(cU.mp q).elim (λz=>aT z (dn (wu _))) λz=>aT (fJ.mp z) (j5 H);have I:∀{t:aj},Moved _ (λa b=>b=a) {s with heap:=lM w s.heap l} t->∀b o,b<↥s->s.heap.get? b=some o->t.heap.get? b=some o:=λn b o bl e=>n.heap b o (λq=>(cU.mp q).elim (λz=>aT z (dn bl)) λz=>aT (fJ.mp z) (dn (o_ bl))) (at_ b o e);refine Nz (X:=λt=>X1 λn=>A3 (Moved (↥s::[↥s+1]) (λa b=>b=a) {s with heap:=lM w s.heap l} t) (jG (j8 P w) (iJ w) t.heap ↥s n) (qU ka Ρ.size n)) G (λB R M U k=>?_) λt %[n,F,X|c]=>?_
 .exact acn (ka:=ka) ((HL (M J) _ l y Ρ).toS) _ C L u K (Ρ.size-0) 0 _ [] (by simp) (bM _) %[D|%[T,at_ _ _ d|g]] %[%[_,#[],0,_,f,%[rfl,rfl|rfl],rfl,rfl,NA _,(by show 0*5<7*3;decide),(by show 7<=8191;decide),rfl|rfl]|(λp hp=>nomatch hp)] %[rm|λx=>%[(λq=>nomatch q)|λ%[j,N|_]=>aT N (ID _)]] λt n F X c=>k t %[n,F,X|c]
 .obtain⟨r,V,W,O,S⟩:=t;obtain⟨m,Y,Z,eo,et⟩:=F
  grind
inductive qV(h:ax)(b S:ae)(slot i n a:Nat):Prop
 |mk o(c:h.get? b=some o)(c:o.cls=.type "set_iterator")(c:o.data=.fields #[.int slot 0,.int i 0,.ref S,.int n 0,.int a 0])
def qV.typeIs{it S slot i n a}(x:qV s.heap it S slot i n a):s.TypeIs (.ref it) "set_iterator":=let%[o,b,c|_]:=x;%[o,b|c]
def acs{Q:Bool->aj->Prop}(c:s.heap.get? a=some χ)(hd:χ.data=.set ρ n Y)(fit:Y.fits ρ.size=true)(b:Y.plain=true)(h:Q false s):wpAny (model P w) A (setDrawn a) Q E s:=by refine aA (pK c hd fit ?_);refine aA (aA (AO (bh ?_)));refine bh ?_;show Q (!w.params.followText _&&(!Y.plain&&decide _)) s;rw[b];simpa using h
def acu(b:s.heap.get? a=some χ)(e:χ.ExactSet)(hd:χ.data=.set ρ n Y)(fit:Y.fits ρ.size=true)(c:Y.plain=true)
  (h:Q (.ref ↥s) {s with heap:=s.heap.push {cls:=.type "set_iterator",data:=.fields #[.int 0 0,.int 0 0,.ref a,.int ρ.size 0,.int n 0]}}):wpAny (model P w) A (pyIter (.ref a)) Q E s:=by?
 have d:s.TypeIs (.ref a) _:=%[χ,b|e.1];refine wpAny_pyIter_slot d ae' (pJ ae' d acr ?_ (PySem.F.args_set_iter_1 _));unfold Builtin.«frozenset.__iter__» Builtin.Frozenset.slot0 slotArgs;simp only[bind_assoc,wU];refine aA (bh ?_);refine aA (bh ?_);refine aA (aA (wpAny_setEntries_of b hd fit (bh ?_)));refine aA (acs b hd fit c ?_);refine aA (bh ?_);refine aA (wpAny_setEpoch_of b hd fit ?_);exact aA (wpAny_newObj_type (bh %[_,rfl,"set_iterator",_,%[_,cV _ rfl|rfl],tO.lookup|h]))
def lT(w:World)(S:ae)(b:Nat)(a:Array (Int×Value)):Array (Int×Value):=if w.params.followText "set-order" then pickOrder (w.params.setOrder S b) a else a
def kN(w:World)(t:SetTable)(i:Nat):Nat:=if w.params.followText "set-order" then 0 else if i=0 then 0 else t.place.getD (i-1) 0+1
theorem Ph(next:Nat->Nat):∀(a k:Nat) (left:List N) (out:Array N),a=left.length->(Rn next a k left out).toList.Perm (out.toList++left)
 |0,k,left,out,h=>by? have:=ow h.symm;subst this;unfold Rn;rw[g9]
 |a+1,k,left,out,h=>by? unfold Rn;have lt:next k%left.length<left.length:=tV _ (by exact IF (id (kR h)));rw[cA lt];refine(Ph next a _ _ _ (by grind)).trans ?_;rw[Array.toList_push,lW];refine List.Perm.append_left _ ?_;have e:=lZ (next k%left.length) left;rw[tU lt]at e;rw[List.eraseIdx_eq_take_drop_succ];refine List.Perm.trans ?_ (.of_eq e);rw[List.singleton_append];exact(List.perm_middle).symm
def Pj(w:World)(S:ae)(b:Nat)(a:Array (Int×Value)):(lT w S b a).toList.Perm a.toList:=by
 unfold lT;split
 .exact(Ph _ a.size 0 a.toList #[] (by simp)).trans (by simp)
 .exact .refl _
def Pk{Q:Option (Value×Nat)->aj->Prop}(g:s.heap.get? a=some χ)(hd:χ.data=.set ρ n Y)(fit:Y.fits ρ.size=true)(T:Tab Y U)(l:ρ.size=U.length)(f:Y.plain=true)(k:Y.led=iJ w)(u:j<=ρ.size)
  (h:Q (((lT w a n ρ)[j]?).map λe=>(e.2,kN w Y (j+1))) s):wpAny (model P w) A (setNext a (kN w Y j) j n) Q E s:=by?
 unfold setNext;refine aA (pK g hd fit ?_);dsimp only;unfold setsByText;refine aA (aA (AO (bh ?_)));show wpAny _ _ (if w.params.followText "set-order"=true then _ else _) _ _ _;unfold lT kN at h;cases q:w.params.followText "set-order" with
 |true=>
  rw[aS q,aS q]at h;unfold kN;rw[aS rfl,aS q,aE (by simp)];refine aA (aA (pK g hd fit ?_));dsimp only;refine aA (aA (AO (bh ?_)));show wpAny _ _ (if w.params.followText "set-order"=true then _ else _) _ _ _;rw[aS q];refine aA (AO ?_);refine bh (bh ?_);exact h
 |false=>
  unfold kN;rw[q,aE dJ,aE dJ];have c:Y.led=true:=by cbv
  have m:(!Y.plain&&decide (ρ.size>1))=false:=by rw[f];rfl
  show wpAny _ _ (if(!Y.plain&&decide (ρ.size>1))=true then _ else _) _ _ _;rw[m,aE dJ];refine aA ?_;show wpAny _ _ (if(!Y.led&&!ρ.isEmpty)=true then _ else _) _ _ _;rw[c,aE (by simp)];refine bh (bh ?_);have pl:Y.place.size=ρ.size:=T.len.trans l.symm;obtain⟨b1,b2⟩:=y_ Y.place T.rise _;have p:SetTable.below Y.place (if j=0 then 0 else Y.place.getD (j-1) 0+1)=j:=by
   generalize SetTable.below Y.place _=b at b1 b2;by_cases z:j=0
   .subst z;rcases adV b with e|e
    .exact e
    .exact aT ((b2 0 (by lia)).mpr e) (ID _)
   .rw[aE z]at b2;have d:j-1<Y.place.size:=by lia
    have r:Y.place.getD (j-1) 0=Y.place[j-1]:=by rw[Q1,t9 d];rfl
    rw[r]at b2;have v:=(b2 (j-1) d).mp (wu _);rcases om j b with e|e
    .have x:=(b2 j (by exact fz e b1)).mpr e;have y:=(aep.mp T.rise) (j-1) j (by simpa using d) (by simp;exact fz e b1) (by exact Nat.sub_one_lt z)
     (cbv;omega)
    .lia
  rw[p];by_cases lt:j<ρ.size
  all_goals cbv
theorem wc(w:World)(S:ae)(b:Nat)(a:Array (Int×Value)):(lT w S b a).size=a.size:=by have:=(Pj w S b a).length_eq;simpa using this
def acv{e:Int×Value}{Q:Option Value->aj->Prop}(ne:f≠a)(d:qV s.heap a f (kN w Y j) j ρ.size n)(l:s.heap.get? f=some χ)(hd:χ.data=.set ρ n Y)(fit:Y.fits ρ.size=true)(T:Tab Y U)(p:ρ.size=U.length)(h:Y.plain=true)(g:Y.led=iJ w)
  (v:(lT w f n ρ)[j]?=some e)(q:∀k,qV k a f (kN w Y (j+1)) (j+1) ρ.size n->gD a s.heap k->Q (some e.2) {s with heap:=k}):
  wpAny (model P w) A (pyNext (.ref a)) Q E s:=by?
 have r:j<ρ.size:=by grind [wc]
 obtain⟨x,c,u,b⟩:=id d;refine aA (wpAny_attempt (wpAny_callSpecial?_slot d.typeIs tO
  (pJ tO d.typeIs Pe ?_ (Pf _))))
 refine aA (bh ?_);refine aA (wpAny_fieldsOf c b ?_);refine aA (wpAny_setEntries_of l hd fit ?_);rw[aE (by simp)];show wpAny _ _ (setNext f _ j n>>=_) _ _ s;refine aA (Pk l hd fit T p h g (gC r) ?_);rw[v];refine aA (AN c b (by simp) ?_);have m:=tT (Obj.mapFields (·.setIfInBounds 0 (rawInt (kN w Y (j+1))))) c (QH (rk b _));refine aA (AN m (rk b _) (by simp) (bh %[e.2,rfl|bh (q _ ?_ ((kU ..).trans (kU ..)))]));refine%[_,tT _ m (QH (rk (rk b _) _)),(QI ..).trans ((QI ..).trans u)|?_];rw[rk (rk b _)];simp[rawInt]
def acw{Q:Option Value->aj->Prop}(k:A.handled=none)(ne:f≠a)(b:qV s.heap a f (kN w Y ρ.size) ρ.size ρ.size n)(i:s.heap.get? f=some χ)(hd:χ.data=.set ρ n Y)(fit:Y.fits ρ.size=true)(T:Tab Y U)(l:ρ.size=U.length)(h:Y.plain=true)(c:Y.led=iJ w)
  (m:∀j,Heap.ExtBut a s.heap j->Q none {s with heap:=j}):
  wpAny (model P w) A (pyNext (.ref a)) Q E s:=by?
 obtain⟨q,d,r,g⟩:=id b;unfold pyNext;refine aA (wpAny_attempt (wpAny_callSpecial?_slot b.typeIs tO
  (pJ tO b.typeIs Pe ?_ (Pf _))))
 refine aA (bh ?_);refine aA (wpAny_fieldsOf d g ?_);refine aA (wpAny_setEntries_of i hd fit ?_);rw[aE (by simp)];show wpAny _ _ (setNext f _ ρ.size n>>=_) _ _ s;refine aA (Pk i hd fit T l h c (bx _) ?_);rw[HP (show(lT w f n ρ).size<=ρ.size by simp[wc])];exact aA (AN d g (by simp) (L_ k λo o e p=>aA (wpAny_isInstance (b:=true) p isSubtype_stop (bh (m _ (((kU ..).extBut.push _).push _))))))
def acx(y:A.handled=none){I S:ae}{o:Obj}{ep:Nat}(ne:S≠I)(hd:o.data=.set ρ ep Y)(fit:Y.fits ρ.size=true)(T:Tab Y U)(n:ρ.size=U.length)(d:Y.plain=true)(a:Y.led=iJ w):
  Walks prog w A I [I,S] [I] ρ.size (λi v=>∃e,(lT w S ep ρ)[i]?=some e/\v=e.2) (λi h=>qV h I S (kN w Y i) i ρ.size ep/\h.get? S=some o) where
 sub:=λb c=>by simp at c;simp[c]
 frame:=λt t t st p=>%[let%[u,k,r|q]:=st.1;%[u,p I (by simp) u k,r|q]|p S (by simp) o st.2]
 item:=λi s Q E z st f=>by
  obtain⟨e,x⟩:∃e,(lT w S ep ρ)[i]?=some e:=%[_|t9 (by rw[wc];exact z)];refine acv ne st.1 st.2 hd fit T n d a x λl g j=>?_
  exact f e.2 l s.toks %[e,x|rfl] %[g|(j.2 S ne).trans st.2] λb o c e=>j.extBut b o (λh=>c (by simp[h])) e
 done:=λs Q E st f=>acw y ne st.1 st.2 hd fit T n d a λl m=>f l s.toks λb o c e=>m b o (λh=>c (by simp[h])) e
 self:=λt s Q E st f=>by refine wpAny_pyIter_slot st.1.typeIs Pg (pJ Pg st.1.typeIs acp ?_ (acq _));exact bh %[_,rfl,"set_iterator",_,st.1.typeIs,tO.lookup|f]
def acy:typeLookup (.type "set") "__len__"=pure (some (.builtin "set.__len__")):=PySem.F.slot_set_len.lookup
abbrev qX:Obj:={cls:=.type "list",data:=.seq #[]}
abbrev we(S:ae)(n a:Nat):Obj:={cls:=.type "set_iterator",data:=.fields #[.int 0 0,.int 0 0,.ref S,.int n 0,.int a 0]}
def inside{R:Result->aj->Prop}{i:String}{a:Args}{b:Builtin}(p:plainId i=true)(e:entryFor table i=some b)
  (h:wpAny (model P w) A.in1 (b a) (λg d=>match g with|.done f=>R (.ok f) d|.again c=>c.quiet=true/\codeAny (model P w) A c R d) (λx d=>R (.error x) d) s):codeAny (model P w) A (.builtin i a) R s:=
 rG e (Around.under_plainId p a▸h)
def acz{Q:List Value->aj->Prop}(L:A.handled=none)(z:s.heap.get? a=some χ)(C:χ.ExactSet)(hd:χ.data=.set ρ n Y)(fit:Y.fits ρ.size=true)(T:Tab Y U)(M:ρ.size=U.length)(m:Y.plain=true)(p:Y.led=iJ w)(X:ρ.size<=4096)
  (h:∀k j,(∀b χ,s.heap.get? b=some χ->k.heap.get? b=some χ)->k.gens=s.gens->k.drawn=s.drawn->k.os=s.os->s.toks<=k.toks->↥s<=↥k->j=(lT w a n ρ).toList.map (·.2)->Q j k):wpAny (model P w) A (collect (.ref a)) Q E s:=by?
 obtain⟨hp,g,N,tk,os⟩:=s;have z:hp.get? a=some χ:=z;have D:a<hp.objs.size:=bU z;have ne:afa (.ref hp.objs.size) (.ref a)=false:=by simp[afa,j5 D]
 have ty:∀{K},K.get? a=some χ->Q2 %[K,g,N,tk|os] (.ref a) "set":=λe=>%[χ,e|C.1];unfold collect
 wp_walk
 refine inside PySem.F.plain_proto_collect PySem.F.entry_proto_collect ?_;unfold Builtin.«proto.collect»
 wp_walk
 have F:(hp.push qX).get? a=some χ:=bL _ z;have t1:=ty F;refine%[uh afb _|inside afb PySem.F.entry_list_iadd ?_];show wpAny _ _ (afc (.ref hp.objs.size) (.ref a) (.ref hp.objs.size)) _ _ _;unfold afc
 wp_walk using acu F C hd fit m
 rw[C.1];refine wpAny_of_eq acy ?_;have G:splitId "set.__len__"=some ("set","__len__"):=by decide+kernel
 dsimp only;rw[G];have I:((hp.push qX).push (we a ρ.size n)).get? a=some χ:=bL _ F;have Z:=ty I;have sb:isSubtype (.type "set") (.type "set")=pure true:=by rfl
 wp_walk
 rw[eG];have B:=bL (we a ρ.size n) (cV hp (o:=qX) rfl);have y:qV ((hp.push qX).push (we a ρ.size n)) (hp.objs.size+1) a 0 0 ρ.size n:=by rw[<-eG hp qX];exact%[_,cV _ rfl,rfl|rfl]
 have x:∀b χ,hp.get? b=some χ->((hp.push qX).push (we a ρ.size n)).get? b=some χ:=λb χ e=>by simp_all [bL]
 generalize(hp.push qX).push (we a ρ.size n)=H at B y x I⊢;have O:=tT (q_ (·.push Ad)) B rfl;have R:=tT (q_ (·.pop)) O rfl;have l:∀b χ,b≠hp.objs.size->H.get? b=some χ->((H.update hp.objs.size (q_ (·.push Ad))).update hp.objs.size (q_ (·.pop))).get? b=some χ:=λb χ d e=>by rw[HH _ _ d.symm,HH _ _ d.symm];exact e
 have W:=(acx (prog:=P) (w:=w) (A:=A.in1) (I:=hp.objs.size+1) (S:=a) (o:=χ) (ep:=n) (by simp[L]) (dn (o_ D)) hd fit T M m p).toS;refine%[uh PySem.F.plain_extend_loop _|codeAny_extend_loopS W (by rw[pH];exact bq (by assumption) (by decide)) hp.objs.size ?_ _ ρ.size 0 _ _ _ rfl (bM _) %[?_|l _ _ (dn D) I] R (ItemsOf.nil _) λk j c v u f=>?_]
 ·(cbv;lia)
 .rw[show kN w Y 0=0 by simp[kN]];obtain⟨V,J,r,q⟩:=y;exact%[V,l _ _ (j5 (wu _)) J,r|q]
 .refine aA (wpAny_load u (bh (h k j.toList (λb χ e=>?_) v.gens v.drawn v.os v.toks (gC (bU u)) ?_)))
  .have bl:b<hp.objs.size:=bU e;refine v.heap b χ ?_ (l b χ (dn bl) (x b χ e))
   (cbv;lia)
  .refine tZ λi=>?_;rw[eJ,AG,AG];rcases om i ρ.size with lt|ge
   .have B:i<j.size:=by rw[f.1];exact lt
    obtain⟨e,he,hv⟩:=f.2 i _ (t9 B)
    cbv
   .rw[HP (by rw[f.1];exact ge),HP (by rw[wc];exact ge)];rfl
def z4(prog:aC)(w:World)(S:ae)(ns:List Int):HO:=.ext λh=>ns.length<=2048/\ns.Nodup/\∃m:List (Int×Value),jG (j8 prog w) (iJ w) h S m/\m.map (·.1)=ns
def Pl{n:Int}{v:Value}(h:PF n v=true):∃t,v=.int n t:=by
 cases v with
 |int m t=>
  have:=eq_of_beq h
  grind
 |_=>exact nomatch h
theorem Pn:∀{m:List (Int×Value)},(∀p∈m,tN (j8 P w) p)->IntsAre (m.map (·.2)) (m.map (·.1))
 |[],_=>.nil
 |p::m,h=>by
  obtain⟨a,c,c⟩:=h p bQ;have r:=Pn λq b=>h q (bG _ b)
  obtain⟨n,v⟩:=p;obtain⟨t,rfl⟩:=Pl (n:=n) a;exact .cons _ t r
def acA(G:X.calm=true):iC X (.type "set") (λD H Q=>X3 λ(p:ae) (ns:List Int) (m:Nat)=>A5 (D=[.ref p]) (af X.K H p (ns.map V.int)) (m+1<2048) (∀n∈ns,0<=n/\n<(m:Int)) (∀(S:ae) (y:List Int),H S=aq->y.Nodup->(∀n,n∈y↔n∈ns)->Q (.ref S) (upd H S (z4 X.prog X.w S y)))):=by?
 intro F s σ H D us Q I r h;obtain⟨p,ns,m,rfl,J,Y,d,q⟩:=h;obtain⟨u,rfl,K⟩:=vals1 r;cases K;obtain⟨f,A,pl,Z⟩:=I.list J;have il:f.length=ns.length:=by
  have:=A.length
  cbv
 have w:∀i,i<f.length->(ns.getD i 0)∈ns:=λi hi=>by cbv
 refine aco (ka:=λi=>ns.getD i 0) (I.ok.hd G) pl.isList (λi v B=>?_) Y (λj x=>?_) λh' tk C tl T c z=>?_
 .rw[aeG]at B;have L:(ns.map V.int)[i]?=some (V.int (ns.getD i 0)):=by grind
  obtain⟨u,g,M⟩:=A.get L;rw[B]at g;obtain rfl:v=u:=cE g;obtain⟨t,rfl⟩:=M;exact%[t|rfl]
 .exact And.symm ((λ{a b}↦And.comm.mp) (d (ns.getD j 0) (w j x)))
 .have l:∀n,n∈C.map _↔n∈ns:=λn=>by
   rw[c.2 n]
   grind [wY]
  have ml:=c.le λj x=>d _ (w j (by simpa using x));obtain⟨o,es,ep,t,N,E⟩:=T.ex;refine%[.ref ↥s,_,I.laid (o:=z4 X.prog X.w ↥s _) (λb u e=>z b u (bU e) e) (bx _) %[%[by(cbv;lia),c.1,C,T|rfl],%[o|N]|λh1 h2 %[O,W,P,R|U] k=>%[O,W,P,R.kept λo e=>k o e|U]],rfl|q _ _ I.fresh c.1 l]
def acB(hc:X.calm=true):iC X (.builtin "sorted") (λxs H Q=>X2 λ(S:ae) (ms:List Int)=>A3 (xs=[.ref S]) (H S=some (z4 X.prog X.w S ms)) (∀(p:ae) (ns:List Int),H p=aq->ns.Perm ms->ns.Pairwise (· <=·)->Q (.ref p) (upd H p (.lst (ns.map V.int))))):=by?
 intro pins s σ H xs us Q I r h;obtain⟨S,ms,rfl,e,q⟩:=h;obtain⟨u,rfl,rx⟩:=vals1 r;cases rx;obtain⟨⟨hlen,nd,m,T,rfl⟩,_⟩:=I.aU S _ e;obtain⟨o,es,ep,t,ho,hx,hd,els,tb,room,hm,hpl,hled⟩:=T.ex;rw[aY]at hlen;have hl:es.size=m.length:=by grind [aY]
 have hh:(kM (j8 X.prog X.w) m).length=m.length:=aY _;have fit:t.fits es.size=true:=by
  have:=tb.fits (by rw[hh];lia)
  cbv
 refine Calls.call_function_entry PyProof.Rows.kind_sorted PyProof.Rows.plain_sorted PyProof.Rows.entry_sorted (PyProof.Rows.args_sorted1 _) ?_;refine aA (bh ?_);refine aA (acz (by simp[I.ok.hd hc]) ho hx hd fit tb (hl.trans hh.symm) hpl hled (by lia) λs1 acc old1 eg ed eo et up ea=>?_);have la:acc.length<=4096:=by grind [wc]
 refine aA (wpAny_newList ?_ (by rw[pH];exact bq (by assumption) (by decide)));obtain⟨h1,g1,d1,k1,o1⟩:=s1;subst eg;subst ed;subst eo;obtain⟨ns0,hI0,hp0⟩:∃ns0,IntsAre acc ns0/\ns0.Perm (m.map (·.1)):=by
  obtain⟨m',hm',e'⟩:=(show∃m':List (Int×Value),m'.Perm m/\acc=m'.map (·.2)from by
   have w1:=Pj X.w S ep es;rw[els]at w1;refine⟨(lT X.w S ep es).toList.map λe=>((match e.2 with|.int n _=>n|_=>0),e.2),?_,?_⟩
   .refine(w1.map _).trans (.of_eq ?_);rw[cC];have:∀p∈m,((λe:Int×Value=>((match e.2 with|.int n _=>n|_=>0),e.2))∘mR (j8 X.prog X.w)) p=p:=λp hp=>by obtain⟨n,v⟩:=p;obtain⟨k1,_,_⟩:=T.keys _ hp;obtain⟨t,rfl⟩:=Pl (n:=n) (v:=v) k1;rfl
    rw[jq this,Ax]
   cbv)
  rw[e'];exact⟨m'.map (·.1),Pn λp hp=>T.keys p (hm'.mem_iff.mp hp),hm'.map _⟩
 have hoL:(h1.push _).get? h1.objs.size=some (seqObj "list" acc.toArray 0):=cV _ rfl;refine aA (kX (pJ PyProof.Rows.slot_list_sort ⟨_,hoL,rfl⟩ PyProof.Rows.entry_list_sort (list_sort_treeAny hoL hI0 (by rw[pH];exact bq (by assumption) (by decide)) λout ns' a1 a2 a3=>⟨_,rfl,?_⟩) (PyProof.Rows.args_list_sort _)));refine bh ⟨_,rfl,?_⟩;obtain⟨ep',he'⟩:=PyProof.Rows.sortedHeap_at (vs:=acc) (out:=out) hoL;have hlen2:(ns'.map V.int).length<=bf:=by rw[aY,a2.length_eq,hp0.length_eq,aY,pH];exact bq (by assumption) (by decide)
 refine⟨.ref _,upd H h1.objs.size (.lst (ns'.map V.int)),I.laid (λb u e=>?_) up ⟨hlen2,out.toList,ep',Tt a1,he'⟩,rfl,q _ ns' (I.aU.fresh up) (a2.trans hp0) a3⟩;have bl:b<h1.objs.size:=bU (old1 b u e)
 grind [PyProof.Rows.sortedHeap_old,PyProof.Rows.size_push',bL]
theorem Po[BEq N][LawfulBEq N]:∀(n:Nat) (l:List N),l.length<=n->l.eraseDups.Nodup
 |0,l,h=>by cbv
 |n+1,[],_=>by simp
 |n+1,a::l,h=>by
  rw[List.eraseDups_cons,lV];have le:=List.length_filter_le (λb=>!b==a) l;rw[iu]at h;refine%[λq=>?_|Po n _ (by lia)]
  cbv
def acC(f:N->Rat){l m:List N}(h:l.Perm m):(l.map f).sum=(m.map f).sum:=by
 induction h with
 |nil=>rfl
 |cons a _ e=>cbv
 |swap a b l=>
  grind
 |trans _ _ c d=>exact c.trans d
end
section
variable{B:SM}{H J Ν ο:Hp}{S φ:Int}{h:ax}{r:Str->Option Value}{ψ:HO}
def acD{b:cB}{κ a:List Nat}(h:κ.Perm a):fO b n S φ κ=fO b n S φ a:=by unfold fO;congr 1;funext x;unfold tu;rw[acC _ h]
def acE{d:List Int}(b:∀a∈U,0<=a/\a<(n:Int))(nd:d.Nodup)(mem:∀a,a∈d↔a∈U):(d.map mZ).Perm (U.map mZ).eraseDups:=by
 refine(aex ?_ (Po _ _ (bx _))).mpr λk=>?_
 .refine List.pairwise_map.mpr (nd.imp_of_mem λf g c e=>c ?_);have h:=b _ ((mem _).mp f);have i:=b _ ((mem _).mp g)
  lia
 .simp[List.mem_eraseDups,mem]
theorem Hl{m:Nat}:∀{ns:List Int},(∀n∈ns,0<=n/\n<(m:Int))->nI (ns.map mZ)=ns
 |[],_=>rfl
 |n::ns,h=>by
  have c:=(h n bQ).1;have b:=Hl λx a=>h x (bG _ a)
  grind
theorem Pp:∀row:List Int,Paired (λv n=>v=V.int n) (row.map V.int) row
 |[]=>.nil
 |_::r=>.cons rfl (Pp r)
abbrev Hm:Stmt:=top 142
def wg:aV ["ledger","numbers","row","all_sold","demands","number"] aP (aM Hm):=aX
def acF(Fn:aH K "answer_enough" "answer_enough" Hm f y)(J:GV r "DONE" (.int 0))(R:GV r "OUT_OF_RANGE" (.int (-2)))(T:r "all"=aq)(U:r "set"=aq)(B:r "sorted"=aq)(L:iX P w K r h C)
  (av:aW P w K r h "is_there" 3 ["ledger","kind","number"] (vY K C))(G:aW P w K r h "is_share" 1 ["n","d"] GO)(W:aW P w K r h "demands_of" 4 ["ways","lot","n","d"] (zt K C.P C.W a))(az:aW P w K r h "is_enough" 2 ["demands","numbers"] (zw K a)):
  aJ P w K r h aR 5 f y aP (bR K C kL λn j=>.enough (i0 n) (i1 n) (i2 n) j):=by?
 refine Fn.go wg ?_;rintro _ _ _ _ H _ _ _ X ⟨A,s,nums,row,u,v,F,rfl,hF,m,⟨ul,rfl,a0,_⟩,⟨vl,rfl,Y,a5⟩,⟨l,n,d,rfl,hl⟩,k⟩;refine%[_,aw (bp 3 wg (cg (pZ rfl) (by rfl) T boot_all (ai (dC (own:=[("number",5)]) (te:=oI (vY K C) [] E0 (e9 (cf 0) (e9 (tC (.str "sold")) (e9 (cf 5) fS)))) wg (cq (pv 2)) (bE 5 wg) cR (aI av X (ay (pv 0) (ay cK (ai (pv 5)))))))))
  (aw (bW (PW.pt (kh (nh (eQ (pv 3) (λ_=>rfl))) (m_ (nh (eQ (aI G X (ay (aQ bA (pv 1) aL (λ_ _=>rfl)) (ai (aQ bA (pv 1) aL (λ_ _=>rfl))))) (λ_=>rfl)))))) (au (aF (bH (ai (bC R))))) bZ)
  (aw (bp 4 wg (aI W X (ay (fM L X (by decide) (pv 0)) (ay (aQ bA (pv 1) aL (λ_ _=>rfl)) (ay (aQ bA (pv 1) aL (λ_ _=>rfl)) (ai (aQ bA (pv 1) aL (λ_ _=>rfl))))))))
  (au (aF (bH (ay (bC J) (ai (rM (eQ (aI az X (ay (pv 4) (ai (cg (acB rfl) (by rfl) B boot_sorted (ai (nr (acA rfl) (by rfl) U boot_set (ai (pv 2)))))))) (λ_=>rfl)) aL aL))))))))|?_]
 have Z:kW s.store l=true:=by simp_all [j4,iL]
 have t:hJ (some s.store) (.enough (l:Int) n d row)=if kK n d=false\/(row.map λx=>there s "sold" x).all id=false then(some s.store,[-2])else(some s.store,[0,Vbcraf.flag (IV ((fK s.store).map λo=>o.2) l (uc n d.toNat) (row.map mZ).eraseDups)]):=by
  show(if kW s.store l=false\/gQ d 1 1000=false\/gQ n 0 d=false\/row.all (pC s.store)=false then _ else(some s.store,[0,Vbcraf.flag (IV ((fK s.store).map λo=>o.2) (l:Int).toNat (uc n d.toNat) (row.map mZ).eraseDups)]))=_;have e2:row.all (pC s.store)=(row.map λx=>there s "sold" x).all id:=by rw[nX];congr 1;funext x;exact o3 m.ok x
  rw[e2,gk];by_cases c:kK n d=false\/(row.map λx=>there s "sold" x).all id=false
  .rw[aS c,aS (.inr (c.elim (λz=>(v9.mpr z).elim .inl λo=>.inr (.inl o)) λz=>.inr (.inr z)))];rfl
  .rw[aE c,aE (λq=>q.elim (λz=>by rw[Z]at z;cases z) λz=>c (z.elim (λo=>.inl (v9.mp (.inl o))) λo=>o.elim (λx=>.inl (v9.mp (.inr x))) .inr))]
 have I:=hF _ _ Y;refine%[%[_|af.of I]|dI (K:=K) (S:=λF v (b:Bool)=>v=V.bl b) (R:=λv n=>v=V.int n) (λx:Int=>there s "sold" x) hF (af.of I) (Pp row) (by cbv) (λ_ _ _ _ _ q=>q) ?_ ?_]
 .rintro i v' x F' H' hi rfl g Qk kq;exact%[A,s,"sold",x,F',rfl,g.sub,m.grow g|λF2 H2 g2=>kq _ _ F2 g2 rfl]
 .rintro F1 H1 D g1 ⟨D',a6,e,hD,pD,_⟩;cases e;have ev:=lH (f:=V.bl) pD;rw[ev]at hD;have h1:=m.grow g1;have E:=af.of (K:=K) (g1.same _ _ (hF _ _ a0));refine%[af.of (g1.sub _ _ hD)|?_];cases ha:(row.map λx=>there s "sold" x).all id with
  |false=>
   rw[aS (.inr ha)]at t;refine%[_,rfl|a_ %[dc|λp hp=>?_]];have gg:=g1.trans (ag.put (o:=.lst [.int (-2)]) g1.sub hp);exact k _ _ _ s _ _ (Mv.of m gg) (m.grow gg) t %[p,rfl,ak|by trivial]
  |true=>
   refine%[_,rfl|bt ?_];refine%[E,bg (j:=1) rfl,E,bg (j:=2) rfl,n,d,rfl,_,rfl|?_];cases hs:kK n d with
   |false=>
    rw[aS (.inl hs)]at t;refine a_ %[dc|λp hp=>?_];have gg:=g1.trans (ag.put (o:=.lst [.int (-2)]) g1.sub hp);exact k _ _ _ s _ _ (Mv.of m gg) (m.grow gg) t %[p,rfl,ak|by trivial]
   |true=>
    obtain⟨⟨d1,d2⟩,n0,nd⟩:=O1.mp hs;rw[aE (λq=>q.elim (λz=>by rw[hs]at z;cases z) λz=>by rw[ha]at z;cases z),OX m.ok d1]at t;have M:∀x∈row,0<=x/\x<(eX s.ways:Int):=λx Q=>by simp_all [g_,there,abq]
    have a7:=N0 m.ok.iq;refine bt %[h1.g,gO _ _ _,A,s,F1,rfl,h1|λwv a3=>?_];refine%[E,bg (j:=0) rfl,E,bg (j:=1) rfl,E,bg (j:=2) rfl|?_];refine%[_,_,s.ways,l,n,d,wv,F1,rfl,g1.sub,a3,m.ok.iq,m.ok.ne,by trivial,n0,by lia,by exact As d1,by lia|λF3 H3 r3 g3 q3=>?_];have N:=g1.trans g3;refine%[vl,row,eX s.ways,rfl,af.of (N.same _ _ (hF _ _ Y)),by lia,M|λS ms hS aa mem=>?_];have g4:=N.trans (ag.bD (o:=z4 P w S ms) N.sub hS);refine%[S,ms,rfl,ak|λp ns hp pm a8=>?_];have g5:ag F H _ _:=g4.trans (ag.put (o:=.lst (ns.map V.int)) g4.sub hp);have ao:∀x∈ns,0<=x/\x<(eX s.ways:Int):=λx Q=>M x ((mem x).mp (pm.mem_iff.mp Q));have a4:ns.length<=40:=by
     have hn:=pm.nodup_iff.mpr aa;have:=oT ns ((bV (eX s.ways)).map λn:Nat=>(n:Int)) hn λx Q=>by have:=ao x Q;exact bF.mpr %[x.toNat,kT.mpr (by simp[*])|by lia]
     (cbv;lia)
    have ar:=Hl ao;have eq:fO s.ways l n d (row.map mZ).eraseDups=fO s.ways l n d (ns.map mZ):=acD ((acE M aa mem).symm.trans (pm.symm.map _));rw[eq]at t;refine%[s.ways,l,eX s.ways,n,d,ns.map mZ,r3,.ref p,_,rfl,g5.sub,q3.up (cQ (g4.sub.free hp)),%[p,rfl,by rw[ar];exact ak|by rw[ar];exact bq (by assumption) (by decide)],λx Q=>?_|λF6 H6 g6=>?_]
    .obtain⟨o,hy,rfl⟩:=bF.mp Q
     cbv
    .have g7:=g5.trans g6;refine%[_,rfl|?_];cases hb:fO s.ways l n d (ns.map mZ)with
     |true=>
      rw[hb]at t;refine a_ %[fV|λp8 O=>?_];have gg:=g7.trans (ag.put (o:=.lst [.int 0,.int 1]) g7.sub O);exact k _ _ _ s _ [0,1] (Mv.of m gg) (m.grow gg) t %[p8,rfl,ak|by trivial]
     |false=>
      rw[hb]at t;refine bt %[fV|λp8 O=>?_];have gg:=g7.trans (ag.put (o:=.lst [.int 0,.int 0]) g7.sub O);exact k _ _ _ s _ [0,0] (Mv.of m gg) (m.grow gg) t %[p8,rfl,ak|by trivial]
def sf(v:V):List (Str×V):=cb "ledger" v []
def z5(v:V):(sf v).lookup ("ledger":Str)=some v:=by rfl
def acG(v w:V):cb "ledger" v (sf w)=sf v:=Gm _ _ _ _
structure z6(K:ah)(a:ae):Prop where
 cl:gJ K a
 nl:eS K a "ledger"
abbrev jg:=Option (LA×SM)
def jg.v:jg->V
 |none=>.bB
 |some x=>.ref x.1.g
def jg.foot(p:ae):jg->List ae
 |none=>[p]
 |some x=>p::x.1.foot
def jg.st:jg->Vbcraf.State
 |none=>none
 |some x=>some x.2.store
structure jH(K:ah)(C:CA)(a:ae)(F H:Hp)(p dp:ae)(x:jg):Prop where
 at_:H p=some (.ins a dp (sf x.v))
 out:F p=aq
 led:∀A s,x=some (A,s)->cN K C F H A s/\p∉A.foot
structure nV(F H:Hp)(p:ae)(x:jg)(a c:Hp)(d:jg):Prop where
 fs:aD F a
 sub:aD a c
 keep:∀b o,H b=some o->b∉x.foot p->c b=some o
 new:∀b∈d.foot p,b∈x.foot p\/H b=aq
 nw:∀b o,a b=some o->F b=some o\/H b=aq
def cN.at{ω:LA}(h:cN K C J H ω B)(k:∀b o,b∈ω.foot->H b=some o->ο b=some o):cN K C J ο ω B:=by? obtain⟨a,d,e⟩:=h.ea;obtain⟨c,b1,b2⟩:=h.ya;exact%[k _ _ (by simp[LA.foot]) h.g,k _ _ (by simp[LA.foot]) h.ly,k _ _ (by simp[LA.foot]) h.la,k _ _ (by simp[LA.foot]) h.pa,k _ _ (by simp[LA.foot]) h.sa,%[a,k _ _ (by simp[LA.foot]) d|e],%[c,k _ _ (by simp[LA.foot]) b1|b2],h.out,h.nd|h.ok]
def ag.Pq(g:ag J H ο Ν)(e:H a=some ψ)(n:J a=aq):ο a=aq:=by
 cases q:ο a with
 |none=>rfl
 |some u=>
  rcases g.new a u q with z|z
  all_goals cbv
theorem jH.grow{x:jg}(h:jH K C a J H f D x)(g:ag J H ο Ν):jH K C a ο Ν f D x:=%[g.same _ _ h.at_,g.Pq h.at_ h.out|λA s e=>%[(h.led A s e).1.grow g|(h.led A s e).2]]
def nV.of{x:jg}(h:jH K C a J H f D x)(g:ag J H ο Ν):nV J H f x ο Ν x:=%[g.fs,g.sub,λb o e d=>g.same b o e,λb c=>.inl c|g.new]
abbrev Hn:Stmt:=inClass (top 146) 0
inductive Ho(CS:ae)(a:List V)(H:Hp)(Q:VK)(E:XK):Prop
 |mk(p dp:ae)(b:a=[.ref p])(b:H p=some (.ins CS dp []))(b:Q .bB (upd H p (.ins CS dp (sf .bB))))
def acH:aV ["self"] ["self"] (aM Hn):=aX
def acI(b:aH K "__init__" "Session.__init__" Hn f y)(T:z6 K a):aJ P w K r h aR 1 f y ["self"] (Ho a):=by refine b.go acH ?_;rintro c c c c c c c c c ⟨p,dp,rfl,hp,k⟩;exact%[_,au (fR (pv 0) j_ rfl),hp,T.cl,T.nl,(by decide)|k]
abbrev Hq:Stmt:=inClass (top 146) 1
def Pr(K:ah)(C:CA)(CS:ae)(p dp:ae)(x:jg)(F H:Hp)(c:Rh)(Q:VK):Prop:=∀b d e r a,nV F H p x b d e->jH K C CS b d p dp e->hJ x.st c=(e.st,a)->dO b r a->Q r d
inductive Hr(K:ah)(C:CA)(CS:ae)(a:List V)(H:Hp)(Q:VK)(E:XK):Prop
 |mk(p dp:ae)(x:jg)(ns:List Nat)(u:V)(F:Hp)(b:a=[.ref p,u])(b:aD F H)(b:jH K C CS F H p dp x)(b:dO F u (nI ns))(b:ns.length<=2500)(b:∀n∈ns,n<=255)(b:Pr K C CS p dp x F H (.store (nI ns)) Q)
def Pt:aV ["self","text","reading"] ["self","text"] (aM Hq):=aX
def acJ(Z:aH K "read_store" "Session.read_store" Hq f y)(T:z6 K a)(j:GV r "WRONG" (.int 1))(v:aW P w K r h "read_text" 11 ["text"] (GG K C))(hC:v8 P w K r h C):aJ P w K r h aR 12 f y ["self","text"] (Hr K C a):=by?
 refine Z.go Pt ?_;rintro _ A _ s _ _ _ _ S ⟨p,dp,x,ns,u,F,rfl,hF,d,hu,hn,hb,k⟩;refine%[_,aw (bp 2 Pt (aI v S (ai (pv 1))))
  (aw (bW (bY uu (aQ cO (pv 2) aL (λ_ _=>rfl)) j_ (b_ _)) (au (aF (bJ eT (bH (ai (bC j))) (aQ cO (pv 2) aL (λ_ _=>rfl))))) bZ)
  (aw (fR (pv 0) (aQ cO (pv 2) aL (λ_ _=>rfl)) rfl)
  (au (aF (aI hC S (ai (aG (pv 0))))))))|?_]
 have l:hJ x.st (.store (nI ns))=(match oq ns with
   |.inl g=>(x.st,[1,(g.1:Int),(g.2:Int)])
   |.inr b=>(some b,0::xf b)):=by
  show(if(nI ns).all xh=false then _ else _)=_;rw[aE (G4 hb),G5];rfl
 refine%[ns,u,F,rfl,hF,hu,hn|λH Q r1 t I=>?_];cases U:oq ns with
 |inl g=>
  rw[U]at I l;obtain⟨i,la,rfl,D,L⟩:=I;obtain⟨aa,e,M,_⟩:=L;cases e;refine%[bN.of D,bg (j:=0) rfl,rfl|⟨?_⟩];rw[bT rfl];refine a_ %[dc|λp2 E=>?_];have R:=t.trans (ag.bD (o:=.lst [.int 1]) t.sub E);refine%[bN.of (cQ E _ _ D),bg (j:=1) rfl,ak,R.sub _ _ M,(by show 1+2<=bf;decide)|λp3 N=>?_];have Y:=R.trans (ag.put (o:=.lst ([.int 1]++[.int (g.1:Nat),.int (g.2:Nat)])) R.sub N);exact k _ _ x _ [1,(g.1:Int),(g.2:Int)] (nV.of d Y) (d.grow Y) l %[p3,rfl,ak|by simp]
 |inr b=>
  rw[U]at I l;obtain⟨i,A2,J,rfl,D,L2,V,X⟩:=I;have O:=d.grow t;have np:p∉A2.foot:=λm=>by have:=X p m;rw[d.at_]at this;cases this
  refine%[bN.of D,bg (j:=0) rfl,rfl|⟨?_⟩];rw[bK (λq=>by cases q)];refine bt %[bN.of D,bg (j:=0) rfl,O.at_,T.cl,T.nl,(by show 1<1000;decide)|?_];rw[acG];have L3:cN K C H (upd Q p (.ins a dp (sf (.ref A2.g)))) A2 J:=L2.at λc o W e=>by grind [aB]
  have s3:aD H (upd Q p (.ins a dp (sf (.ref A2.g)))):=nS t.sub O.out;refine%[ak,T.cl,T.nl,z5 _,A2,J,H,rfl,s3,L3|λF4 H4 r4 G q4=>?_];have S3:jH K C a H (upd Q p (.ins a dp (sf (.ref A2.g)))) p dp (some (A2,J)):=%[ak,O.out|λA s e=>by cbv];refine k F4 H4 (some (A2,J)) r4 (0::xf b) %[t.fs.trans G.fs,G.sub,λc o e n=>?_,λc W=>?_|λc o e=>?_] (S3.grow G) ?_ ?_
  .have B:c≠p:=λz=>n (by rw[z];cases x<;>exact bQ);exact G.same _ _ (by rw[aB B];exact t.same _ _ e)
  .rcases cU.mp W with z|z
   .left;rw[z];cases x<;>exact bQ
   .exact .inr (X c z)
  .rcases G.new c o e with z|z
   .exact t.new c o z
   .right;have B:c≠p:=λg=>by simp_all [ak]
    rw[aB B]at z;exact t.same.free z
  .rw[l,<-V];rfl
  .rw[<-V,vZ L2.ok];exact q4
def iM(c:Nat):List Str:=match c with
 |3=>["entry","free"]
 |6=>["place","lot"]
 |7=>["place"]
 |9=>["sold","lot"]
 |10=>["sold","lot"]
 |11=>["sold","lot"]
 |12=>["lot","free","free"]
 |13=>["sold","lot"]
 |14=>["lot"]
 |15=>["way"]
 |16=>["way","place"]
 |19=>["lot","free","free"]
 |20=>["sold"]
 |21=>["lot"]
 |_=>[]
def qY(c:Nat)(n r:List Int):Rh:=match c with
 |0=>.store r
 |1=>.print
 |2=>.more r
 |3=>.settle (i0 n) (i1 n)
 |4=>.undo
 |5=>.worlds
 |6=>.place (i0 n) (i1 n)
 |7=>.kilos (i0 n)
 |8=>.sold
 |9=>.trace (i0 n) (i1 n)
 |10=>.share (i0 n) (i1 n)
 |11=>.surely (i0 n) (i1 n)
 |12=>.recall (i0 n) (i1 n) (i2 n)
 |13=>.ask (i0 n) (i1 n)
 |14=>.mass (i0 n)
 |15=>.way (i0 n)
 |16=>.inside_ (i0 n) (i1 n)
 |17=>.find r
 |18=>.unsettled
 |19=>.enough (i0 n) (i1 n) (i2 n) r
 |20=>.soldKilos (i0 n)
 |_=>.where_ (i0 n)
def preOf(c:Nat):SM->List Int->List Int->Prop:=match c with
 |2=>o4 200
 |3=>zV
 |6=>fj "place" "lot"
 |7=>gB "place"
 |9=>fj "sold" "lot"
 |10=>fj "sold" "lot"
 |11=>fj "sold" "lot"
 |12=>kL
 |13=>fj "sold" "lot"
 |14=>gB "lot"
 |15=>gB "way"
 |16=>fj "way" "place"
 |17=>o4 20
 |19=>kL
 |20=>gB "sold"
 |21=>gB "lot"
 |_=>iY
def z7(n:Nat)(a:List Int):Prop:=X1 λ(ns:List Nat)=>A3 (a=nI ns) (ns.length<=n) (∀x∈ns,x<=255)
def tP(c:Nat)(a:List Int):Prop:=match c with
 |0=>z7 2500 a
 |2=>z7 200 a
 |17=>z7 20 a
 |_=>True
def wj(h:there B x S=true):∃i:Nat,S=i/\i<cnt B x:=by unfold there at h;rw[o8,decide_eq_true_eq,decide_eq_true_eq]at h;exact%[S.toNat,by lia|by cbv]
theorem uK(h:U.length=1):∃a,U=[a]:=by
 match U,h with
 |[a],_=>exact%[a|rfl]
theorem wk(h:U.length=2):∃a b,U=[a,b]:=by
 match U,h with
 |[a,b],_=>exact%[a,b|rfl]
theorem z8(h:U.length=3):∃a b c,U=[a,b,c]:=by
 match U,h with
 |[a,b,c],_=>exact%[a,b,c|rfl]
theorem all1(b:decide (x="free")=false):gZ B [x] [S]=there B x S:=by show((decide _||there B x S)&&true)=_;rw[b];simp
theorem all2(d:decide (x="free")=false)(c:decide (m="free")=false):gZ B [x,m] [S,φ]=(there B x S&&there B m φ):=by show((decide _||there B x S)&&((decide _||there B m φ)&&true))=_;rw[d,c];simp
def Pu(c:decide (x="free")=false):gZ B [x,"free"] [S,φ]=there B x S:=by show((decide _||there B x S)&&((decide _||there B _ φ)&&true))=_;rw[c];simp
theorem Pw{c:Int}(d:decide (x="free")=false):gZ B [x,"free","free"] [S,φ,c]=there B x S:=by show((decide _||there B x S)&&((decide _||there B _ φ)&&((decide _||there B _ c)&&true)))=_;rw[d];simp
def nf:decide (("lot":Str)="free")=false/\decide (("place":Str)="free")=false/\decide (("sold":Str)="free")=false/\decide (("way":Str)="free")=false/\decide (("entry":Str)="free")=false:=by decide+kernel
def z9(c:decide (x="free")=false)(d:U.length=1)(h:gZ B [x] U=true)(b:List Int):gB x B U b:=by obtain⟨a,rfl⟩:=uK d;rw[all1 c]at h;obtain⟨i,rfl,e⟩:=wj h;exact%[i,rfl|e]
def Hs(e:decide (x="free")=false)(c:decide (m="free")=false)(f:U.length=2)(h:gZ B [x,m] U=true)(d:List Int):fj x m B U d:=by obtain⟨a,b,rfl⟩:=wk f;rw[all2 e c,o8]at h;obtain⟨i,rfl,g⟩:=wj h.1;obtain⟨j,rfl,l⟩:=wj h.2;exact%[i,j,rfl,g|l]
def acK(e:U.length=3)(h:gZ B ["lot","free","free"] U=true)(d:List Int):kL B U d:=by obtain⟨a,b,c,rfl⟩:=z8 e;rw[Pw nf.1]at h;obtain⟨i,rfl,f⟩:=wj h;exact%[i,b,c,rfl|f]
def acL{d:List Int}(e:U.length=(iM n).length)(j:tP n d)(h:gZ B (iM n) U=true):preOf n B U d:=by?
 obtain⟨f,g,k,l,m⟩:=nf
 iterate 3 (obtain c|n:=n;· first|trivial|exact j)
 obtain c|n:=n
 .obtain⟨a,b,rfl⟩:=wk e;have h:gZ B ["entry","free"] _=true:=h;rw[Pu m]at h;obtain⟨i,rfl,o⟩:=wj h;exact%[i,b,rfl|by exact o]
 iterate 18 (obtain c|n:=n;· first|trivial|exact j|exact Hs g f e h d|exact z9 g e h d|exact Hs k f e h d|exact acK e h d|exact z9 f e h d|exact z9 l e h d|exact Hs l g e h d|exact z9 k e h d)
 trivial
def Px(h:B.Ok)(a:there B "way" S=false):(if S<0 then none else(fK B.store)[S.toNat]?)=none:=by
 by_cases c:S<0
 .rw[aS c]
 .rw[aE c,h.all]
  simp_all [there,GW]
def acM(h:B.Ok){o:List Int}(i:U.length=(iM n).length)(g:gZ B (iM n) U=false):hJ (some B.store) (qY n U o)=(some B.store,[-2]):=by?
 obtain⟨p,r,t,v,w⟩:=nf;have u:∀ns:List Int,gZ B [] ns=true:=λns=>by cases ns<;>rfl
 have j:∀{k:Str},decide (k="free")=false->U.length=1->gZ B [k] U=false->∃a,U=[a]/\there B k a=false:=λy i g=>by grind [uK,all1]
 have l:∀{k m:Str},decide (k="free")=false->decide (m="free")=false->U.length=2->gZ B [k,m] U=false->∃a b,U=[a,b]/\(there B k a=false\/there B m b=false):=λy A i g=>by grind [wk,all2]
 have C:U.length=3->gZ B ["lot","free","free"] U=false->∃a b d,U=[a,b,d]/\there B "lot" a=false:=λi g=>by grind [z8,Pw]
 match n,i,g with
 |0,_,g|1,_,g|2,_,g|4,_,g|5,_,g|8,_,g|17,_,g|18,_,g=>exact aT (show gZ B [] U=false from g) (by rw[u];decide)
 |3,i,g=>
  obtain⟨a,b,rfl⟩:=wk i;have g:gZ B ["entry","free"] [a,b]=false:=g;rw[Pu w]at g;have e:gQ a 0 ((B.store.entries.length:Int)-1)=there B "entry" a:=by
   unfold gQ there;rw[abp,show B.store.entries.length=B.ents.length from aY _]
   grind
  exact aS (e.trans g)
 |6,i,g=>
  obtain⟨a,b,rfl,q⟩:=l r p i g;exact aS (q.imp (λz=>(tK h a).trans z) λz=>(j4 B b).trans z)
 |7,i,g=>
  obtain⟨a,rfl,q⟩:=j r i g;exact aS ((tK h a).trans q)
 |9,i,g|10,i,g|11,i,g|13,i,g=>
  obtain⟨a,b,rfl,q⟩:=l t p i g;exact aS (q.imp (λz=>(o3 h a).trans z) λz=>(j4 B b).trans z)
 |12,i,g|19,i,g=>
  obtain⟨a,b,d,rfl,q⟩:=C i g;exact aS (.inl ((j4 B a).trans q))
 |14,i,g|21,i,g=>
  obtain⟨a,rfl,q⟩:=j p i g;exact aS ((j4 B a).trans q)
 |15,i,g=>
  obtain⟨a,rfl,q⟩:=j v i g;show(match(if a<0 then none else(fK B.store)[a.toNat]?)with
   |none=>_
   |some x=>_)=_
  rw[Px h q];rfl
 |16,i,g=>
  obtain⟨a,b,rfl,q⟩:=l v r i g;show(if ud B.store b=false then _ else match(if a<0 then none else(fK B.store)[a.toNat]?)with
   |none=>_
   |some x=>_)=_
  by_cases z:ud B.store b=false
  .rw[aS z];rfl
  .rw[aE z];rcases q with q|q
   .rw[Px h q];rfl
   simp_all [tK]
 |20,i,g=>
  obtain⟨a,rfl,q⟩:=j t i g;exact aS ((o3 h a).trans q)
 |f+22,_,g=>exact aT (show gZ B [] U=false from g) (by rw[u];decide)
def acN(d:n≠0)(a b:List Int):hJ none (qY n a b)=(none,[-1]):=by?
 obtain c|n:=n
 .exact aT rfl d
 clear d
 iterate 20 (obtain c|n:=n;· rfl)
 rfl
def Py(v:V)(h:m≠"ledger"):(sf v).lookup m=aq:=by simp_all [sf,mr]
structure wm(P:aC)(w:World)(K:ah)(mg:Str->Option Value):Prop where
 ex:X2 λa b=>A3 (GV mg "ASKED" (.ref a)) (jb P w K a b) (∀c:Nat,c<=21->∃d,dN b (fu (c:Int))=some (.ref d)/\∀e,bN K e d ((iM c).map V.str))
structure Ht(P:aC)(w:World)(K:ah)(mg:Str->Option Value)(base:ax)(C:CA):Prop where
 ex:X2 λa b=>A3 (GV mg "ANSWERERS" (.ref a)) (jb P w K a b) (∀c:Nat,1<=c->c<=21->X2 λf k=>A3 (k<=12) (dN b (fu (c:Int))=some (.ref f)) (FnAt P w K mg base f k aP (bR K C (preOf c) (qY c))))
theorem nV.led{ω c:LA}{d:SM}(h:jH K C a J H f D (some (ω,B)))(M:Mv J H ω ο Ν c)(L:cN K C ο Ν c d):nV J H f (some (ω,B)) ο Ν (some (c,d))/\jH K C a ο Ν f D (some (c,d)):=by?
 obtain⟨i,np⟩:=h.led ω B rfl;refine%[%[M.fs,M.sub,λb o e n=>M.keep b o e λm=>n (bG _ m),λb g=>?_|M.nw],?_,?_|λA2 j e=>?_]
 .rcases cU.mp g with z|z
  .exact .inl (by rw[z];exact bQ)
  .exact(M.new b z).imp (bG _) id
 .have:=M.keep f _ h.at_ np;rw[this];show some (HO.ins a D (sf (.ref ω.g)))=some (.ins a D (sf (.ref c.g)));rw[M.gg]
 .cases q:ο f with
  |none=>rfl
  |some u=>
   rcases M.nw f u q with z|z
   .rw[h.out]at z;cases z
   .rw[h.at_]at z;cases z
 .cases e;refine%[L|λm=>?_];rcases M.new f m with z|z
  .exact np z
  .rw[h.at_]at z;cases z
abbrev Hu:Stmt:=inClass (top 146) 2
inductive Hv(K:ah)(C:CA)(CS:ae)(d:List V)(H:Hp)(Q:VK)(E:XK):Prop
 |mk(p dp:ae)(x:jg)(c:Nat)(a b:List Int)(u v:V)(F:Hp)(e:d=[.ref p,.int c,u,v])(e:aD F H)(e:jH K C CS F H p dp x)(e:dO F u a)(e:dO F v b)(e:c<=21)(e:a.length=(iM c).length)(e:tP c b)(e:Pr K C CS p dp x F H (qY c a b) Q)
def acO:aV ["self","call","numbers","row"] ["self","call","numbers","row"] (aM Hu):=aX
def acP(Fn:aH K "answer" "Session.answer" Hu f y)(T:z6 K a)(j:GV r "STORE" (.int 0))(E:GV r "NO_STORE" (.int (-1)))(q:GV r "OUT_OF_RANGE" (.int (-2)))(s:wm P w K r)(t:Ht P w K r h C)
  (l:gL P w K r h a "read_store" 12 ["self","text"] (Hr K C a))(z:aW P w K r h "are_there" 4 ["ledger","kinds","numbers"] (GL K C)):aJ P w K r h aR 13 f y ["self","call","numbers","row"] (Hv K C a):=by?
 refine Fn.go acO ?_;rintro e e e e e e e e G ⟨p,dp,x,c,nums,row,u,v,F,rfl,H,b,hu,hv,hc,I,A,k⟩;obtain⟨aa,J,M,N,O⟩:=s.ex;obtain⟨ba,Q,R,S,U⟩:=t.ex;refine%[_,aw (bW (bY dY (pv 1) (bC j) (b_ _)) (au (aF (jY l G (by decide) (pv 0) (ai (pv 3))))) bZ)
  (aw (bW (bY uu (aG (pv 0)) j_ (b_ _)) (au (aF (bH (ai (bC E))))) bZ)
  (aw (bW (nh (eQ (aI z G (ay (aG (pv 0)) (ay (sH (bC M) (pv 1) (λe e=>rfl)) (ai (pv 2))))) (λe=>rfl))) (au (aF (bH (ai (bC q))))) bZ)
  (au (aF (Ml (sH (bC R) (pv 1) (λe e=>rfl)) (ay (aG (pv 0)) (ay (pv 2) (ai (pv 3)))))))))|?_]
 refine%[rfl|⟨?_⟩];by_cases V:c=0
 .subst V;obtain⟨ns,rfl,hn,hb⟩:=A;exact a_ %[b.at_,Py _ (by decide+kernel),p,dp,x,ns,v,F,rfl,H,b,hv,hn,hb|k]
 .rw[bK (λe=>V (by cbv))];refine bt %[b.at_,T.cl,T.nl,z5 _,rfl|⟨?_⟩];cases x with
  |none=>
   refine a_ %[dc|λW m=>?_];have g:=ag.put (o:=.lst [.int (-1)]) H m;exact k _ _ none _ _ (nV.of b g) (b.grow g) (acN V nums row) %[W,rfl,ak|by trivial]
  |some d=>
   obtain⟨B,o⟩:=d;obtain⟨L,np⟩:=b.led B o rfl;obtain⟨ka,X,Y⟩:=O c hc;refine bt %[b.at_,T.cl,T.nl,z5 _,aa,J,fu (c:Int),.ref ka,rfl,N,rfl,X,B,o,iM c,nums,ka,u,F,rfl,H,L,Y,hu,I.symm|λF1 H1 n=>?_];have h1:=b.grow n;refine%[_,rfl|?_];cases ht:gZ o (iM c) nums with
   |false=>
    refine a_ %[dc|λW m=>?_];have g:=n.trans (ag.put (o:=.lst [.int (-2)]) n.sub m);exact k _ _ (some (B,o)) _ _ (nV.of b g) (b.grow g) (acM L.ok I ht) %[W,rfl,ak|by trivial]
   |true=>
    obtain⟨fa,kk,D,Z,ao⟩:=U c (by lia) hc;refine bt %[ba,Q,fu (c:Int),.ref fa,rfl,S,rfl,Z,fa,kk,_,_,rfl,ao,G.mono D|?_];refine%[h1.at_,T.cl,T.nl,z5 _|?_];obtain⟨L1,e⟩:=h1.led B o rfl;refine%[B,o,nums,row,u,v,F1,rfl,n.sub,L1,hu.mono n.fs,hv.mono n.fs,acL I A ht|λF2 H2 A2 s2 i ar M2 L2 st iv=>?_];obtain⟨a1,a2⟩:=nV.led b ((Mv.of L n).trans M2) L2;exact k _ _ (some (A2,s2)) i ar a1 a2 st iv
def jh(c:Nat):Nat:=if c=0\/c=2\/c=17\/c=19 then 1 else 0
theorem acQ:∀c:Nat,c<22->pA (c:Int)=some ((iM c).length,jh c):=by trivial
def acR{p:Int}{n k:Nat}(h:pA p=some (n,k)):∃c:Nat,p=c/\c<=21/\n=(iM c).length/\k=jh c:=by
 obtain⟨a,a,h0,h1,a⟩:=aap h;obtain⟨c,rfl⟩:∃c:Nat,p=c:=⟨p.toNat,by lia⟩
 grind [acQ]
def acS(h:n<=21)(f:U.length=(iM n).length)(g:jh n=0):afe [(n:Int)::U]=some (qY n U []):=by?
 match n,h,f,g with
 |1,_,f,_|4,_,f,_|5,_,f,_|8,_,f,_|18,_,f,_=>
  obtain rfl:U=[]:=ow f;rfl
 |3,_,f,_|6,_,f,_|9,_,f,_|10,_,f,_|11,_,f,_|13,_,f,_|16,_,f,_=>
  obtain⟨a,b,rfl⟩:=wk f;rfl
 |7,_,f,_|14,_,f,_|15,_,f,_|20,_,f,_|21,_,f,_=>
  obtain⟨a,rfl⟩:=uK f;rfl
 |12,_,f,_=>
  obtain⟨a,b,d,rfl⟩:=z8 f;rfl
 |0,_,_,g|2,_,_,g|17,_,_,g|19,_,_,g=>exact aT g (by decide)
 |e+22,h,_,_=>cbv
def acT{e:List Int}(f:U.length=(iM n).length)(g:jh n=1):afe [(n:Int)::U,e]=some (qY n U e):=by
 unfold jh at g;split at g
 .rename_i q;rcases q with rfl|rfl|rfl|rfl
  .obtain rfl:U=[]:=ow f;rfl
  .obtain rfl:U=[]:=ow f;rfl
  .obtain rfl:U=[]:=ow f;rfl
  .obtain⟨a,b,d,rfl⟩:=z8 f;rfl
 .cases g
theorem Pz(d:n≠0)(b:n≠2)(a:n≠17):tP n U:=by simp[tP]
def Hw(c:U.length<=n)(h:U.all (Ro 0 255)=true):z7 n U:=by
 have b:=λx a=>by have:=nY.mp h x a;unfold Ro at this;simpa using this
 refine%[U.map mZ,?_,by cbv|λx a=>?_]
 .exact(Hl (m:=256) λx a=>by have:=b x a;lia).symm
 grind
def z_{j:Nat}(h:aff [(S,φ,n,j)] [U]=true):U.length<=j/\U.all (Ro S φ)=true:=by
 have h:(decide _&&decide _&&U.all _&&true)=true:=h
 cbv
def acU{d:List Int}(e:jh n=1)(h:afg xi [(n:Int)::U,d]=true):tP n d/\d.length<=2500:=by?
 have h:(PyInside.each _ U&&aff _ _)=true:=h;rw[o8]at h;unfold jh at e;split at e
 .rename_i q;rcases q with rfl|rfl|rfl|rfl
  .obtain⟨a,b⟩:=z_ h.2;exact%[Hw a b|a]
  .obtain⟨a,b⟩:=z_ h.2;exact%[Hw a b|by exact bq (by assumption) (by decide)]
  .obtain⟨a,b⟩:=z_ h.2;exact%[Hw a b|by exact bq (by assumption) (by decide)]
  .obtain⟨a,b⟩:=z_ h.2
   grind [Pz]
 .cases e
def acV{w:List (List (List Int))}(h:ou pA n U=some w)(e:IY xi w=true)(ne:U≠[]):
  X7 λ(j c:Nat) (d g t:List Int) (b:List (List (List Int))) (co:List (List Int))=>A9 (c<=21) (d.length=(iM c).length) (tP c g) (g.length<=2500) (ou pA j t=some b) (IY xi b=true) (w=co::b) (∀st,pE st co=hJ st (qY c d g)) ((jh c=0/\g=[]/\U=(c:Int)::(d++t))\/(jh c=1/\U=(c:Int)::(d++(g.length:Int)::(g++t)))):=by?
 obtain⟨p,r,rfl⟩:X2 λp r=>U=p::r:=by
  cases U with
  |nil=>exact aT rfl ne
  |cons p r=>exact%[p,r|rfl]
 obtain⟨j,a,k,co,t,b,rfl,y,z,i,rfl,G,A⟩:=aao h;obtain⟨c,rfl,u,rfl,rfl⟩:=acR y;have e:(afg xi co&&b.all _)=true:=e;rw[o8]at e;have o:(r.take (iM c).length).length=(iM c).length:=by exact afh z
 have v:jh c=0\/jh c=1:=by grind [jh]
 rcases v with k0|s
 .obtain⟨rfl,rfl⟩:=G k0;have I:¬(c=0\/c=2\/c=17\/c=19):=λq=>by simp_all [jh]
  refine%[j,c,r.take _,[],_,b,_,u,o,Pz (by cbv) (by cbv) (by cbv),bM _,i,e.2,rfl,λst=>?_| .inl %[k0,rfl|by cbv]];unfold pE;rw[acS u o k0]
 .obtain⟨m,x,B,H,C,rfl,rfl⟩:=A s;have D:(x.take m.toNat).length=m.toNat:=by exact afh C
  obtain⟨E,F⟩:=acU s e.1;refine%[j,c,r.take _,x.take m.toNat,_,b,_,u,o,E,F,i,e.2,rfl,λst=>?_| .inr %[s|?_]]
  .unfold pE;rw[acT o s]
  .rw[lZ,D,AJ H,<-B,lZ]
def acW:∀c:Nat,c<=21->rS (.int (c:Int)) (([0,2,17,19]:List Int).map V.int)=decide (jh c=1):=by
 intro c a;have:∀c:Nat,c<22->rS (.int (c:Int)) (([0,2,17,19]).map V.int)=decide (jh c=1):=by trivial
 exact this c (by exact w8 a)
def Hx{ζ:List V}(h:af K H a ζ)(k:∀o,H a=some o->J a=some o):af K J a ζ:=by
 rcases h with(h|⟨o,h⟩)|h
 .exact .inl (.inl (k _ h))
 .exact .inl (.inr %[o|k _ h])
 .exact .inr h
theorem jH.upd{l:ae}{x:jg}(h:jH K C a J H f l x)(n:D∉x.foot f):jH K C a J (upd H D ψ) f l x:=by have np:f≠D:=λz=>n (by rw[<-z];cases x<;>exact bQ);refine%[by rw[aB np];exact h.at_,h.out|λA s e=>?_];subst e;obtain⟨L,m⟩:=h.led A s rfl;refine%[L.at λb ψ c e=>?_|m];rw[aB (λz=>n (by rw[<-z];exact bG _ c))];exact e
end
abbrev Hy:Stmt:=top 147
inductive Hz(K:ah)(c:List V)(H:Hp)(Q:VK)(E:XK):Prop
 |mk(a:ae)(l:List Int)(d:c=[.ref a])(d:af K H a (l.map V.int))(d:afi l=true)(d:∀b p,b p=some (.lst ((ue l).map V.int))->Q (.ref p) b)
def kO:aV ["calls","session","given","at","call","behind","numbers","row","answer"] ["calls"] (aM Hy):=aX
structure Aa(K:ah)(mg:Str->Option Value):Prop where
 ex:∃a,GV mg "ROWS" (.ref a)/\∀b,bN K b a (([0,2,17,19]:List Int).map V.int)
inductive PB(K:ah)(C:CA)(CS a p dp D:ae)(H:Hp)(l:List Int):Nat->List (Option V)->Hp->Prop
 |mk(d c:Hp)(i:Nat)(x:jg)(g:List Int)(e:List (List (List Int)))(f:Nat)(h j k m n:Option V)(r:i<=l.length)(r:aD d c)(r:jH K C CS d c p dp x)(r:c D=some (.lst (g.map V.int)))(r:d D=aq)(r:D∉x.foot p)(r:∀b o,H b=some o->c b=some o/\b∉x.foot p/\b≠D)(r:ou pA f (l.drop i)=some e)(r:IY xi e=true)(r:g++xc (IZ pE x.st e)=ue l):PB K C CS a p dp D H l (l.length-i) [some (.ref a),some (.ref p),some (.ref D),some (.int (i:Nat)),h,j,k,m,n] c
def acX{P G:Prop}(h:P->G)(p:P):G:=h p
section
variable{L g l z Ω ε π:ae}{R Τ:Str}{S:Int}{an od:Option ae}{base h:ax}{cdv ct doc kV pm η:Value}{ep:Nat}{mg r:Str->Option Value}{osl:Array (Option Value)}{sp:Sp}{Γ:Stmt}{ν:List Str}
set_option tactic.hygienic true in
def acY{CS f:ae}{fd:aK}(Fn:aH K "answers" "answers" Hy f fd)(hlen:mg "len"=aq)(hAsk:wm P w K mg)(hRows:Aa K mg)(hSes:jX P w K mg base "Session" CS 1 ["self"] (Ho CS))
  (hAnswer:gL P w K mg base CS "answer" 13 ["self","call","numbers","row"] (Hv K C CS)):aJ P w K mg base aR 14 f fd ["calls"] (Hz K):=by?
 refine Fn.go kO λcdv A outer s H vs Q E hr h=>?_;obtain⟨a,l,rfl,hq,hask,k⟩:=h;obtain⟨aa,akv,hga,hda,hka⟩:=hAsk.ex;obtain⟨ra,hgr,hrs⟩:=hRows.ex;refine⟨_,aw (bp 1 kO (Cc hSes hr (by decide) rfl))
  (aw (bp 2 kO (bH e_))
  (aw (bp 3 kO aL)
  (aw (A0 d9 (bY ur (pv 3) (cg dG (by rfl) hlen du (ai (pv 0))) (b_ _))
   (aw (bp 4 kO (aQ bA (pv 0) (pv 3) (λ_ _=>rfl)))
   (aw (bp 5 kO (bJ jy (bJ jy (pv 3) aL) (cg dG (by rfl) hlen du (ai (sH (bC hga) (pv 4) (λ_ _=>rfl))))))
   (aw (bp 6 kO (oJ oK (pv 0) (lu (bJ jy (pv 3) aL)) (lu (pv 5))))
   (aw (bp 7 kO (bH e_))
   (aw (bW (bY pX (pv 4) (bC hgr) rfl)
    (aw (bp 7 kO (oJ oK (pv 0) (lu (bJ jy (pv 5) aL)) (lu (bJ jy (bJ jy (pv 5) aL) (aQ bA (pv 0) (pv 5) (λ_ _=>rfl))))))
    (au (RW (i:=5) kO.nd rfl (Ak rfl) (bJ jy aL (cg dG (by rfl) hlen du (ai (pv 7)))) RY))) bZ)
   (aw (bp 8 kO (jY hAnswer hr (by decide) (pv 1) (ay (pv 4) (ay (pv 6) (ai (pv 7))))))
   (aw (eN (iG (pv 2) (ai (cg dG (by rfl) hlen du (ai (pv 8))))))
   (aw (eN (zW (pv 2) (ai (pv 8))))
   (au (bp 3 kO (pv 5))))))))))))
  (au (aF (pv 2)))))),?_⟩
 obtain⟨cs0,hcs0,hin0,hsh0⟩:X1 λcs=>A3 (ou pA l.length l=some cs) (IY xi cs=true) ((ue l).length<=10000000):=by
  unfold afi at hask;split at hask
  .cases hask
  .rename_i raw e;simp only[o8]at hask;exact⟨raw,e,hask.1.1.2,of_decide_eq_true hask.2⟩
 have tot0:xc (IZ pE Vbcraf.start cs0)=ue l:=by unfold ue;rw[aan,hcs0];rfl
 intro p dp hp hdp hne;refine⟨p,dp,rfl,ak,rfl,?_⟩;have atp:(upd (upd (upd H dp (.own p)) p (.ins CS dp [])) p (.ins CS dp (sf .bB))) p=some (.ins CS dp (sf .bB)):=ak;have old0:∀b o,H b=some o->(upd (upd (upd H dp (.own p)) p (.ins CS dp [])) p (.ins CS dp (sf .bB))) b=some o:=λb o e=>by grind [aB]
 generalize(upd (upd (upd H dp (.own p)) p (.ins CS dp [])) p (.ins CS dp (sf .bB)))=H0 at atp old0;refine⟨bM _,λD hD=>?_⟩;have pD:p≠D:=eZ atp hD;refine⟨PB K C CS a p dp D H l,
  ⟨_,λ_=>aq,_,0,none,[],cs0,l.length,_,_,_,_,_,bM _,(λb o e=>nomatch e),⟨by rw[aB pD];exact atp,rfl,(λA s e=>nomatch e)⟩,ak,rfl,?_,λb o e=>?_,hcs0,hin0,tot0⟩,?_⟩
 .intro m;exact pD (fJ.mp m).symm
 .refine⟨cQ hD _ _ (old0 b o e),λm=>?_,eZ (old0 b o e) hD⟩;exact aT (fJ.mp m) (eZ e hp)
 rintro m σ H' ⟨F',_,i,x,zs,cs,f0,q4,q5,q6,q7,q8,hi,hF,hS,eD,fD,nD,old,hcs,hin,cX⟩;have sq:af K H' a (l.map V.int):=Hx hq λo e=>(old a o e).1
 refine⟨a,_,rfl,.inl sq,⟨⟨?_⟩⟩⟩;rw[aY];by_cases lt:i<l.length
 .rw[bT (by simp[*])];refine a_ ⟨λσ' H'=>∃m',m'<l.length-i/\_,λ_ _ h=>h,?_⟩;have nel:l.drop i≠[]:=λe=>by (cbv;lia)
  obtain⟨f',c,nums,row,t,cs',co,hc,hl,hro,hrl,hcs2,hin',rfl,hst,hsp⟩:=acV hcs hin nel;obtain⟨ka,hkv,hks⟩:=hka c hc;have lk:nums.length<=3:=by
   rw[hl];have:∀c:Nat,c<22->(iM c).length<=3:=by trivial
   exact this c (by exact w8 hc)
  have ehd:l[i]?=some (c:Int):=by
   have:(l.drop i)[0]?=some (c:Int):=by rcases hsp with⟨_,_,e⟩|⟨_,e⟩<;>rw[e]<;>rfl
   rw[AD]at this;exact this
  refine⟨sq,bg (j:=i) (v:=V.int (c:Nat)) (by rw[eJ,ehd];rfl),?_⟩;refine⟨aa,akv,fu (c:Int),.ref ka,rfl,hda,rfl,hkv,ka,_,rfl,.inr (hks _),⟨?_⟩⟩;have eb1:(i:Int)+1+(((iM c).map V.str).length:Int)=((i+1+nums.length:Nat):Int):=by rw[aY,<-hl];rfl
  dsimp only;rw[eb1];refine⟨sq,λN hN=>?_⟩;have ecut:jP (l.map V.int) (some ((i:Int)+1)) (some ((i+1+nums.length:Nat):Int))=nums.map V.int:=by
   rw[show(i:Int)+1=((i+1:Nat):Int)by exact AI i,EB,<-t_,<-rh,show i+1+nums.length-(i+1)=nums.length by exact IL (i+1) nums.length];have:l.drop (i+1)=(l.drop i).drop 1:=by rw[xj]
   grind
  rw[ecut];have g1:=ag.put (o:=.lst (nums.map V.int)) hF hN;have sq1:=Hx sq λo e=>g1.same _ _ e
  refine⟨bM _,λR0 hR0=>?_⟩;refine⟨ra,_,rfl,.inr (hrs _),rfl,rfl,⟨?_⟩⟩;rw[aE dJ,acW c hc];apply acX
  .intro fin;rcases hsp with⟨k0,er,edl⟩|⟨k1,edl⟩
   rotate_left
   .rw[bT k1];refine a_ ?_;have g2:=g1.trans (ag.bD (o:=.lst []) g1.sub hR0);have sq2:=Hx sq λo e=>g2.same _ _ e
    have ell:l[i+1+nums.length]?=some (row.length:Int):=by
     have:(l.drop i)[1+nums.length]?=some (row.length:Int):=by simp+arith [*]
     grind
    refine⟨sq2,bg (j:=i+1+nums.length) (v:=V.int (row.length:Nat)) (by rw[eJ,ell];rfl),sq2,λR hR=>?_⟩;have ecut2:jP (l.map V.int) (some (((i+1+nums.length:Nat):Int)+1)) (some (((i+1+nums.length:Nat):Int)+1+(row.length:Int)))=row.map V.int:=by rw[show((i+1+nums.length:Nat):Int)+1=((i+(1+nums.length+1):Nat):Int)by simp+arith,show((i+(1+nums.length+1):Nat):Int)+(row.length:Int)=((i+(1+nums.length+1)+row.length:Nat):Int)by simp,EB,<-t_,<-rh,Nat.add_sub_cancel_left,<-xj,edl,wX 1,I0,<-xj,I_];simp
    rw[ecut2];have g5:=g2.trans (ag.put (o:=.lst (row.map V.int)) g2.sub hR);refine⟨_,rfl,R,_,rfl,.inl (af.of ak),_,_,rfl,rfl,?_⟩;have eb2:((i+1+nums.length:Nat):Int)+(1+((row.map V.int).length:Int))=((i+1+nums.length+1+row.length:Nat):Int):=by rw[aY];simp+arith
    dsimp only;rw[eb2];have iN:dO (upd _ R (.lst (row.map V.int))) (.ref N) nums:=⟨N,rfl,cQ (g2.sub.free hR) _ _ ak,bq lk (by decide)⟩;have iR:dO (upd (upd F' N (.lst (nums.map V.int))) R (.lst (row.map V.int))) (.ref R) row:=⟨R,rfl,ak,bq hrl (by decide)⟩;have edrop:l.drop (i+1+nums.length+1+row.length)=t:=by rw[show i+1+nums.length+1+row.length=i+(1+nums.length+1+row.length)by simp+arith,<-xj,edl,show 1+nums.length+1+row.length=(nums.length+(1+row.length))+1 by simp+arith,I0,<-xj,I_,wX 1,I0,I_]
    have lb:i+1+nums.length+1+row.length<=l.length/\i<i+1+nums.length+1+row.length:=by grind [dB]
    generalize i+1+nums.length+1+row.length=b at edrop lb⊢;generalize upd (upd F' N (.lst (nums.map V.int))) R (.lst (row.map V.int))=F5 at g5 iN iR;generalize upd (upd (upd H' N (.lst (nums.map V.int))) R0 (.lst [])) R (.lst (row.map V.int))=H5 at g5⊢;clear hR;revert b F5 H5 R;exact fin
   .rw[bK (by rw[k0];decide)];refine bt ?_;have g5:=g1.trans (ag.put (o:=.lst []) g1.sub hR0);have iN:dO (upd _ R0 (.lst [])) (.ref N) nums:=⟨N,rfl,cQ (g1.sub.free hR0) _ _ ak,bq lk (by decide)⟩;have iR:dO (upd (upd F' N (.lst (nums.map V.int))) R0 (.lst [])) (.ref R0) row:=⟨R0,rfl,by rw[er];exact ak,by rw[er];exact bM _⟩;have edrop:l.drop (i+1+nums.length)=t:=by rw[show i+1+nums.length=i+(1+nums.length)by exact aew i 1 nums.length,<-xj,edl,wX 1,I0,I_]
    have lb:i+1+nums.length<=l.length/\i<i+1+nums.length:=by grind [dB]
    exact fin _ _ edrop lb _ iN iR _ g5
  intro R b edrop ⟨lb,ib⟩ F5 iN iR H5 g5;have S5:=hS.grow g5;have sm5:=g5.same;refine⟨S5.at_,Py _ (by decide+kernel),p,dp,x,c,nums,row,.ref N,.ref R,_,rfl,g5.sub,S5,iN,iR,hc,hl,hro,λF6 H6 x6 r6 ans M6 S6 st6 ⟨ra,er,hra,hlen⟩=>?_⟩;subst er;have eD5:=sm5 _ _ eD;have eD6:=M6.keep _ _ eD5 nD;have nD5:F5 D=aq:=g5.Pq eD fD;have nD6:F6 D=aq:=by
   cases q:F6 D with
   |none=>rfl
   |some u=>
    rcases M6.nw D u q with z|z
    .rw[nD5]at z;cases z
    .rw[eD5]at z;cases z
  have fD6:D∉x6.foot p:=λm=>by
   rcases M6.new D m with z|z
   .exact nD z
   .rw[eD5]at z;cases z
  have hra6:=M6.sub _ _ hra;have raD:ra≠D:=λz=>by rw[z,nD6]at hra;cases hra
  have tot6:(zs++[(ans.length:Int)])++ans++xc (IZ pE x6.st cs')=ue l:=by rw[<-cX];show _=zs++xc ((pE x.st co).2::IZ pE (pE x.st co).1 cs');rw[hst,st6,aaq];simp
  have tl6:(zs++[(ans.length:Int)]).length+ans.length<=10000000:=by grind
  refine⟨.inl ⟨rfl,_,af.of eD6⟩,ra,_,rfl,.inl (af.of hra6),eD6,(by rw[aY,pH];rw[dB]at tl6;lia),?_⟩;have eD7:(upd H6 D (.lst (zs.map V.int++[.int ((ans.map V.int).length:Nat)]))) D=some (.lst ((zs++[(ans.length:Int)]).map V.int)):=by rw[ak,cF,aY];rfl
  refine⟨.inl ⟨rfl,_,af.of eD7⟩,eD7,(by rw[aB raD];exact hra6),(by rw[aY,aY,pH];exact bq (by assumption) (by decide)),?_⟩;rw[xt,<-cF];refine⟨_,Nat.sub_lt_sub_left lt ib,F6,_,b,x6,(zs++[(ans.length:Int)])++ans,cs',f',_,_,_,_,_,lb,nS M6.sub nD6,S6.upd fD6,ak,nD6,fD6,λb0 o e=>?_,by rw[edrop];exact hcs2,hin',tot6⟩;obtain⟨e1,n1,n2⟩:=old b0 o e;have e5:=sm5 _ _ e1;refine⟨by rw[aB n2];exact M6.keep _ _ e5 n1,λm=>?_,n2⟩;rcases M6.new b0 m with z|z
  .exact n1 z
  .rw[e5]at z;cases z
 .rw[bK (by simp[*])];refine bt (k H' D ?_);have:l.drop i=[]:=Q5 (by exact og lt);rw[this]at hcs;have hc0:cs=[]:=by cases f0<;>(unfold ou at hcs;cases hcs;rfl)
  subst hc0;have cX:zs++[]=ue l:=cX;rw[g9]at cX;rw[<-cX];exact eD
structure Fd(K:ah)(mg:Str->Option Value)(x:Str)(st:Stmt)(f:ae):Prop where
 ex:∃fd,aH K x x st f fd
 at_:mg x=some (.ref f)
structure Md(K:ah)(D:ae)(m a:Str)(st:Stmt):Prop where
 ex:X2 λf b=>A2 (aH K m a st f b) (Meth K D m f)
structure Cd(K:ah)(mg:Str->Option Value)(x:Str)(D:ae)(a:Str)(st:Stmt):Prop where
 ex:X2 λf b=>A2 (aH K "__init__" a st f b) (Mk K D f)
 at_:mg x=some (.ref D)
def ji{Φ:List Value}(h:Φ.length=n+1):X2 λa r=>A2 (Φ=a::r) (r.length=n):=by
 cases Φ with
 |nil=>cases h
 |cons a r=>exact%[a,r,rfl|Qo h]
def _root_.L2.aH.b1(F:aH K x Τ Γ f y)(h:∀(kV b d:Value) (e:Option ae) (a ct c:Value),bindArgs (j6 x Τ (ko Γ) (jz Γ) (aM Γ) .none kV b d e a ct) %[[c]|[]]=pure [(R,c)]):Binds K y [R] []:=F.binds λkV b d e a ct l g=>by obtain⟨m,j,rfl,i⟩:=ji g;cases ow i;exact h ..
def _root_.L2.aH.b2{qual:Str}(F:aH K x qual Γ f y)(h:∀(kV b e:Value) (g:Option ae) (a ct c d:Value),bindArgs (j6 x qual (ko Γ) (jz Γ) (aM Γ) .none kV b e g a ct) %[[c,d]|[]]=pure [(R,c),(Τ,d)]):Binds K y [R,Τ] []:=F.binds λkV b e g a ct p i=>by obtain⟨m,n,rfl,j⟩:=ji i;obtain⟨m,o,rfl,l⟩:=ji j;cases ow l;exact h ..
def _root_.L2.aH.b3{c qual:Str}(F:aH K x qual Γ f y)(h:∀(kV b i:Value) (j:Option ae) (a ct d e g:Value),bindArgs (j6 x qual (ko Γ) (jz Γ) (aM Γ) .none kV b i j a ct) %[[d,e,g]|[]]=pure [(R,d),(Τ,e),(c,g)]):Binds K y [R,Τ,c] []:=F.binds λkV b i j a ct t l=>by obtain⟨m,q,rfl,n⟩:=ji l;obtain⟨m,r,rfl,o⟩:=ji n;obtain⟨m,s,rfl,p⟩:=ji o;cases ow p;exact h ..
def _root_.L2.aH.b4{c d qual:Str}(F:aH K x qual Γ f y)(h:∀(kV b l:Value) (n:Option ae) (a ct e g i j:Value),bindArgs (j6 x qual (ko Γ) (jz Γ) (aM Γ) .none kV b l n a ct) %[[e,g,i,j]|[]]=pure [(R,e),(Τ,g),(c,i),(d,j)]):Binds K y [R,Τ,c,d] []:=F.binds λkV b l n a ct A o=>by obtain⟨m,t,rfl,p⟩:=ji o;obtain⟨m,u,rfl,q⟩:=ji p;obtain⟨m,v,rfl,r⟩:=ji q;obtain⟨m,z,rfl,s⟩:=ji r;cases ow s;exact h ..
def _root_.L2.aH.b5{c d e qual:Str}(F:aH K x qual Γ f y)(h:∀(kV b o:Value) (p:Option ae) (a ct g i j l n:Value),bindArgs (j6 x qual (ko Γ) (jz Γ) (aM Γ) .none kV b o p a ct) %[[g,i,j,l,n]|[]]=pure [(R,g),(Τ,i),(c,j),(d,l),(e,n)]):Binds K y [R,Τ,c,d,e] []:=F.binds λkV b o p a ct H q=>by obtain⟨m,z,rfl,r⟩:=ji q;obtain⟨m,A,rfl,s⟩:=ji r;obtain⟨m,B,rfl,t⟩:=ji s;obtain⟨m,E,rfl,u⟩:=ji t;obtain⟨m,G,rfl,v⟩:=ji u;cases ow v;exact h ..
def Fd.has(P:aC)(w:World)(base:ax)(h:Fd K r x Γ f)(ok:∀{a},aH K x x Γ f a->aJ P w K r base aR n f a ν sp)(b:∀{a},aH K x x Γ f a->Binds K a ν []:=by first|exact(·.b3 λc c c c c c c c c=>rfl)|exact(·.b2 λc c c c c c c c=>rfl)|exact(·.b1 λc c c c c c c=>rfl)|exact(·.b4 λc c c c c c c c c c=>rfl)|exact(·.b5 λc c c c c c c c c c c=>rfl)):aW P w K r base x n ν sp:=by obtain⟨a,F⟩:=h.ex;exact%[f,a,ok F,h.at_,F.kp|b F]
def Fd.fnAt(P:aC)(w:World)(base:ax)(h:Fd K r x Γ f)(ok:∀{a},aH K x x Γ f a->aJ P w K r base aR n f a ν sp)(b:∀{a},aH K x x Γ f a->Binds K a ν []:=by first|exact(·.b3 λc c c c c c c c c=>rfl)|exact(·.b2 λc c c c c c c c=>rfl)|exact(·.b1 λc c c c c c c=>rfl)|exact(·.b4 λc c c c c c c c c c=>rfl)|exact(·.b5 λc c c c c c c c c c c=>rfl)):FnAt P w K r base f n ν sp:=by obtain⟨a,F⟩:=h.ex;exact%[a,ok F,F.kp|b F]
def Md.has(P:aC)(w:World)(base:ax)(mg:Str->Option Value)(h:Md K D m R Γ)(c:gJ K D)(ok:∀{f a},aH K m R Γ f a->aJ P w K mg base aR n f a ν sp)(b:∀{f a},aH K m R Γ f a->Binds K a ν []:=by first|exact(·.b3 λd d d d d d d d d=>rfl)|exact(·.b2 λd d d d d d d d=>rfl)|exact(·.b1 λd d d d d d d=>rfl)|exact(·.b4 λd d d d d d d d d d=>rfl)|exact(·.b5 λd d d d d d d d d d d=>rfl)):gL P w K mg base D m n ν sp:=by obtain⟨f,a,F,M⟩:=h.ex;exact%[c,f,a,M,ok F|b F]
def Cd.has(P:aC)(w:World)(base:ax)(h:Cd K r x D R Γ)(ok:∀{f a},aH K "__init__" R Γ f a->aJ P w K r base aR n f a ν sp)(b:∀{f a},aH K "__init__" R Γ f a->Binds K a ν []:=by first|exact(·.b3 λc c c c c c c c c=>rfl)|exact(·.b2 λc c c c c c c c=>rfl)|exact(·.b1 λc c c c c c c=>rfl)|exact(·.b4 λc c c c c c c c c c=>rfl)|exact(·.b5 λc c c c c c c c c c c=>rfl)):jX P w K r base x D n ν sp:=by obtain⟨f,a,F,M⟩:=h.ex;exact%[f,a,M,ok F,h.at_|b F]
structure Ab(P:aC)(w:World)(K:ah)(mg:Str->Option Value)(c d e fs g:ae):Prop where
 ex:X2 λa b=>A7 (GV mg "DOERS" (.ref a)) (jb P w K a b) (dN b (eE "come")=some (.ref c)) (dN b (eE "move")=some (.ref d)) (dN b (eE "weigh")=some (.ref e)) (dN b (eE "sell")=some (.ref fs)) (dN b (eE "waste")=some (.ref g))
def acZ(d:Ab P w K r a l z L ε)(u:FnAt P w K r h a 7 ["way","deed","layout"] (iW K C.P C.W C.D C.L "come"))(v:FnAt P w K r h l 7 ["way","deed","layout"] (iW K C.P C.W C.D C.L "move"))
  (i:FnAt P w K r h z 7 ["way","deed","layout"] (iW K C.P C.W C.D C.L "weigh"))(j:FnAt P w K r h L 7 ["way","deed","layout"] (iW K C.P C.W C.D C.L "sell"))(n:FnAt P w K r h ε 7 ["way","deed","layout"] (iW K C.P C.W C.D C.L "waste")):Ey P w K r h C.P C.W C.D C.L:=by?
 obtain⟨b,c,g,d,o,p,q,s,t⟩:=d.ex;refine%[b,c,g,d|λe=>?_];cases e
 all_goals first|exact%[_,o|u]|exact%[_,p|v]|exact%[_,q|i]|exact%[_,s|j]|exact%[_,t|n]
structure Ac(P:aC)(w:World)(K:ah)(mg:Str->Option Value)(fs:Nat->ae):Prop where
 ex:X2 λa b=>A3 (GV mg "ANSWERERS" (.ref a)) (jb P w K a b) (∀c:Nat,1<=c->c<=21->dN b (fu (c:Int))=some (.ref (fs c)))
def ac0{fs:Nat->ae}(d:Ac P w K r fs)
  (N:FnAt P w K r h (fs 1) 2 aP (bR K C iY λ_ _=>.print))
  (O:FnAt P w K r h (fs 2) 11 aP (bR K C (o4 200) λ_ b=>.more b))
  (F:FnAt P w K r h (fs 3) 6 aP (bR K C zV λn _=>.settle (i0 n) (i1 n)))
  (G:FnAt P w K r h (fs 4) 3 aP (bR K C iY λ_ _=>.undo))
  (H:FnAt P w K r h (fs 5) 3 aP (bR K C iY λ_ _=>.worlds))
  (I:FnAt P w K r h (fs 6) 6 aP (bR K C (fj "place" "lot") λn _=>.place (i0 n) (i1 n)))
  (J:FnAt P w K r h (fs 7) 6 aP (bR K C (gB "place") λn _=>.kilos (i0 n)))
  (L:FnAt P w K r h (fs 8) 2 aP (bR K C iY λ_ _=>.sold))
  (M:FnAt P w K r h (fs 9) 6 aP (bR K C (fj "sold" "lot") λn _=>.trace (i0 n) (i1 n)))
  (l:FnAt P w K r h (fs 10) 6 aP (bR K C (fj "sold" "lot") λn _=>.share (i0 n) (i1 n)))
  (o:FnAt P w K r h (fs 11) 6 aP (bR K C (fj "sold" "lot") λn _=>.surely (i0 n) (i1 n)))
  (p:FnAt P w K r h (fs 12) 5 aP (bR K C kL λn _=>.recall (i0 n) (i1 n) (i2 n)))
  (q:FnAt P w K r h (fs 13) 7 aP (bR K C (fj "sold" "lot") λn _=>.ask (i0 n) (i1 n)))
  (s:FnAt P w K r h (fs 14) 6 aP (bR K C (gB "lot") λn _=>.mass (i0 n)))
  (t:FnAt P w K r h (fs 15) 2 aP (bR K C (gB "way") λn _=>.way (i0 n)))
  (u:FnAt P w K r h (fs 16) 2 aP (bR K C (fj "way" "place") λn _=>.inside_ (i0 n) (i1 n)))
  (v:FnAt P w K r h (fs 17) 2 aP (bR K C (o4 20) λ_ b=>.find b))
  (y:FnAt P w K r h (fs 18) 1 aP (bR K C iY λ_ _=>.unsettled))
  (z:FnAt P w K r h (fs 19) 5 aP (bR K C kL λn b=>.enough (i0 n) (i1 n) (i2 n) b))
  (A:FnAt P w K r h (fs 20) 6 aP (bR K C (gB "sold") λn _=>.soldKilos (i0 n)))
  (B:FnAt P w K r h (fs 21) 6 aP (bR K C (gB "lot") λn _=>.where_ (i0 n))):Ht P w K r h C:=by?
 obtain⟨a,E,g,d,e⟩:=d.ex;refine%[a,E,g,d|λc i j=>?_]
 match c,i,j with
 |1,i,j=>exact%[_,2,by decide,e 1 i j|N]
 |2,i,j=>exact%[_,11,by decide,e 2 i j|O]
 |3,i,j=>exact%[_,6,by decide,e 3 i j|F]
 |4,i,j=>exact%[_,3,by decide,e 4 i j|G]
 |5,i,j=>exact%[_,3,by decide,e 5 i j|H]
 |6,i,j=>exact%[_,6,by decide,e 6 i j|I]
 |7,i,j=>exact%[_,6,by decide,e 7 i j|J]
 |8,i,j=>exact%[_,2,by decide,e 8 i j|L]
 |9,i,j=>exact%[_,6,by decide,e 9 i j|M]
 |10,i,j=>exact%[_,6,by decide,e 10 i j|l]
 |11,i,j=>exact%[_,6,by decide,e 11 i j|o]
 |12,i,j=>exact%[_,5,by decide,e 12 i j|p]
 |13,i,j=>exact%[_,7,by decide,e 13 i j|q]
 |14,i,j=>exact%[_,6,by decide,e 14 i j|s]
 |15,i,j=>exact%[_,2,by decide,e 15 i j|t]
 |16,i,j=>exact%[_,2,by decide,e 16 i j|u]
 |17,i,j=>exact%[_,2,by decide,e 17 i j|v]
 |18,i,j=>exact%[_,1,by decide,e 18 i j|y]
 |19,i,j=>exact%[_,5,by decide,e 19 i j|z]
 |20,i,j=>exact%[_,6,by decide,e 20 i j|A]
 |21,i,j=>exact%[_,6,by decide,e 21 i j|B]
 |0,i,_=>omega
 |n+22,_,j=>omega
def afl
  (ep:Cd K r "Part" a "Part.__init__" Cu)
  (er:Cd K r "Deed" D "Deed.__init__" DA)
  (es:Cd K r "Layout" l "Layout.__init__" DF)
  (et:Cd K r "Way" f "Way.__init__" Ef)
  (eu:Cd K r "Demand" z "Demand.__init__" Fj)
  (ew:Cd K r "Ledger" g "Ledger.__init__" Gg)
  (ao:Cd K r "Session" L "Session.__init__" Hn)
 (F0:Fd K r "divisor" Ce π)
 (F1:Fd K r "whole" Cf Ω)
  {f2:ae}(F2:Fd K r "plus" Cg f2)
  {f3:ae}(F3:Fd K r "minus" Ci f3)
  {f4:ae}(F4:Fd K r "times" Ck f4)
  {f5:ae}(F5:Fd K r "over" Cn f5)
  {f6:ae}(F6:Fd K r "is_less" Co f6)
  {f7:ae}(F7:Fd K r "total" Cq f7)
  {f8:ae}(F8:Fd K r "least" Cr f8)
  {f9:ae}(F9:Fd K r "greatest" Ct f9)
  {ey:ae}(ez:Fd K r "kilos_of" Cv ey)
  {eD:ae}(eH:Fd K r "green_of" Cy eD)
  {eL:ae}(eP:Fd K r "share_of" CB eL)
  {eR:ae}(e0:Fd K r "mixed" CJ eR)
  {e1:ae}(e2:Fd K r "put" CN e1)
  {e3:ae}(e4:Fd K r "taken_and_left" CQ e3)
  {e5:ae}(e7:Fd K r "weighed" CT e5)
  {e8:ae}(fb:Fd K r "bytes_of" C0 e8)
  {fc:ae}(ff:Fd K r "holds_only" C7 fc)
  {fg:ae}(fk:Fd K r "is_name" C' fg)
  {fl:ae}(fm:Fd K r "is_kilos" Df fl)
  {fo:ae}(fp:Fd K r "fits" Dg fo)
  {fq:ae}(ft:Fd K r "has_form" Dj fq)
  {fv:ae}(fw:Fd K r "words_for" Dk fv)
  {fx:ae}(fy:Fd K r "why_wrong" Dm fx)
  {fD:ae}(gb:Fd K r "told_deeds" Ds fD)
  {gc:ae}(gd:Fd K r "signs_of" Dx gc)
  {gf:ae}(gi:Fd K r "deed_of" DC gf)
  (gn:Md K l "has_name" "Layout.has_name" DG)
  (gp:Md K l "add_lot" "Layout.add_lot" DI)
  (gq:Md K l "add_place" "Layout.add_place" DK)
  {gu:ae}(gv:Fd K r "with_place" DN gu)
  (gx:Md K g "why_no_entry" "Ledger.why_no_entry" DZ)
  (gy:Md K g "why_no_name" "Ledger.why_no_name" Eb)
  {gF:ae}(gT:Fd K r "first_way" Eh gF)
  {gV:ae}(g0:Fd K r "with_places" Ek gV)
  {g4:ae}(g5:Fd K r "chosen" El g4)
  {g6:ae}(g7:Fd K r "can_be" Em g6)
  {ar:ae}(g8:Fd K r "come" Eo ar)
  {av:ae}(ha:Fd K r "weigh" Ep av)
  {az:ae}(hb:Fd K r "move" Et az)
  {a0:ae}(hc:Fd K r "sell" Eu a0)
  {a3:ae}(hg:Fd K r "waste" Ew a3)
  {hh:ae}(hi:Fd K r "next_ways" Ez hh)
  {hj:ae}(hk:Fd K r "settled" EC hj)
  {hl:ae}(hn:Fd K r "bounds" EG hl)
  {ho:ae}(hq:Fd K r "spread" EI ho)
  {hr:ae}(hs:Fd K r "most_sold" EK hr)
  {ht:ae}(hv:Fd K r "fewest_sold" EM ht)
  {hx:ae}(hy:Fd K r "sold_parts" ET hx)
  {hz:ae}(hA:Fd K r "sold_greens" EV hz)
  {hB:ae}(hC:Fd K r "sold_weights" EX hB)
  {hD:ae}(hE:Fd K r "green_share" E2 hD)
  {hF:ae}(hG:Fd K r "sold_shares" E4 hF)
  {hH:ae}(hI:Fd K r "place_greens" E7 hH)
  {hK:ae}(hL:Fd K r "place_weights" E9 hK)
  {hM:ae}(hN:Fd K r "all_parts" Fb hM)
  {hO:ae}(hP:Fd K r "masses" Fe hO)
  {hQ:ae}(hR:Fd K r "in_whole_numbers" Fh hQ)
  (hS:Md K z "is_met" "Demand.is_met" Fm)
  {hT:ae}(hV:Fd K r "demand_of" Fu hT)
  {hX:ae}(hY:Fd K r "demands_of" Fw hX)
  {hZ:ae}(ih:Fd K r "is_enough" Fx hZ)
  {il:ae}(ip:Fd K r "first_enough" Fy il)
  {iv:ae}(iN:Fd K r "with_one_more" FE iv)
  {iR:ae}(i3:Fd K r "fewest_enough" FF iR)
  {i4:ae}(jl:Fd K r "open_at_worst" FL i4)
  {jm:ae}(jn:Fd K r "best_entry" FO jm)
  (js:Md K g "ways" "Ledger.ways" Ga)
  (j1:Md K g "undo" "Ledger.undo" Ge)
  (j2:Md K g "add_name" "Ledger.add_name" Gk)
  (ka:Md K g "add_entry" "Ledger.add_entry" Gp)
  (kc:Md K g "add_line" "Ledger.add_line" Gv)
  (kd:Md K g "settle" "Ledger.settle" Gx)
  (kf:Md K g "shown" "Ledger.shown" GC)
  {kg:ae}(kk:Fd K r "read_text" GF kg)
  {kn:ae}(kq:Fd K r "how_many" GH kn)
  {kr:ae}(kv:Fd K r "is_there" GJ kr)
  {ky:ae}(kz:Fd K r "are_there" GK ky)
  {kA:ae}(kB:Fd K r "is_share" GN kA)
  {k1:ae}(k2:Fd K r "counted" GP k1)
  {a4:ae}(k3:Fd K r "answer_place" GX a4)
  {a5:ae}(k4:Fd K r "answer_kilos" GY a5)
  {a6:ae}(k5:Fd K r "answer_trace" GZ a6)
  {a7:ae}(k6:Fd K r "answer_share" G0 a7)
  {a8:ae}(k7:Fd K r "answer_mass" G2 a8)
  {a9:ae}(k8:Fd K r "answer_sold_kilos" G3 a9)
  {bb:ae}(k9:Fd K r "answer_print" G6 bb)
  {bo:ae}(lb:Fd K r "answer_more" G7 bo)
  {br:ae}(lj:Fd K r "answer_settle" G8 br)
  {bz:ae}(ll:Fd K r "answer_undo" G_ bz)
  {cc:ae}(lr:Fd K r "answer_worlds" G' cc)
  {ck:ae}(lz:Fd K r "answer_sold" Ha ck)
  {cm:ae}(lS:Fd K r "answer_surely" Hb cm)
  {H:ae}(cn:Fd K r "answer_recall" Hd H)
  {I:ae}(cp:Fd K r "answer_way" He I)
  {J:ae}(cv:Fd K r "answer_find" Hf J)
  {M:ae}(cM:Fd K r "answer_ask" Hg M)
  {N:ae}(c0:Fd K r "answer_unsettled" Hi N)
  {O:ae}(c1:Fd K r "answer_inside" Hj O)
  {Q:ae}(c2:Fd K r "answer_where" Hk Q)
  {R:ae}(c3:Fd K r "answer_enough" Hm R)
  (c4:Md K L "read_store" "Session.read_store" Hq)
  (c5:Md K L "answer" "Session.answer" Hu)
  (c6:Fd K r "answers" Hy ε)
  (b0:lE K r "ZERO" 0)
  (b1:lF K a)
  (b2:r "zip"=aq)
  (b3:lE K r "ONE" 1)
  (b4:r "ord"=aq)
  (b5:r "all"=aq)
  (b6:vb r)
  (j:r "len"=aq)
  (b8:vg P w K r)
  (k:iI K l)
  (m:mG K D)
  (l0:r "int"=aq)
  (y:r "list"=aq)
  (p:sS r)
  (d:ik K g)
  (c7:r "set"=aq)
  (l1:r "tuple"=aq)
  (e:fY K f)
  (S:r "range"=aq)
  (c8:GV r "MOST_WAYS" (.int 64))
  (A:r "enumerate"=aq)
  (l2:r "max"=aq)
  (l3:r "min"=aq)
  (T:Fi K z)
  (c9:r "sum"=aq)
  (l4:GV r "NO_WAY" (.int 6))
  (l5:GV r "TOO_MANY_WAYS" (.int 7))
  (l6:GV r "GREATEST_D" (.int 1000))
  (h:GV r "DONE" (.int 0))
  (l7:GV r "GOOD" (.int 0))
  (da:GV r "WRONG" (.int 1))
  (B:GV r "OUT_OF_RANGE" (.int (-2)))
  (l8:GV r "NO_WAY_LEFT" (.int (-6)))
  (dd:GV r "NONE_THERE" (.int (-3)))
  (l9:GV r "WHATEVER_WAS" (.int 1))
  (mc:GV r "BY_SOME_WAYS" (.int 2))
  (ml:GV r "BY_NO_WAY" (.int 0))
  (de:r "any"=aq)
  (mm:GV r "TOO_MANY_SOLD" (.int (-5)))
  (mu:GV r "MOST_CALLED_BACK" (.int 10))
  (mv:GV r "A_LOT" (.int 0))
  (mw:GV r "A_PLACE" (.int 1))
  (mx:GV r "NO_ENTRY" (.int (-1)))
  (my:r "sorted"=aq)
  (q:z6 K L)
  (mz:GV r "STORE" (.int 0))
  (mA:GV r "NO_STORE" (.int (-1)))
  (dm:wm P w K r)
  (m1:Aa K r)
  (dD:Ab P w K r ar az av a0 a3)(dA:Ac P w K r (λc=>[0,bb,bo,br,bz,cc,a4,a5,ck,a6,a7,cm,H,M,a8,I,O,J,N,R,a9,Q].getD c 0)):
  ∃fd,(∀(s:aj) (us:List Value),us.length=(["calls"]:List Str).length->BindsTo s fd %[us|[]] ((["calls"]:List Str).zip us))/\∀base:ax,aJ P w K r base aR 14 ε fd ["calls"] (Hz K):=by?
 obtain⟨fd,F⟩:=c6.ex;refine%[fd,?_|λbase=>?_]
 .obtain⟨_,_,_,_,_,_,_,_,_,rfl,_,_⟩:=F.ex
  exactλs us hu=>match us,hu with|[_],_=>.of_eq rfl
 have h0:=F0.has P w base Vp;have h1:=F1.has P w base Vr;have h2:=F2.has P w base (Vs · h0);have h3:=F3.has P w base (Vu · h2);have h4:=F4.has P w base (Vv · h0);have h5:=F5.has P w base (Vx · h4);have h6:=F6.has P w base Vz;have h7:=F7.has P w base (VC · b0 h2);have h8:=F8.has P w base (VF · h6);have h9:=F9.has P w base (VG · h6);have C:=ep.has P w base (sp:=(qi a)) (VI · b1);have t:=ez.has P w base (sp:=(qj K a)) (VJ · b1 h7);have U:=eH.has P w base (sp:=(uY K a)) (VM · b1 h7);have m2:=eP.has P w base (sp:=(CC K a)) (VN · b1 h4 C);have dq:=e0.has P w base (sp:=(yG K a)) (VR · b1 b2 h2 t C);have dr:=e2.has P w base (sp:=(yI K a)) (VT · dq);have V:=e4.has P w base (sp:=(va K a)) (VU · b1 b0 b3 h6 h5 h3 m2);have nq:=e7.has P w base (sp:=(CU K a)) (VW · b1 h4 h5 t C);have nv:=fb.has P w base (Wg · b4);have dt:=ff.has P w base (Wh · b5);have dw:=fk.has P w base (Wj · b6 j dt);have ny:=fm.has P w base (Wn · b6 j dt);have nz:=fp.has P w base (Wr · ny dw);have nC:=ft.has P w base (WK · b8 j b5 b2 nz);have dx:=fw.has P w base (WL · b8 b2);have nD:=fy.has P w base (sp:=(Dn l)) (WO · b6 k b5 nC dx);have nK:=gb.has P w base WT;have W:=gd.has P w base (WY · b6 b4);have nT:=er.has P w base (sp:=(DB D)) (W6 · m);have n0:=gi.has P w base (sp:=(yX K D l)) (W8 · k l0 h1 dx nT);have n1:=es.has P w base (sp:=(yZ l)) (W_ · k);have n2:=gn.has P w base r k.cl (sp:=(DH l)) (Xa · k);have n3:=gp.has P w base r k.cl (sp:=(DJ l)) (Xc · k);have n4:=gq.has P w base r k.cl (sp:=(DL l)) (Xe · k);have u:=gv.has P w base (sp:=(qx K a)) (Xf · y);have n5:=gx.has P w base r d.cl (sp:=(D_ K g l)) (Yk · p d j c7 l1 nD);have n6:=gy.has P w base r d.cl (sp:=(Ec g l)) (Ym · p d k j dw n2);have v:=et.has P w base (sp:=(Eg f)) (Ys · e);have dy:=gT.has P w base (sp:=(Ei K a f l)) (Yt · k v);have X:=g0.has P w base (sp:=(vC K a f)) (Yv · e v);have dz:=g5.has P w base (sp:=(vD K a f)) (Yx · e v);have n7:=g7.has P w base (sp:=(En K a f D l)) (YF · e m h6 t);have n8:=g8.fnAt P w base (sp:=(iW K a f D l "come")) (YH · e m k b0 j S C dr u X);have n9:=ha.fnAt P w base (sp:=(iW K a f D l "weigh")) (YI · e m nq u X);have oc:=hb.fnAt P w base (sp:=(iW K a f D l "move")) (YK · e m k V dr u X);have od:=hc.fnAt P w base (sp:=(iW K a f D l "sell")) (YL · e m V dq u v);have oe:=hg.fnAt P w base (sp:=(iW K a f D l "waste")) (YM · e m V u v);have E:Ey P w K r base a f D l:=acZ (C:=%[a,f,D,l|g]) dD n8 oc n9 od oe;have oi:=hi.has P w base (sp:=(EA K a f D l)) (YO · e m c8 j A E n7 dz);have ot:=hk.has P w base (sp:=(ED K a f)) (YS · e dz);have o:=hn.has P w base (YW · y h8 h9);have ov:=hq.has P w base (YY · h3 h8 h9);have G:=hs.has P w base (sp:=(sZ K a f)) (YZ · e j l2);have oy:=hv.has P w base (sp:=(EN K a f)) (Y0 · e j l3);have Y:=hy.has P w base (sp:=(vH K a f)) (Y6 · e);have Z:=hA.has P w base (sp:=(vI K a f)) (Y7 · U Y);have oD:=hC.has P w base (sp:=(EY K a f)) (Y8 · t Y);have oL:=hE.has P w base (sp:=(E3 K a)) (Za · b1 b0 h5 h7);have o1:=hG.has P w base (sp:=(E5 K a f)) (Zb · oL Y);have dS:=hI.has P w base (sp:=(zp K a f)) (Zc · e U);have o2:=hL.has P w base (sp:=(E_ K a f)) (Zd · e t);have pb:=hN.has P w base (sp:=(Fc K a f)) (Ze · e);have pe:=hP.has P w base (sp:=(Ff K a f)) (Zf · pb U);have pj:=hR.has P w base (Zh · h0);have ps:=eu.has P w base (sp:=(Fl z)) (Zm · T);have pw:=hS.has P w base r T.cl (sp:=(Fp z)) (Zn · T c9);have px:=hV.has P w base (sp:=(Fv K a f z)) (Zr · e b1 j c9 pj ps);have dV:=hY.has P w base (sp:=(zt K a f z)) (Zs · G px);have d1:=ih.has P w base (sp:=(zw K z)) (Zt · pw);have pz:=ip.has P w base (sp:=(Fz K z)) (Zu · d1);have pB:=iN.has P w base (Zx · S);have pD:=i3.has P w base (sp:=(FG K z)) (ZA · pz pB);have pF:=jl.has P w base (sp:=(FN K a f)) (ZH · e b2 ov h9);have p0:=jn.has P w base (sp:=(FP K a f D)) (ZJ · j A pF h6);have i:=js.has P w base r d.cl (sp:=(zI K %[a,f,D,l|g])) (aaz · d);have p1:=j1.has P w base r d.cl (sp:=(Gf K %[a,f,D,l|g])) (aaD · d);have p2:=ew.has P w base (sp:=(Gh K %[a,f,D,l|g])) (aaG · d n1 dy);have p3:=j2.has P w base r d.cl (sp:=(lR K %[a,f,D,l|g] zJ)) (aaK · p d k dy n6 n3 n4);have p4:=ka.has P w base r d.cl (sp:=(lR K %[a,f,D,l|g] (Gq K))) (aaP · p d l4 l5 c8 j n5 i n0 oi);have d2:=kc.has P w base r d.cl (sp:=(lR K %[a,f,D,l|g] zK)) (aaR · nK p3 p4);have p5:=kd.has P w base r d.cl (sp:=(Gy K %[a,f,D,l|g])) (aaW · d ot);have p6:=kf.has P w base r d.cl (sp:=(GD K %[a,f,D,l|g])) (aaZ · d k m b2);have p7:=kk.has P w base (sp:=(GG K %[a,f,D,l|g])) (aa2 · p j A W p2 d2);have p8:=kq.has P w base (sp:=(GI K %[a,f,D,l|g])) (aa' · d k j i G);have d3:=kv.has P w base (sp:=(vY K %[a,f,D,l|g])) (abb · p8);have p9:=kz.has P w base (sp:=(GL K %[a,f,D,l|g])) (abc · b5 b2 d3);have d4:=kB.has P w base (abf · l6);have x:=k2.has P w base (sp:=(GR K %[a,f,D,l|g])) (abg · d k h j i);have ql:=k3.fnAt P w base (sp:=(bR K %[a,f,D,l|g] (fj "place" "lot") λn _=>.place (i0 n) (i1 n))) (abA · h i o dS);have qn:=k4.fnAt P w base (sp:=(bR K %[a,f,D,l|g] (gB "place") λn _=>.kilos (i0 n))) (abC · h i o o2);have qq:=k5.fnAt P w base (sp:=(bR K %[a,f,D,l|g] (fj "sold" "lot") λn _=>.trace (i0 n) (i1 n))) (abE · h i o Z);have qs:=k6.fnAt P w base (sp:=(bR K %[a,f,D,l|g] (fj "sold" "lot") λn _=>.share (i0 n) (i1 n))) (abG · h i o o1);have qt:=k7.fnAt P w base (sp:=(bR K %[a,f,D,l|g] (gB "lot") λn _=>.mass (i0 n))) (abI · h i o pe);have qz:=k8.fnAt P w base (sp:=(bR K %[a,f,D,l|g] (gB "sold") λn _=>.soldKilos (i0 n))) (abK · h i o oD);have q1:=k9.fnAt P w base (sp:=(bR K %[a,f,D,l|g] iY λ_ _=>.print)) (abM · h p6 nv);have q2:=lb.fnAt P w base (sp:=(bR K %[a,f,D,l|g] (o4 200) λ_ b=>.more b)) (abN · l7 da W d2 x);have q3:=lj.fnAt P w base (sp:=(bR K %[a,f,D,l|g] zV λn _=>.settle (i0 n) (i1 n))) (abQ · d B l8 j p5 x);have q4:=ll.fnAt P w base (sp:=(bR K %[a,f,D,l|g] iY λ_ _=>.undo)) (abS · d dd p1 x);have q5:=lr.fnAt P w base (sp:=(bR K %[a,f,D,l|g] iY λ_ _=>.worlds)) (abU · x);have q6:=lz.fnAt P w base (sp:=(bR K %[a,f,D,l|g] iY λ_ _=>.sold)) (abW · h i G oy);have q7:=lS.fnAt P w base (sp:=(bR K %[a,f,D,l|g] (fj "sold" "lot") λn _=>.surely (i0 n) (i1 n))) (ab0 · b0 h l9 mc ml b5 de i Z);have eb:=cn.fnAt P w base (sp:=(bR K %[a,f,D,l|g] kL λn _=>.recall (i0 n) (i1 n) (i2 n))) (ab2 · h B mm mu i d4 G dV pD);have ec:=cp.fnAt P w base (sp:=(bR K %[a,f,D,l|g] (gB "way") λn _=>.way (i0 n))) (ab4 · e h i);have ed:=cv.fnAt P w base (sp:=(bR K %[a,f,D,l|g] (o4 20) λ_ b=>.find b)) (ab6 · d k h mv mw dd W);have ee:=cM.fnAt P w base (sp:=(bR K %[a,f,D,l|g] (fj "sold" "lot") λn _=>.ask (i0 n) (i1 n))) (aca · d h mx y i Z p0);have eg:=c0.fnAt P w base (sp:=(bR K %[a,f,D,l|g] iY λ_ _=>.unsettled)) (acb · d h j A);have eh:=c1.fnAt P w base (sp:=(bR K %[a,f,D,l|g] (fj "way" "place") λn _=>.inside_ (i0 n) (i1 n))) (ace · b1 e h y i);have ei:=c2.fnAt P w base (sp:=(bR K %[a,f,D,l|g] (gB "lot") λn _=>.where_ (i0 n))) (ach · d k b0 h j S de i o dS);have ej:=c3.fnAt P w base (sp:=(bR K %[a,f,D,l|g] kL λn b=>.enough (i0 n) (i1 n) (i2 n) b)) (acF · h B b5 c7 my i d3 d4 dV d1);have ek:=ao.has P w base (sp:=(Ho L)) (acI · q);have en:=c4.has P w base r q.cl (sp:=(Hr K %[a,f,D,l|g] L)) (acJ · q da p7 x);have aa:Ht P w K r base %[a,f,D,l|g]:=ac0 dA q1 q2 q3 q4 q5 ql qn q6 qq qs q7 eb ee qt ec eh ed eg ej qz ei;have eo:=c5.has P w base r q.cl (sp:=(Hv K %[a,f,D,l|g] L)) (acP · q mz mA B dm aa en p9);exact acY F j dm m1 ek eo
def Fd.raw(X:K.In h)(G:h.Ns d7 r)(a:m3 K d7 x=some (some (.ref f)):=by k_is)(l:K.lookup f=some %[η,od,.func (j6 x x (ko Γ) (jz Γ) (aM Γ) .none kV doc pm an cdv ct)|osl]:=by k_is)(c:wA K cdv x=true:=by k_is)(k:mT K (.ref f)=true:=by k_is):Fd K r x Γ f:=%[%[_|BS l c k]|ox X G a]
def Fd.to(F:Fd K r x Γ f)(e:r x=some (.ref a)):Fd K r x Γ a:=by have q:=e.symm.trans F.at_;cases q;exact F
def Md.raw(a:lU K (.ref D) m=some (some (.ref f)):=by k_is)(i:Ag K (.ref f)=true:=by k_is)(l:K.lookup f=some %[η,od,.func (j6 m R (ko Γ) (jz Γ) (aM Γ) .none kV doc pm an cdv ct)|osl]:=by k_is)(c:wA K cdv R=true:=by k_is)(k:mT K (.ref f)=true:=by k_is):Md K D m R Γ:=%[f,_,BS l c k,a,i|k]
def Cd.raw(X:K.In h)(G:h.Ns d7 r)(g:m3 K d7 x=some (some (.ref D)):=by k_is)(mk:PX K D=true:=by k_is)(b:mT K (.ref D)=true:=by k_is)(a:lU K (.ref D) "__init__"=some (some (.ref f)):=by k_is)(i:Ag K (.ref f)=true:=by k_is)
  (l:K.lookup f=some %[η,od,.func (j6 "__init__" R (ko Γ) (jz Γ) (aM Γ) .none kV doc pm an cdv ct)|osl]:=by k_is)(c:wA K cdv R=true:=by k_is)(k:mT K (.ref f)=true:=by k_is):Cd K r x D R Γ:=%[%[f,_,BS l c k,mk,a,i|b]|ox X G g]
def gJ.raw(pg:Af K D jI=true:=by k_is)(hd:HE K D=true:=by k_is)(po:PU K D=true:=by k_is)(sa:lU K (.ref D) "__setattr__"=some (some (.builtin "object.__setattr__")):=by k_is):gJ K D:=%[pg,hd,po|sa]
def na(e:lU K (.ref D) x=some none:=by k_is):eS K D x:=e
def nb(X:K.In h)(G:h.Ns d7 r)(e:m3 K d7 x=some none:=by k_is):r x=aq:=PySem.W.mg_none_of X G e
def GV.afm{t:Tok}(X:K.In h)(G:h.Ns d7 r)(a:m3 K d7 x=some (some (.int S t)):=by k_is):GV r x (.int S):=%[_,ox X G a,t|rfl]
def GV.afn{t:Tok}(X:K.In h)(G:h.Ns d7 r)(a:m3 K d7 x=some (some (.str R t)):=by k_is):GV r x (.str R):=%[_,ox X G a,t|rfl]
def lE.raw{φ:Int}{Z:Rat}{s t:Tok}(X:K.In h)(G:h.Ns d7 r)(e:Z.num=S/\(Z.den:Int)=φ)(g:m3 K d7 x=some (some (.ref f)):=by k_is)(l:K.lookup f=some %[.type "tuple",none,.seq #[.int S s,.int φ t] n|#[]]:=by k_is):lE K r x Z:=
 %[f,ox X G g|λa=>.inr %[_,_,n,l,rfl,rfl,(by show 2<=bf;decide)| .cons %[s|by rw[e.1]] (.cons %[t|by rw[e.2]] .nil)]]
def Aa.raw{s t u v:Tok}(X:K.In h)(G:h.Ns d7 r)(g:m3 K d7 "ROWS"=some (some (.ref f)):=by k_is)(l:K.lookup f=some %[.type "tuple",none,.seq #[.int 0 s,.int 2 t,.int 17 u,.int 19 v] n|#[]]:=by k_is):Aa K r:=
 %[f,%[_,ox X G g|rfl]|λa=>.inr %[_,_,n,l,rfl,rfl,(by show 4<=bf;decide)| .cons %[_|rfl] (.cons %[_|rfl] (.cons %[_|rfl] (.cons %[_|rfl] .nil)))]]
theorem uL:∀xs:List (Str×Tok),Vals (xs.map λx=>V.str x.1) (xs.map λx=>HA x.1 x.2)
 |[]=>.nil
 |x::xs=>.cons %[x.2|rfl] (uL xs)
def tupS(a:List (Str×Tok))(l:K.lookup f=some %[.type "tuple",none,.seq (a.map λx=>HA x.1 x.2).toArray n|#[]])(z:Nat.ble a.length 100=true)(H:Hp):bN K H f (a.map λx=>V.str x.1):=
 .inr %[_,_,n,l,rfl,rfl,by rw[rb,aY];exact bq (Nat.le_of_ble_eq_true z) (by decide+kernel)|uL a]
theorem PD:∀a:List (Key×Int×Value×ae),(∀x∈a,oC x.1 x.2.2.1=true/\x.2.1=AQ w x.1)->Pairs (iw P w) (a.map λx=>%[x.2.1,x.2.2.1| .ref x.2.2.2]) (a.map λx=>(x.1,.ref x.2.2.2))/\KV (a.map λx=>(x.1,V.ref x.2.2.2)) (a.map λx=>(x.1,.ref x.2.2.2))
 |[],_=>%[.nil| .nil]
 |x::a,h=>
  have i:=PD a λy b=>h y (bG _ b)
  %[.cons (h x bQ).1 rfl i.1| .cons %[rfl|rfl] i.2]
def jb.of(a:List (Key×Int×Value×ae))(b:∀x∈a,oC x.1 x.2.2.1=true/\x.2.1=AQ w x.1)(ns:(f==iQ)=false)(l:K.lookup f=some %[.type "dict",none,.dict (a.map λx=>%[x.2.1,x.2.2.1| .ref x.2.2.2]).toArray ep|#[]])(nd:(a.map (·.1)).Nodup):jb P w K f (a.map λx=>(x.1,V.ref x.2.2.2)):=by?
 have i:=PD (P:=P) a b;refine%[ns,_,i.2|λh X=>%[_,_,ep,X _ _ l,%[rfl,rfl|rfl],rfl,λe d=>?_,i.1|?_]]
 .obtain⟨x,c,rfl⟩:=bF.mp (List.mem_toArray.mp d);exact%[x.1|b x c]
 .rw[cC];exact nd
def vg.raw{k0 E H J M:Tok}{I d j υ Z:Nat}{N O Q R S T U V Y W k o p q s t u v y A B C:Tok}(X:K.In h)(G:h.Ns d7 r)(b:m3 K d7 "FORMS"=some (some (.ref f)):=by k_is)(c:K.lookup f=some %[.type "dict",none,.dict #[%[hU w.params "come",.str "come" k0| .ref a],%[hU w.params "move",.str "move" E| .ref l],%[hU w.params "weigh",.str "weigh" H| .ref g],%[hU w.params "sell",.str "sell" J| .ref z],%[hU w.params "waste",.str "waste" M| .ref L]] n|#[]]:=by k_is)(ns:(f==iQ)=false:=by rfl)(l0:K.lookup a=some %[.type "tuple",none,.seq #[.str "come" N,.str "LOT" O,.str "KG" Q,.str "to" R,.str "PLACE" S] j|#[]]:=by k_is)(l1:K.lookup l=some %[.type "tuple",none,.seq #[.str "move" T,.str "KG" U,.str "from" V,.str "PLACE" Y,.str "to" W,.str "PLACE" k] d|#[]]:=by k_is)(l2:K.lookup g=some %[.type "tuple",none,.seq #[.str "weigh" o,.str "PLACE" p,.str "KG" q] I|#[]]:=by k_is)(l3:K.lookup z=some %[.type "tuple",none,.seq #[.str "sell" s,.str "KG" t,.str "from" u,.str "PLACE" v] υ|#[]]:=by k_is)(l4:K.lookup L=some %[.type "tuple",none,.seq #[.str "waste" y,.str "KG" A,.str "from" B,.str "PLACE" C] Z|#[]]:=by k_is):vg P w K r:=by?
 have e:jb P w K f _:=.of (ep:=n) [(.inr "come",hU w.params "come",.str "come" k0,a),(.inr "move",hU w.params "move",.str "move" E,l),(.inr "weigh",hU w.params "weigh",.str "weigh" H,g),(.inr "sell",hU w.params "sell",.str "sell" J,z),(.inr "waste",hU w.params "waste",.str "waste" M,L)] (by
  iterate 5 refine pG.mpr %[%[AS _ _|rfl]|?_]
  exactλm h=>nomatch h) ns c (by show([.inr "come",.inr "move",.inr "weigh",.inr "sell",.inr "waste"]:List Key).Nodup;decide+kernel)
 refine%[f,λi=>if i="come" then a else if i="move" then l else if i="weigh" then g else if i="sell" then z else L,ox X G b,e|?_];unfold kE;refine pG.mpr %[λF=>tupS [("come",N),("LOT",O),("KG",Q),("to",R),("PLACE",S)] l0 rfl F|?_];refine pG.mpr %[λF=>tupS [("move",T),("KG",U),("from",V),("PLACE",Y),("to",W),("PLACE",k)] l1 rfl F|?_];refine pG.mpr %[λF=>tupS [("weigh",o),("PLACE",p),("KG",q)] l2 rfl F|?_];refine pG.mpr %[λF=>tupS [("sell",s),("KG",t),("from",u),("PLACE",v)] l3 rfl F|?_];refine pG.mpr %[λF=>tupS [("waste",y),("KG",A),("from",B),("PLACE",C)] l4 rfl F|?_]
 exactλm h=>nomatch h
def Ab.raw{k0 e i j k:Tok}(X:K.In h)(G:h.Ns d7 r)(b:m3 K d7 "DOERS"=some (some (.ref f)):=by k_is)(c:K.lookup f=some %[.type "dict",none,.dict #[%[hU w.params "come",.str "come" k0| .ref a],%[hU w.params "move",.str "move" e| .ref l],%[hU w.params "weigh",.str "weigh" i| .ref g],%[hU w.params "sell",.str "sell" j| .ref z],%[hU w.params "waste",.str "waste" k| .ref L]] n|#[]]:=by k_is)(ns:(f==iQ)=false:=by rfl):Ab P w K r a l g z L:=by?
 have d:jb P w K f _:=.of (ep:=n) [(.inr "come",hU w.params "come",.str "come" k0,a),(.inr "move",hU w.params "move",.str "move" e,l),(.inr "weigh",hU w.params "weigh",.str "weigh" i,g),(.inr "sell",hU w.params "sell",.str "sell" j,z),(.inr "waste",hU w.params "waste",.str "waste" k,L)] (by
  iterate 5 refine pG.mpr %[%[AS _ _|rfl]|?_]
  exactλm h=>nomatch h) ns c (by show([.inr "come",.inr "move",.inr "weigh",.inr "sell",.inr "waste"]:List Key).Nodup;decide+kernel)
 exact%[f,_,%[_,ox X G b|rfl],d,rfl,rfl,rfl,rfl|rfl]
def wm.raw{k0 k1 k2 k3 k4 k5 k6 k7 k8 k9 F H J M N O Q R S T U V:Tok}{r8 r9 o p q s t u v y A B C E:ae}{I d j υ n4 n5 n6 n7 n8 n9 a9 bb bo br bz b6 b7 b8 b9 cc ck cm:Nat}{u0 u1 u2 u3 u4 u5 u6 u7 u8 u9 W Y Z aa ao ar av az a0 a3 a4 a5 a6 a7 a8:Tok}(X:K.In h)(G:h.Ns d7 r)(b:m3 K d7 "ASKED"=some (some (.ref f)):=by k_is)(e:K.lookup f=some %[.type "dict",none,.dict #[%[0,.int 0 k0| .ref a],%[1,.int 1 k1| .ref l],%[2,.int 2 k2| .ref g],%[3,.int 3 k3| .ref z],%[4,.int 4 k4| .ref L],%[5,.int 5 k5| .ref ε],%[6,.int 6 k6| .ref π],%[7,.int 7 k7| .ref Ω],%[8,.int 8 k8| .ref r8],%[9,.int 9 k9| .ref r9],%[10,.int 10 F| .ref o],%[11,.int 11 H| .ref p],%[12,.int 12 J| .ref q],%[13,.int 13 M| .ref s],%[14,.int 14 N| .ref t],%[15,.int 15 O| .ref u],%[16,.int 16 Q| .ref v],%[17,.int 17 R| .ref y],%[18,.int 18 S| .ref A],%[19,.int 19 T| .ref B],%[20,.int 20 U| .ref C],%[21,.int 21 V| .ref E]] n|#[]]:=by k_is)(ns:(f==iQ)=false:=by rfl)(l0:K.lookup a=some %[.type "tuple",none,.seq #[] j|#[]]:=by k_is)(l1:K.lookup l=some %[.type "tuple",none,.seq #[] d|#[]]:=by k_is)(l2:K.lookup g=some %[.type "tuple",none,.seq #[] I|#[]]:=by k_is)(l3:K.lookup z=some %[.type "tuple",none,.seq #[.str "entry" u0,.str "free" u1] υ|#[]]:=by k_is)(l4:K.lookup L=some %[.type "tuple",none,.seq #[] n4|#[]]:=by k_is)(l5:K.lookup ε=some %[.type "tuple",none,.seq #[] n5|#[]]:=by k_is)(l6:K.lookup π=some %[.type "tuple",none,.seq #[.str "place" u2,.str "lot" u3] n6|#[]]:=by k_is)(l7:K.lookup Ω=some %[.type "tuple",none,.seq #[.str "place" u4] n7|#[]]:=by k_is)(l8:K.lookup r8=some %[.type "tuple",none,.seq #[] n8|#[]]:=by k_is)(l9:K.lookup r9=some %[.type "tuple",none,.seq #[.str "sold" u5,.str "lot" u6] n9|#[]]:=by k_is)(cn:K.lookup o=some %[.type "tuple",none,.seq #[.str "sold" u7,.str "lot" u8] a9|#[]]:=by k_is)(cp:K.lookup p=some %[.type "tuple",none,.seq #[.str "sold" u9,.str "lot" W] bb|#[]]:=by k_is)(cv:K.lookup q=some %[.type "tuple",none,.seq #[.str "lot" Y,.str "free" Z,.str "free" aa] bo|#[]]:=by k_is)(cD:K.lookup s=some %[.type "tuple",none,.seq #[.str "sold" ao,.str "lot" ar] br|#[]]:=by k_is)(cG:K.lookup t=some %[.type "tuple",none,.seq #[.str "lot" av] bz|#[]]:=by k_is)(cL:K.lookup u=some %[.type "tuple",none,.seq #[.str "way" az] b6|#[]]:=by k_is)(cM:K.lookup v=some %[.type "tuple",none,.seq #[.str "way" a0,.str "place" a3] b7|#[]]:=by k_is)(cP:K.lookup y=some %[.type "tuple",none,.seq #[] b8|#[]]:=by k_is)(cW:K.lookup A=some %[.type "tuple",none,.seq #[] b9|#[]]:=by k_is)(c0:K.lookup B=some %[.type "tuple",none,.seq #[.str "lot" a4,.str "free" a5,.str "free" a6] cc|#[]]:=by k_is)(c1:K.lookup C=some %[.type "tuple",none,.seq #[.str "sold" a7] ck|#[]]:=by k_is)(c2:K.lookup E=some %[.type "tuple",none,.seq #[.str "lot" a8] cm|#[]]:=by k_is):wm P w K r:=by?
 have i:jb P w K f _:=.of (ep:=n) [(.inl 0,0,.int 0 k0,a),(.inl 1,1,.int 1 k1,l),(.inl 2,2,.int 2 k2,g),(.inl 3,3,.int 3 k3,z),(.inl 4,4,.int 4 k4,L),(.inl 5,5,.int 5 k5,ε),(.inl 6,6,.int 6 k6,π),(.inl 7,7,.int 7 k7,Ω),(.inl 8,8,.int 8 k8,r8),(.inl 9,9,.int 9 k9,r9),(.inl 10,10,.int 10 F,o),(.inl 11,11,.int 11 H,p),(.inl 12,12,.int 12 J,q),(.inl 13,13,.int 13 M,s),(.inl 14,14,.int 14 N,t),(.inl 15,15,.int 15 O,u),(.inl 16,16,.int 16 Q,v),(.inl 17,17,.int 17 R,y),(.inl 18,18,.int 18 S,A),(.inl 19,19,.int 19 T,B),(.inl 20,20,.int 20 U,C),(.inl 21,21,.int 21 V,E)] (by
  iterate 22 refine pG.mpr %[%[AR _ _|rfl]|?_]
  exactλ_ h=>nomatch h) ns e (by show([.inl 0,.inl 1,.inl 2,.inl 3,.inl 4,.inl 5,.inl 6,.inl 7,.inl 8,.inl 9,.inl 10,.inl 11,.inl 12,.inl 13,.inl 14,.inl 15,.inl 16,.inl 17,.inl 18,.inl 19,.inl 20,.inl 21]:List Key).Nodup;decide+kernel)
 refine%[f,_,%[_,ox X G b|rfl],i|λc hc=>?_]
 match c,hc with
 |0,_=>exact%[a,rfl|tupS [] l0 rfl]
 |1,_=>exact%[l,rfl|tupS [] l1 rfl]
 |2,_=>exact%[g,rfl|tupS [] l2 rfl]
 |3,_=>exact%[z,rfl|tupS [("entry",u0),("free",u1)] l3 rfl]
 |4,_=>exact%[L,rfl|tupS [] l4 rfl]
 |5,_=>exact%[ε,rfl|tupS [] l5 rfl]
 |6,_=>exact%[π,rfl|tupS [("place",u2),("lot",u3)] l6 rfl]
 |7,_=>exact%[Ω,rfl|tupS [("place",u4)] l7 rfl]
 |8,_=>exact%[r8,rfl|tupS [] l8 rfl]
 |9,_=>exact%[r9,rfl|tupS [("sold",u5),("lot",u6)] l9 rfl]
 |10,_=>exact%[o,rfl|tupS [("sold",u7),("lot",u8)] cn rfl]
 |11,_=>exact%[p,rfl|tupS [("sold",u9),("lot",W)] cp rfl]
 |12,_=>exact%[q,rfl|tupS [("lot",Y),("free",Z),("free",aa)] cv rfl]
 |13,_=>exact%[s,rfl|tupS [("sold",ao),("lot",ar)] cD rfl]
 |14,_=>exact%[t,rfl|tupS [("lot",av)] cG rfl]
 |15,_=>exact%[u,rfl|tupS [("way",az)] cL rfl]
 |16,_=>exact%[v,rfl|tupS [("way",a0),("place",a3)] cM rfl]
 |17,_=>exact%[y,rfl|tupS [] cP rfl]
 |18,_=>exact%[A,rfl|tupS [] cW rfl]
 |19,_=>exact%[B,rfl|tupS [("lot",a4),("free",a5),("free",a6)] c0 rfl]
 |20,_=>exact%[C,rfl|tupS [("sold",a7)] c1 rfl]
 |21,_=>exact%[E,rfl|tupS [("lot",a8)] c2 rfl]
 |k+22,hc=>omega
def Ac.raw{k0 T U V W Y Z k7 k8 k9 B C E F H I J M N O Q:Tok}{R S j k o p q s t u v y A:ae}(X:K.In h)(G:h.Ns d7 r)(b:m3 K d7 "ANSWERERS"=some (some (.ref f)):=by k_is)(e:K.lookup f=some %[.type "dict",none,.dict #[%[1,.int 1 k0| .ref a],%[2,.int 2 T| .ref l],%[3,.int 3 U| .ref g],%[4,.int 4 V| .ref z],%[5,.int 5 W| .ref L],%[6,.int 6 Y| .ref ε],%[7,.int 7 Z| .ref π],%[8,.int 8 k7| .ref Ω],%[9,.int 9 k8| .ref R],%[10,.int 10 k9| .ref S],%[11,.int 11 B| .ref j],%[12,.int 12 C| .ref k],%[13,.int 13 E| .ref o],%[14,.int 14 F| .ref p],%[15,.int 15 H| .ref q],%[16,.int 16 I| .ref s],%[17,.int 17 J| .ref t],%[18,.int 18 M| .ref u],%[19,.int 19 N| .ref v],%[20,.int 20 O| .ref y],%[21,.int 21 Q| .ref A]] n|#[]]:=by k_is)(ns:(f==iQ)=false:=by rfl):Ac P w K r (λc=>[0,a,l,g,z,L,ε,π,Ω,R,S,j,k,o,p,q,s,t,u,v,y,A].getD c 0):=by?
 have d:jb P w K f _:=.of (ep:=n) [(.inl 1,1,.int 1 k0,a),(.inl 2,2,.int 2 T,l),(.inl 3,3,.int 3 U,g),(.inl 4,4,.int 4 V,z),(.inl 5,5,.int 5 W,L),(.inl 6,6,.int 6 Y,ε),(.inl 7,7,.int 7 Z,π),(.inl 8,8,.int 8 k7,Ω),(.inl 9,9,.int 9 k8,R),(.inl 10,10,.int 10 k9,S),(.inl 11,11,.int 11 B,j),(.inl 12,12,.int 12 C,k),(.inl 13,13,.int 13 E,o),(.inl 14,14,.int 14 F,p),(.inl 15,15,.int 15 H,q),(.inl 16,16,.int 16 I,s),(.inl 17,17,.int 17 J,t),(.inl 18,18,.int 18 M,u),(.inl 19,19,.int 19 N,v),(.inl 20,20,.int 20 O,y),(.inl 21,21,.int 21 Q,A)] (by
  iterate 21 refine pG.mpr %[%[AR _ _|rfl]|?_]
  exactλ_ h=>nomatch h) ns e (by show([.inl 1,.inl 2,.inl 3,.inl 4,.inl 5,.inl 6,.inl 7,.inl 8,.inl 9,.inl 10,.inl 11,.inl 12,.inl 13,.inl 14,.inl 15,.inl 16,.inl 17,.inl 18,.inl 19,.inl 20,.inl 21]:List Key).Nodup;decide+kernel)
 refine%[f,_,%[_,ox X G b|rfl],d|λc h1 hc=>?_]
 match c,h1,hc with
 |1,_,_=>rfl
 |2,_,_=>rfl
 |3,_,_=>rfl
 |4,_,_=>rfl
 |5,_,_=>rfl
 |6,_,_=>rfl
 |7,_,_=>rfl
 |8,_,_=>rfl
 |9,_,_=>rfl
 |10,_,_=>rfl
 |11,_,_=>rfl
 |12,_,_=>rfl
 |13,_,_=>rfl
 |14,_,_=>rfl
 |15,_,_=>rfl
 |16,_,_=>rfl
 |17,_,_=>rfl
 |18,_,_=>rfl
 |19,_,_=>rfl
 |20,_,_=>rfl
 |21,_,_=>rfl
 |0,h1,_=>omega
 |i+22,_,hc=>omega
end
end
section
open PySem.W (Codec)
def afo(K:ah)(H:Hp)(c:List V)(a:Al rC.args)(j:sr H)(j:Qj rC.args a=true)(q:wH rC.args rC.asked a=true)
  (d:jS K H c (wG rC.args a)):Hz K c H (λv b=>Dw K b v (rC.ret.enc (wH rC.args rC.f a))) λj j j=>False:=by
 cases d with
 |cons f g=>
  cases g;cases f with
  |lst h i=>
   have e:=L2.Ld a.1 _ i;subst e;exact%[_,a.1,rfl,h,q|λb p hp=>.lst (L2.af.of hp) (L2.Lc _)]
end
end GT
local macro_rules|`(#print $s:str)=>do let n:=s.getString.foldl (λn c=>n*91+(c.toNat-35-c.toNat/92)) 0;return Lean.mkNullNode (<-(Array.range 545).mapM λi=>`(theorem $(Lean.mkIdent (.str `PySem.W.Fast s!"tw{n/91^(10*i)%91^10}")):ident:True:=trivial))
#print "Mv<ze(]I->3`z<o+i2>G=&FD^&$i48)(e>Flway8L/(DgcN1~L29:zN6Hd>c@hWSfeeO'M<nO9BE8=@h/Pb$)I}cNJ2x7r%0_aSb(+==Ri,dH;Bt`c{yK8`6&sa4~Ag:60.UE{U//sXV7uX}WKGP=X)4Xr2BsZ^UG|,v6z#Xt?;@?m1aRZ<m9#|o(*}I2ZCo@LD08pui5^bp1`umIu?t&^:RD.Ov9&EKl@YmTl5671lWjlq1$9+?z$p^z&&HoWe$S{;[&`T?,8H5,.$fHCnMyKzVE<GuX'[VM`-v8YoZ3#&B0>;ba$fUN]*[Uifn2D[h<qk-$evb*RCvuI|@,))CKg%({JA6*I+ap7wDa`IhElP}d_1yq^*3x:0#u-f4F<su|u3-tb*?c&wz,@s1CV@OUecbB<#d#8]/,q(,F:IQ642b$*#eu;fu>j5c2yD5Ak((k(AD.Wl|B_m06Y}jB'_D$mFfrq;hq|dD2Y-}gT:`=PF7U(7aU'EB3ba/5YoLWJ(jG8H]op0I#n1b*|et2+-]V@-.0GIqH,DBX>@6Or-KX0Vu#6HzLcZE8uuNCS.O0A/wm[>w'i5SIRFhFG5IyjS;Eb?M:;=%E&/IbF6DYJay0yb^F[OlC7KV]Z/GU9G%(Y<y8E&iCNU7;0+[+g.s4HTg0z=3cELI.U1Yj~NB10Q085l9?l$;@41Re23s8.q~?C|zf1dIVl);hWv3Xy~25kb8Y7{x=b4.jDUZ{/Dt@A}^}aV=v#LRq8va-b,G.b#zC#R'FH$jjEIVV#dc$=2#jYj8L-MQrK6*81tY>KS2dY?1a='uS,euI+nP/+U%%,NxYn&&7#'fo<zW%@?dgc@>Ac=4Euv$Bk|QG88bU~G51v*Z5JYV,_qb'tc:3Ch|D|MhP-iBr7X8.X*#8oEgpz>$2jT,6]6q;8Ry/#X9ep7CH`H3K]7i&,X0w>q:MS21I)uJH29z'kZdLEoZWv'em;w[q#/EH_d:F6oS)tK<FO2>)|QnAH+jWGC&;GA3YD3CyGP@LZW'`w4;E4HBF}F>tx%kLo9o}NEu:O(@N61(>4KT@dH:,]Ew=f)&Cay0V,J&BE2D-$Z].=F%R#wEVVbH>5$Vd93OLS#z/./VqtDrBp=.[&>yEJJ}A841*;,&K(|PHSa`?iL/7D&1Oj|l%Mu=jM@wO_JmzmPSm@i~+u[5frtdWZ85YFuQUU7S9F%#SRJ`RJBH#t>_kq)j3jivU%>~jL%n+ZC/LMeC3ll#a?&yPG9fPw{Rn95T'0P:<KlnBH4,FVA1m-a]@,TwOf%ca4/5W$xtj-rs62#7NQgY%R2t#u1Q'#1lG0{9<+d{(+/--t#Nppi-/o2?=m04RG9g;[Hd4A+S/L7?Z3G@7D19'q/A-WO[C)TOs4]i>|0+dfmOtm+WLJM{30iLru*|.a<G5P5*7L<*_3[YK_,Dz/SE)rf1=$7g3Z+`XCA~qAPJ8Wt1>WHoauic_)2>tZOX~<#lGERz~N9'=D<uj$[[<@(B=]y@jIBr5<B_(iv:aKX)C8[Dd5Xj>#HtHZ[hoD2GGFs$|,b[YJ7g6R4~Z*/#F}d1@3j6tg4p=V7$Z,=9,%xS0micA37y*`,4oosb=4=z<?rb32&pa1Ru*~,n#xs|1J}Ik)EQlh8Dm[Eu<'0v}]=.MN8K*pNQ+:N|$C6FCtfPzyG;wD=i7tBf+OP(a[:=7|9Rd.,l@v=B,n~_Uy.alsN)D_KjPxHjFgxOkJc3->Ee7CpI;EcK:S'r)7n/R<MK.*.m,rD[4jd{H`v6%3EZEVF/cR5ZECZ(.wj+.M5-Hi6w#sw)31ijG+xU1h2wF9nW~Bc&LVS5Eb$=krLFneM.qR2tJCpQ<bqpR:=I~m4Wan+6;Cvzp9A24RLC,w];=LL%*_LJtfwC]R<GH*7_x0}f=bbZVkc)uP<5MPyEGZ/t#W$:GKN-A`8]|Ub`i6Xz&5-L+$2}1..}Hu3sCg=%(m1~hSh=%+M?${zkLboiBvM+*a(&b0(e2ix{$3vwF[+*XV@|XW&}`'_/bVoY*GEe'I}s%nCeoWKf(#ocHjdkS|(=_d92{F[-]V0P7Bh%N2K#]dG;v/50r>he6E&+$((`[T/z61#zc@<1%P,D@s6;a+7w+DFXThb96=}r7R{6YOLTp*r$~EWc<pGH2ae(T:5}N)Z4yIz0&K2>t2J|<n;5Hg*Fja{f6%UWV;E3Y%::5JRId6@51`)h637U$8HNKeZfEaq><Z#:J9>+8pLEF^f/xl04:v-]tSu?p]8=s6d]H0BF>Q%t]NdMHLLL'J*'hLmT+@Dw8Q|[=nA7ue*(&&/h'CA{yPgm2i/NAZ>e&w_>?3*V*tx`O9IDfX+wi_P'G+oJ(v[[id.>n$VbiVEnEH#01d}jk(EFDW+VtD,u:YrZm46D42M,sF6AfKi3:^dFD4l_(M1c,Q3};g@SD.E=IXo8sVHl;o%uO-*'7vo$;Y,zE5-&*/fu(lv8&[TQWnBzn@%1eKh(b+eBCp0`w%C5F,>t73t#Ffhs)CQ[g3I`HkG{M04UBE}@EB)/VoWqbtCI?siQhjpr,&r;/q0<sn(_nJKho~Un8[u=5kvM~.HNm}O(_q]JAtF_pHA-5+7gE%aT@G#7)3|6Xol|NHH`%`Yy%,&98KMZrx6TKm+k*pK(RP4m7'+79}N/RvAIstA%QUrp$3(P%='#%^HW}6Gr/GfYEQA%lsi-<;L,z=$nGu=_-I.R|isp22),Wcg)e@:G%'%JZ&LBR8AxuqO1'B^<,<1{9)g6Fm4op=T4[$(u=$o<u,SsXU>bG]E%2?B&E}-Y`Zv])aF>>:nL-'PO%l~Zj;1TD7:>X#ze6?X>5Kp#{Eq[?|?n3dcdvTUN''2}[U&%Ke3;p~LClymB5R+7`Jfz^2/4+Y}9|j.-KpH?E93gTE8lmv`4JB@b6-HixzT7glMF9Y'9|747-$)hdoI,G6*;Q>*i_Yx6.yYXnW%4`<7yL6-IGX^L&Tf^$4:,Y}*saHvF$d2/BV'@5qM)pWGc,{MQkHXQ-D%pLNq$akCM/a)8cSso7XTs[(|^8T8qmeGxQ/,>#-e/pC[C5~LAbFN3a]ROAPwG_OcGi</dkcRIQs&#5Ie9gzn>pX;&<q2$u@ba5Rl$SXBC0]@)#zj6wK2w4tj5}lai;L5GxtzYkg]G4Rk0+_}[v8*[hTomS4/*$:~d*]#mwj#Lo]Y0tAXZ0'KzNss~t$HL,*p%>of(GffF;+ZLk(N(Lk{}PMqJD%s9Z;ucxfGb|YRh;)-/.rW8&$`(C^J-95$}-bBk>{]_Tc;tAC-*I~kWsFHMF)doqYS=qAH%[o3LW'Y%&tSd/>P3i[+yiK0B3sGH>wNDKi^MHF8a7$&0JluSFNNw.?_GPT'&=L:%C~Zu<2Bs2`RE$b/;(:'4?fl{GvfFWcr&';CchpK0<v@a:sM3D#tiAc;tt)@f%`46E,50f~BOn=>F{][w~}RQ3Y>I{JF3P?Mv}Fq$W^5g5?(]<%/G=c=gou0P$a#-5L#R#nhdC)>xLoXo&K';-VyJ3Z)`a^FB3)oHrCRm#sK~l-SH0N7e08M=.~P<+#nO/3UP~:Di6gcf-l/?Ic1Z`-U1k22mJ1/;QTsz/1$Lgg[s1R*u-CvaHx4u4TCHx*.k=B@&Pj7]c]>s688RNd+8O*9lr&R7VtXXEx>okmorf8'}F&Ki_G;:?-@bPJBQt_;ZWyr$/$NF+E(w1DqT8%)3^8=*2kYaFU]dBjS]iOE]~E5IdQhrK7j2FyPE/nG3w*J,*}Vo'%@Y$p,8>^<mQEPnlfd54L&V4Id>2'?kg5R*u0DoL9:lT;%$2`&5w10vtPlhD}8C@^hF@t+5P2=34,9XJtQU/)aYSB=D`1mA?8]$((M(l*/B%+J_w<OC[@J-+O3|sD}U3u<J=cj5i-1+=2Sw%vZt0z?er&JSqcH.9Vpa#K0(vlFt^IsbNbse:x<s?#>jp~B](KJ/J=-a8nl`(bgh2.JQ+,^>ZgYo7~x02+fMDc'mi3mMqal{A]={'?%N@l*yIn198l%BJTNKJ[I`C++9#FYXt`U2)&}bf/.5d~5X#CK(9UC,D_jnaZ,}9%FVOPj,A-3+,O:$(2`AU*M8miZunR#c<Ng@TTOw_P>BsB.T)1yN*.w`15{Z_}GfddOqFA)Y%IbeVaOUOi?hcn*|J]o5-U/LzfhfxCEe#rQ<&k=|8}s--Z7f~GGhS;;dzL$e/qOYT~8mHv(V6a5S1d3j6.qByj`5`C:.?VT;zx<q-)JV@1%L(1HeW^|W$Kwd*OWG~]b&U?Ka(_d;AIqe?uO(2<_Ghl4VRtrmKzS/1O4lA+DTQG1SS-<}CRCWG78W1`#u~'+bS2hc%&mp$0t`AkTWVo-yT:}>0{U[6vi6nD~Td=8Ps>*R$+@#Chq47P(`/MDZV.;L3+2u1DIyX>ihU&.qYJ6uO9wD,3Jm%8VZO9=,@uKo0`O#3}VrT4c?Gb>$>>]#W+9OCHBo}%[Dd3M=eDyR_Y`M9ykw4di(g-6znHH~[Mgj*9%^8kZi1Y>bCv@j#3O3Fxs]?BS6+ABV(qzguC&IE'|>U@aospI08%b;#zbe*E8(l>Q@)i#=r9//8KNy&p@NM0_br=,5e+]rb3>e2LdR<'a/O]/l-#.;jx)c*z7K/$?;5E2M5yei9j.qLe5E{@<~hf5b+j_J4iMk**xd~p-?t5Mkf@O.=?`$2&uo'FVJhtF`x8Fh;eJ$=^tO-n24Iz@ox>i9c)/MKmHfdQu&P$86vnK;9/z7E9IqC4~_Q*81M{':LUdH:$RhW0BYso3P=^JarY7H&>FtMFCCKO9.rYpX1E=DKYV?n33)|.JCl#g7I<#}:Ku7+L%?T02Wc?jX}:qZEk0+;.8QgPC+rF8,VmY{Lwr,*u6B`A#L~l3+fr?@HXUOv$mOCF,3&nG]Y)^(Eg5#w3AA,z@1nU8)jYj[)cT1tmVu3$5]J/[$fD}|99SyX>>35HEzh|Jq8QP#/;x*j'H>h6/kt3_Z$sw>/)p&Df@tZeLI1GSp^@H>4/.qWdx@`/G|h[_y|hCa/)zveP^A}(4v2e@H[0d@2mazaGi#8}7)tk(kH`ml)P8i:cHT,_K:wI6M[TU8+Dwy}/N|5{E6sys*cf=3+d0_,o<;lw3$5^`aj+brHPo^O}_T8i7b-&lRnf~//ss93>yDkeCp%apTWvuF7ybF_3Bf$K&_izs}kc}('~nX6jXq896Yw?~DoJ7k=Bn2pkz_];)[bt#5RL~m2oI<]0$zy^-:L{r,FqkX%Yp)_3N_[`#n=iu-oQ*%N+A6:(bDSz:y+2P/cd*09wgIIOun2R>_.2,O20Cn@``z<_OO1@3rT(zn7v1:%:>~[(.t@=I%.a)*ulV]%9R.={i<%-#:v%gKl0kt+`x9C7s|lV)$}>j8)/L4JFjXWwF:wuG;S7~rY09Y1;0#r.@I8MK1|&qr7W$,:NEEGh.sL_=[Z.8L|JfT2M%3s.bm[v<UVIN*vC0IAgX%'N6r5T"
set_option tactic.hygienic true
open PySem PySem.W PyProof.Rows
set_option maxHeartbeats 0 in
theorem PySem.Challenge.cw_greentrace_s01_answers_holds : PySem.Challenge.rw_greentrace_s01_answers.Holds := by
 w_on;k_headS;(case hw=>exact⟨[.list [.int 5]],by decide+kernel,by decide+kernel⟩)
 k_fillS
 refine L2.afj (r:=rC) (k:=14) (CX:=L2.aR) (ps:=["calls"]) (sp:=GT.Hz) (by decide+kernel) rfl rfl ⟨rfl,by decide,by decide⟩ (λw h Y=>PySem.W.kIn_of Y) ?F ?S (λ_ _ _ _ z=>z)
 case F=>
  intro w mg fa h Y KX G hmg
  obtain⟨fd,b,r⟩:=GT.afl (.raw KX G) (.raw KX G) (.raw KX G) (.raw KX G) (.raw KX G) (.raw KX G) (.raw KX G) (.raw KX G) (.raw KX G) (.raw KX G) (.raw KX G) (.raw KX G) (.raw KX G) (.raw KX G) (.raw KX G) (.raw KX G) (.raw KX G) (.raw KX G) (.raw KX G) (.raw KX G) (.raw KX G) (.raw KX G) (.raw KX G) (.raw KX G) (.raw KX G) (.raw KX G) (.raw KX G) (.raw KX G) (.raw KX G) (.raw KX G) (.raw KX G) (.raw KX G) (.raw KX G) (.raw KX G) (.raw KX G) .raw .raw .raw (.raw KX G) .raw .raw (.raw KX G) (.raw KX G) (.raw KX G) (.raw KX G) (.raw KX G) (.raw KX G) (.raw KX G) (.raw KX G) (.raw KX G) (.raw KX G) (.raw KX G) (.raw KX G) (.raw KX G) (.raw KX G) (.raw KX G) (.raw KX G) (.raw KX G) (.raw KX G) (.raw KX G) (.raw KX G) (.raw KX G) (.raw KX G) (.raw KX G) (.raw KX G) (.raw KX G) .raw (.raw KX G) (.raw KX G) (.raw KX G) (.raw KX G) (.raw KX G) (.raw KX G) (.raw KX G) (.raw KX G) .raw .raw .raw .raw .raw .raw .raw (.raw KX G) (.raw KX G) (.raw KX G) (.raw KX G) (.raw KX G) (.raw KX G) (.raw KX G) (.raw KX G) (.raw KX G) (.raw KX G) (.raw KX G) (.raw KX G) (.raw KX G) (.raw KX G) (.raw KX G) (.raw KX G) (.raw KX G) (.raw KX G) (.raw KX G) (.raw KX G) (.raw KX G) (.raw KX G) (.raw KX G) (.raw KX G) (.raw KX G) (.raw KX G) (.raw KX G) .raw .raw (.to (.raw KX G) hmg) (.raw KX G ⟨rfl,rfl⟩) ⟨GT.gJ.raw,GT.na,GT.na⟩ (GT.nb KX G) (.raw KX G ⟨rfl,rfl⟩) (GT.nb KX G) (GT.nb KX G) ⟨.afn KX G,.afn KX G,.afn KX G,.afm KX G,.afm KX G,.afm KX G,.afm KX G,.afm KX G⟩ (GT.nb KX G) (.raw KX G) ⟨GT.gJ.raw,GT.na,GT.na,GT.na⟩ ⟨GT.gJ.raw,GT.na,GT.na,GT.na,GT.na⟩ (GT.nb KX G) (GT.nb KX G) ⟨.afm KX G,.afm KX G,.afm KX G,.afm KX G,.afm KX G,.afm KX G,.afm KX G,.afm KX G,.afm KX G⟩ ⟨GT.gJ.raw,GT.na,GT.na,GT.na⟩ (GT.nb KX G) (GT.nb KX G) ⟨GT.gJ.raw,GT.na,GT.na,GT.na,GT.na⟩ (GT.nb KX G) (.afm KX G) (GT.nb KX G) (GT.nb KX G) (GT.nb KX G) ⟨GT.gJ.raw,GT.na,GT.na⟩ (GT.nb KX G) (.afm KX G) (.afm KX G) (.afm KX G) (.afm KX G) (.afm KX G) (.afm KX G) (.afm KX G) (.afm KX G) (.afm KX G) (.afm KX G) (.afm KX G) (.afm KX G) (GT.nb KX G) (.afm KX G) (.afm KX G) (.afm KX G) (.afm KX G) (.afm KX G) (GT.nb KX G) ⟨GT.gJ.raw,GT.na⟩ (.afm KX G) (.afm KX G) (.raw KX G) (.raw KX G) (.raw KX G) (.raw KX G)
  exact⟨fd,b,λbase _ _=>r base⟩
 case S=>exact GT.afo

