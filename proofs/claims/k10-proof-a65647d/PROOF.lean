import PyProof.Rows.All
import Wide.All
import OpenK.AllK
import Wide.FinOn
import Lean
import PyProof.EqAt
import PyProof.EqKinds
import PyProof.TupleCall
import PyProof.NeKinds
import PyProof.P3Eq
import PyProof.NeData
import PyProof.FactsAll.NoneType_1
import PyProof.Rows.TupAdd
import PyProof.StrWalks
import PyProof.EnumMake
import PyProof.Rows.SetFrom
import PyProof.Rows.SetObj
import PyProof.WalksMore
import PyProof.DictItemsLoops
import PyProof.ReprRoads
import PyProof.ReprLen
import PySem.Challenge.RW_slipcatch_k10_runs_step_by_step
set_option Elab.async false
set_option linter.all false
set_option maxRecDepth 100000
set_option autoImplicit true
set_option relaxedAutoImplicit true
set_option maxHeartbeats 4000000
theorem PySem.sq {g h:Type}{a:g}{b:h}{motive:∀ c d,some (a,b)=some (c,d)->Prop}(f:motive a b rfl){c:g}{d:h}(e:some (a,b)=some (c,d)):motive c d e:=by cases e;exact f
theorem PySem.s1 {d:Type}{a:d}{motive:∀ c,some a=some c->Prop}(b:motive a rfl){c:d}(e:some a=some c):motive c e:=by cases e;exact b
set_option bootstrap.genMatcherCode false
set_option genSizeOf false
noncomputable section
open Array renaming length_toList->ZF,toList->abA,getElem?_toList->acH,forIn_toList->acI
open Bool renaming false_ne_true->Xb,and_eq_true->Xn,false_eq_true->XX,true->L,false->b_,eq_false_iff->Zl,eq_iff_iff->Zm,or_eq_false_iff->acK,false_and->ado,false_or->adp,not_true->adq
open Classical renaming choose_spec->aag,choose->acE
open Decidable renaming decide->j'
open False renaming elim->M'
open ForInStep renaming yield->acF
open Function renaming comp_def->abi
open Int renaming toNat_natCast->Zn,toNat->ZG,emod_lt_of_pos->ZH,emod_nonneg->ZI,ediv_one->abk
open LawfulBEq renaming eq_of_beq->Zk
open LawfulMonad renaming pure_bind->abh
open List renaming getElem?_eq_some_iff->W2,getElem?_append_left->W3,getElem?_eq_getElem->W6,getElem?_set_ne->W9,length_cons->Xa,size_toArray->Xc,getElem?_map->Xd,lookup_cons->Xf,getElem?_cons_succ->Xg,mem_cons->Xj,mem_of_getElem?->Xk,getElem?_cons_zero->Xm,mem_map->Xp,map_cons->Xq,mem_cons_of_mem->Xt,mem_append_right->Xu,length_append->Xv,length_map->Xw,length_nil->Xy,getElem?_append_right->Xz,getElem?_eq_none_iff->XA,getElem?_set_self->XC,append_nil->XF,mem_append->XG,cons_ne_nil->XH,mem_cons_self->XI,append_assoc->XO,all_cons->XQ,find?_cons->XR,map_append->XS,replicate_succ->XT,getElem_mem->XY,drop_eq_getElem_cons->XZ,all_eq_true->X0,length_take->X1,length_pos_iff->X5,take_of_length_le->X6,map_map->X7,replicate->B',range->C_,lookup->L_,any_cons->Yy,mem_range->YM,flatten_cons->Y4,length_set->Y5,take_add_one->Y6,take_length->Y7,filterMap_cons->Zo,mem_filter->Zp,nil_append->ZJ,length_reverse->ZK,nodup_cons->ZL,flatMap->ZO,length_replicate->aah,map_nil->aai,reverse_cons->aaj,sum_cons->aak,ext_getElem?->aal,getElem?_replicate->aam,mem_flatMap->aan,nodup_append->aao,getElem?_range->aap,getElem?_take_of_lt->aaq,getElem?_eq_none->aat,drop_eq_nil_of_le->abl,flatMap_append->abm,mem_append_left->abn,zip->abo,filterMap_map->abp,getD_eq_getElem?_getD->abq,length_filter_le->abr,map_replicate->abt,map_reverse->abu,set_set->abv,take_append_drop->abw,of_mem_zip->abx,foldl->abB,any_toArray->acJ,Nodup->acL,cons_append->acM,flatMap_cons->acN,length_singleton->acO,any_eq_true->acP,eq_nil_of_length_eq_zero->acQ,eq_of_mem_replicate->acR,filter_append->acS,filter_map->acT,getElem?_of_mem->acU,getElem?_reverse->acV,map_id->acW,map_inj_right->acX,mem_filterMap->acY,mem_map_of_mem->acZ,not_mem_nil->ac0,set_append_left->ac1,set_append_right->ac2,forIn_cons->ac3,mk_mem_zipIdx_iff_getElem?->ac4,length_take_le'->ac5,nodup_nil->ac6,getElem?_zipIdx->ac7,length_range->ac8,range_succ_eq_map->ac9,dropLast_eq_take->ac_,length_drop->ac',take_succ_eq_append_getElem->ada,eraseIdxIfInBounds_toArray->adb
open List.Pairwise renaming nil->aeW,imp->aeX,map->aeY
open List.Sublist renaming map->aeZ
open List.cons renaming inj->acG
open Min renaming min->WT
open Nat renaming le_refl->WY,le_trans->Xi,zero_le->Xl,lt_of_lt_of_le->Xr,ne_of_lt->Xs,le_of_lt->Yn,le_succ->Yo,add_comm->Yz,lt_succ_self->Y8,succ->Y9,ne_of_gt->Zq,lt_irrefl->Zr,not_lt_zero->Zs,add_assoc->ZM,le_add_right->ZN,lt_of_succ_lt_succ->aar,min_eq_left->aas,succ_le_succ->aau,le_of_eq->aby,lt_trans->abC,le_of_not_lt->ade,lt_succ_of_lt->adf,sub_self->adg,succ_mul->adh,zero_add->adi,min_eq_right->adj,min_le_right->adk
open Nat.succ renaming inj->abj
open Ne renaming symm->R'
open Option renaming bind_some->WZ,map_eq_some_iff->XD,some->Y,none->O,isSome_iff_exists->abz,getD_none->adl,isSome_map->adm,toList_some->adn
open Option.some renaming inj->Xe
open Pure renaming pure->A'
open PyProof.Rows renaming slot_tuple_getitem->XB,callWith_type1->X4,envOfC->Yp,IsTup->Yq,AllBare->YD,IntsAre->ZZ,Subscript_->aaQ,subscriptTail->aaR,boot_dict->ael,boot_int->aem,boot_list->aen,boot_tuple->aeo,args_tuple_getitem->aep,entry_tuple_getitem->aeq,callWith_builtin1->aer,subscriptTail_builtinR->aes,preSum_getD->aet,getItem_tuple->aeu,iadd_int->ae2,boot_max->ae3,boot_min->ae4,boot_sum->ae5
open PySem renaming wpAny_bind->WX,wpAny_pure->W8,wpAny_newObj_type->Xx,sizeLine_eq->XJ,wpAny_mono->XM,mem_of_lookup->XN,wpAny_field->X2,wpAny_specialOf->X3,wpAny_call_entry->X8,Str->M,Addr->J,Value->R,Shared->d_,Expr->e_,wpAny->g_,model->i',Heap->k_,sizeLine->p',Obj->s_,Pos->u_,World->v_,Program->y_,eval->z_,Around->D_,starEach->D',Stmt->E_,PyData->G_,Env->H_,Scope->J',cLine->K_,backTo->P_,FuncData->P',NameKind->Q',mainGlobals->S_,IsPart->U_,Sem->U',call->V_,rawInt->V',Tok->WG,binaryOp->WL,sysModules->WN,bootBuiltins->WO,compareOp->WQ,codeAny->WV,CmpOp->X_,valueAt->Yf,sliceBounds->Yg,swapsWith->Yh,getItem->Yi,Keyword->Yj,assignEach->Yr,pyNext->Ys,atKey->YA,stored->YB,wpAny_of_eq->YE,assign->YF,attributeBase->YG,Operator->YH,bindC->YR,bindL->YS,Paired->YT,wpAny_holding->YV,call_meets->YW,callerA->Y',wpAny_passesOwn->Za,backToKw->Zc,keywordEach->Zd,Result->Zf,holding->Zg,builtinLookup_eq_fast->Zu,typeLookup_type->Zv,wpAny_truthy_bool->Zw,bindArgs->Zx,swappedStores->Zy,typeLookup->Zz,DictEntry->ZA,wpAny_setField->ZQ,BindsTo->ZS,wpAny_Call_Name_kw->ZT,wpAny_standAt->ZY,slicePick->Z0,wpAny_callSpecial?_slot->Z1,seqIndex?->Z3,behindInMarks->Z4,foldedSetIterable->Z5,isTrue->Z6,letOwnedTupleGo->Z7,pyIter->Z8,relabel->aaB,seqIndex_of->aaI,codeAny_mono->aaJ,wpAny_rule->aaK,isSubtype_type->aaL,wpAny_execs_nil->aaS,wpAny_getItem_str_slice->aaT,wpAny_typeOf->aaU,post_val_or_str->aaV,wpAny_pyIter_tuple->aaX,subscripted->aa0,cellsFrom->abN,wpAny_comprehension_free->abQ,slot_list_getitem->abZ,seqIndex_neg->ab0,wpAny_attempt->ab1,Within->ab2,typeIs_int->ab3,PassesOwn->ab4,typeIs_str->ab5,wpAny_Name->ab6,wpAny_seqItems->ab7,concat_meets->ab8,wpAny_isInstance->ab9,eqIsQuiet_byValue->ab_,noFill_tuple_add->ab',seq_tuple_add->aca,sliceRange->acd,closureFor->ace,getMethod->acf,builtinsNs->acg,codeAny_compStart_list->adD,wpAny_Dict_empty->adH,wpAny_pyHash_int->adI,wpAny_pyHash_str->adK,wpAny_getItem_of->adM,entryFor_of_tree->aea,wpAny_ret_mkInt->aed,wpAny_sequenceKey->aee,codeAny_builtin->aev,wpAny_execs_cons->aew,wpAny_forIn_list->aex,wpAny_isTrue_Compare1->aey,wpAny_newFunctionEnv->aez,wpAny_assign_Name->aeA,wpAny_pyIter_list->aeB,wpAny_getItem_list_slice->aeD,beq_builtin_none->aeE,wpAny_callSpecialIfBoundUnlessNone?_slot->aeF,wpAny_pyNext_tuple_end->aeH,wpAny_pyNext_tuple_item->aeI,theTreesLotGoes->aeN,getattributeRaised->aeO,pyHashByItsType->aeP
open PySem.Around renaming under_plainId->aec
open PySem.AutoSeq1 renaming wpAny_loadPart'->abK
open PySem.Builtin.Dict renaming updateFrom->aeJ,addKeywords->ae6,pairItems->ae7,selfAndRest->ae8
open PySem.Builtin.List renaming listTooLong->aaY,listFitsIndex->ae9
open PySem.Builtin.Range renaming rangeSize->ae_
open PySem.Builtin.Slice renaming slicePlaces->YX,sliceAdjust->Z2,sliceApplied->aaZ,sliceFields->aeK,slicePartIndex->ae'
open PySem.Builtin.SmallTypes renaming nextOf->aeL,newRecord->afa,stopIteration->afb
open PySem.Builtin.Tuple renaming tupleHashOf->Zb,tupleItemsOf->acb,tupleExact->aeM
open PySem.Calls renaming callWith_builtin->abL,spliced_cons->abM,Name_function_global->ady,evalArgs_plain->adz,spliced_nil->adA
open PySem.Challenge renaming pw_slipcatch_k10_runs_step_by_step->afc
open PySem.Data renaming fields->aeS
open PySem.F renaming plainAttrs_list->ZV,slot_NoneType_hash->aaD,slot_list_pop->aaE,slot_tuple_hash->aaF,slot_dict_get->abU,args_tuple_add_2->abV,entry_tuple_add->abW,slot_tuple_add->abX,slot_tuple_getattribute->abY,slot_dict_getitem->ad1,args_dict_get_3->ad2,entry_dict_get->ad3,slot_int_rmul->ad4,slot_list_append->ad5,slot_list_clear->ad6,slot_list_extend->ad7,type_list_pop->ad8,entry_list_pop->ad9,args_object_init_2->ad_,slot_tuple_iterator_next->ad'
open PySem.Heap renaming get?_push_of_some->W7,lt_size->Xh,get?_push_size->Xo,SameBut->YU,ExtBut->ZW,get?_update_self->aaG,size_push->aaH,get?_update_other->aeb,IsTuple->aeG
open PySem.Heap.DictOf renaming new->adL
open PySem.Heap.IsSliceOf renaming new->aeC
open PySem.Heap.SameBut renaming update->ZX
open PySem.NameKind renaming free->X',cell->aa1
open PySem.Obj renaming mapFields->Zh,data_mapFields->Zt,mapSeq->Z9,isFreed_of_fields->abP,cls_mapFields->adC
open PySem.Paired renaming length->ZR,casesOn->adE,snoc->adF
open PySem.PassesOwn renaming never->aeh
open PySem.PyData renaming eqv->F',eqvAll->WK,int->Ze,weight->aaA,leavesShort->aaN,hasDict->aaO,showable->aaP,depthAll->abO,list->ach,str->aci,weightAll->adB,leavesShortAll->aei,hasDictAll->aej,showableAll->aek
open PySem.Sem renaming onRaise->aeQ
open PySem.SeqAt renaming room_here->A_,EqAt->YC,room_in->aaM,eqvAll_other_length->aef,eqvAll_same_length->aeg
open PySem.SeqAt.EqAt renaming same->ZU,of_refs->aaC,int_str->abS,str_int->abT,int_int->adP,int_none->adQ,int_tuple->adR,none_int->adS,none_str->adT,none_tuple->adU,str_none->adV,str_str->adW,str_tuple->adX,tuple_int->adY,tuple_none->adZ,tuple_str->ad0
open PySem.SeqAt.RcAt renaming tuples->abR,lists->adN,lists_lengths->adO
open PySem.Str renaming ofString->i_,ofString_eq_toList->aeR
open PySem.Txt renaming slice->WW,slice_le->aaW
open PySem.Value renaming ref->I_,none->WR,int->YY,type->ZC,str->Z_,bool->aa2,builtin->acj,float->ack,isInt->adG,isStrOf->adJ,bytes->aeT
open PySem.W renaming kia_one->XW,Frag->r_,findIn->WJ,fnOf->YN,emptyDict->YO,instObj->YQ,keepIn->Y_,OpenLaw->ZP,kitOne->aav,codeIn->aaw,lookIn->aax,mg_of->aay,plainGet->aaz,WalkO->abD,methodObj->abE,takerIn->abF,callWith_K->abG,hasDictIn->abH,isFn->abI,plainGet_of->abJ,kitx_dict->ads,kitx_list->adt,handedIn->adu,cellsFrom_some->adv,makesIn->adw,plainOver->adx
open PySem.W.Looks renaming here->ae0
open PySem.W.WData renaming int->aeU
open PySem.Within renaming cons->ae1
open Sum renaming inr->p_,inl->Y3
open Sum.inr renaming inj->ZE
open True renaming intro->WU
local macro_rules|`(tactic|rcases $x:ident)=>`(tactic|first|induction $x:ident using PySem.sq|induction $x:ident using PySem.s1)
local macro_rules|`(∅)=>`(by decide)
local macro_rules|`(⋯)=>`(by lia)
local macro_rules|`(nofun)=>`(by simp)
abbrev W0:=@if_pos
abbrev W5:=@if_neg
abbrev XE:=@beq_eq_false_iff_ne
abbrev XU:=@decide_eq_false
namespace NK
open PySem PySem.SeqAt
inductive KD where
 |aQ | ab (i:Int) | ae (x:M) | aa (ks:List KD)
mutual
def KD.af:(a b:KD)->Decidable (a=b)
 |.aQ,.aQ=>.isTrue rfl
 |.ab i,.ab j=>if h:i=j then .isTrue (by rw[h]) else .isFalse (λe=>h (by cases e;rfl))
 |.ae x,.ae y=>if h:x=y then .isTrue (by rw[h]) else .isFalse (λe=>h (by cases e;rfl))
 |.aa a,.aa b=>match KD.Nw a b with | .isTrue h=>.isTrue (by rw[h]) | .isFalse h=>.isFalse (λe=>h (by cases e;rfl))
 |.aQ,.ab _=>.isFalse (λe=>nomatch e) | .aQ,.ae _=>.isFalse (λe=>nomatch e) | .aQ,.aa _=>.isFalse (λe=>nomatch e)
 |.ab _,.aQ=>.isFalse (λe=>nomatch e) | .ab _,.ae _=>.isFalse (λe=>nomatch e) | .ab _,.aa _=>.isFalse (λe=>nomatch e)
 |.ae _,.aQ=>.isFalse (λe=>nomatch e) | .ae _,.ab _=>.isFalse (λe=>nomatch e) | .ae _,.aa _=>.isFalse (λe=>nomatch e)
 |.aa _,.aQ=>.isFalse (λe=>nomatch e) | .aa _,.ab _=>.isFalse (λe=>nomatch e) | .aa _,.ae _=>.isFalse (λe=>nomatch e)
def KD.Nw:(a b:List KD)->Decidable (a=b)
 |[],[]=>.isTrue rfl
 |[],_::_=>.isFalse (λe=>nomatch e)
 |_::_,[]=>.isFalse (λe=>nomatch e)
 |x::c,y::d=>match KD.af x y,KD.Nw c d with
  |.isTrue h,.isTrue k=>.isTrue (by rw[h,k])
  |.isFalse h,_=>.isFalse (λe=>h (by cases e;rfl))
  |_,.isFalse k=>.isFalse (λe=>k (by cases e;rfl))
end
instance:DecidableEq KD:=KD.af
noncomputable def KD.lo:Nat->KD->Bool
 |0,.aa _=>b_
 |_+1,.aa []=>L
 |n+1,.aa a=>a.all (KD.lo n)
 |_,_=>L
mutual
inductive sJ (h:k_):R->KD->Prop
 |aQ:sJ h .none .aQ
 |ab {i:Int} {t:WG}:sJ h (.int i t) (.ab i)
 |ae {x:M} {t:WG}:sJ h (.str x t) (.ae x)
 |aa {a:J} {vs:Array R} {ks:List KD}:h.IsTuple a vs->gk h vs.toList ks->sJ h (.ref a) (.aa ks)
inductive gk (h:k_):List R->List KD->Prop
 |nil:gk h [] []
 |aa {v:R} {k:KD} {vs:List R} {ks:List KD}:sJ h v k->gk h vs ks->gk h (v::vs) (k::ks)
end
theorem gk.ab {h:k_}:∀ {vs:List R}{ks:List KD},gk h vs ks->vs.length=ks.length
 |_,_,.nil=>rfl
 |_,_,.aa _ r=>congrArg Y9 r.ab
theorem zU {h:k_}{a:J}{vs ws:Array R}:h.IsTuple a vs->h.IsTuple a ws->vs=ws:=λ⟨o,e,_,n,d⟩ ⟨f,b,_,g,c⟩=>by
 rw[e]at b;cases b;rw[d]at c;cases c;rfl
theorem gk.af {h:k_}{v:List R}{k j:List KD}(a:gk h v k)(b:gk h v j):k=j:=
 gk.rec (motive_1:=λv k _=>∀ j,sJ h v j->k=j) (motive_2:=λv k _=>∀ j,gk h v j->k=j) (λ_ q=>by cases q;rfl) (λ_ q=>by cases q;rfl) (λ_ q=>by cases q;rfl)
  (λp _ i _ q=>by cases q with | aa q s=>cases zU p q;rw[i _ s]) (λ_ q=>by cases q;rfl) (λ_ _ i l _ q=>by cases q with | aa b s=>rw[i _ b,l _ s]) a j b
theorem sJ.ag {h:k_}{v:R}{k j:KD}(a:sJ h v k)(b:sJ h v j):k=j:=(acG (gk.af (.aa a .nil) (.aa b .nil))).1
mutual
theorem sJ.af {h h':k_}(k:∀ a vs,h.IsTuple a vs->h'.IsTuple a vs):∀ {v:R}{d:KD},sJ h v d->sJ h' v d
 |_,_,.aQ=>.aQ
 |_,_,.ab=>.ab
 |_,_,.ae=>.ae
 |_,_,.aa p r=>.aa (k _ _ p) (gk.ae k r)
theorem gk.ae {h h':k_}(k:∀ a vs,h.IsTuple a vs->h'.IsTuple a vs):∀ {vs:List R}{b:List KD},gk h vs b->gk h' vs b
 |_,_,.nil=>.nil
 |_,_,.aa a r=>.aa (sJ.af k a) (gk.ae k r)
end
theorem Fw {h h':k_}{d:J}{o:s_}{es ep}(b:h.get? d=Y o)(f:o.data=.dict es ep)(g:YU d h h')(a:J)(vs:Array R):h.IsTuple a vs->h'.IsTuple a vs:=λ⟨i,e,c,n,q⟩=>by
 have j:a≠d:=by
  intro z;subst z;rw[b]at e;cases e;rw[f]at q;cases q
 exact⟨i,(g.2 a j).trans e,c,n,q⟩
mutual
theorem CU:∀ (n:Nat) {k j:KD}{A:D_}{s:d_}{a b:R},sJ s.heap a k->sJ s.heap b j->k.lo n=L->A.units+n<K_->YC A s a b (j' (k=j))
 |n,_,_,A,s,_,_,.aQ,c,_,g=>by
  cases c with
  |aQ=>exact ZU _
  |@ab i t=>exact adS i t
  |@ae x t=>exact adT x t
  |aa p r=>exact adU p ⋯
 |n,_,_,A,s,_,_,.ab (i:=i) (t:=t),c,_,g=>by
  cases c with
  |aQ=>exact adQ i t
  |@ab j u=>
   have:=adP (A:=A) (s:=s) i t j u
   rwa [show(i == j)=j' (KD.ab i=KD.ab j) by rw[Zm];simp]at this
  |@ae x u=>exact abS i t x u
  |aa p r=>exact adR i t p ⋯
 |n,_,_,A,s,_,_,.ae (x:=x) (t:=t),c,_,g=>by
  cases c with
  |aQ=>exact adV x t
  |@ab j u=>exact abT x t j u
  |@ae y u=>
   have:=adW (A:=A) (s:=s) x t y u
   rwa [show(x == y)=j' (KD.ae x=KD.ae y) by rw[Zm];simp]at this
  |aa p r=>exact adX x t p ⋯
 |0,_,_,A,s,_,_,.aa p r,c,o,g=>by cases o
 |n+1,_,_,A,s,_,_,.aa (a:=l) (vs:=vs) (ks:=ks) p r,c,o,g=>by
  cases c with
  |aQ=>exact adZ p ⋯
  |@ab j u=>exact adY j u p ⋯
  |@ae y u=>exact ad0 y u p ⋯
  |@aa k v m q z=>
   by_cases d:l=k
   .subst d;cases zU p q;cases gk.af r z;rw[decide_eq_true rfl];exact ZU _
   .have f:∀ x∈ks,KD.lo n x=true:=by
     cases ks with
     |nil=>exact(λ_ h=>nomatch h)
     |cons x G=>exact X0.mp o
    obtain⟨w,B⟩:=y0 n (A:=A.in1) r z f (show A.units+1+n<K_ by lia);have C:vs.size=ks.length:=by simpa using r.ab
    have D:v.size=m.length:=by simpa using z.ab
    have:=aaC d (abR (e:=λi=>j' (ks[i]?=m[i]?)) p q ⋯ λi E F=>w i (by simpa using E) (by simpa using F));rw[C,D,B]at this;have e:j' (ks=m)=j' (KD.aa ks=KD.aa m):=by
     rw[Zm];simp
    rw[e]at this;exact this
theorem y0:∀ (n:Nat) {ks f:List KD}{A:D_}{s:d_}{vs ws:List R},gk s.heap vs ks->gk s.heap ws f->(∀ x∈ks,KD.lo n x=L)->A.units+n<K_->
  (∀ i (h1:i<vs.length) (h2:i<ws.length),YC A s vs[i] ws[i] (j' (ks[i]?=f[i]?)))/\((C_ (WT ks.length f.length)).all (λi=>j' (ks[i]?=f[i]?))&&ks.length == f.length)=j' (ks=f)
 |n,_,_,A,s,_,_,.nil,.nil,_,_=>⟨λi h1=>absurd h1 (Zs _),by simp⟩
 |n,_,_,A,s,_,_,.nil,.aa _ _,_,_=>⟨λi h1=>absurd h1 (Zs _),by simp⟩
 |n,_,_,A,s,_,_,.aa _ _,.nil,_,_=>⟨λi _ h2=>absurd h2 (Zs _),by simp⟩
 |n,_,_,A,s,_,_,.aa (k:=x) (ks:=c) a r,.aa (k:=y) (ks:=d) b z,g,h=>by
  obtain⟨h1,h2⟩:=y0 n (A:=A) r z (λq l=>g q (Xt _ l)) h;have j:=CU n (A:=A) a b (g x XI) h;refine⟨λi m o=>?_,?_⟩
  .cases i with
   |zero=>
    have e:j' (x=y)=j' ((x::c)[0]?=(y::d)[0]?):=by rw[Zm];simp
    rw[e]at j;exact j
   |succ i=>exact h1 i (aar m) (aar o)
  .have p:WT (x::c).length (y::d).length=WT c.length d.length+1:=by simp only[Xa];lia
   rw[p,ac9,XQ,List.all_map];have t:((λi=>j' ((x::c)[i]?=(y::d)[i]?))∘Y9)=λi=>j' (c[i]?=d[i]?):=by funext i;simp
   have u:((x::c).length == (y::d).length)=(c.length == d.length):=by simp
   have v:j' ((x::c)[0]?=(y::d)[0]?)=j' (x=y):=by rw[Zm];simp
   rw[t,u,v,Bool.and_assoc,h2,Zm];simp
end
mutual
def vy (w:v_):KD->Int
 |.aQ=>reduceHash 0xFCA86420
 |.ab i=>hashInt i
 |.ae x=>hashStr w x
 |.aa a=>reduceHash (Zb (du w a))
def du (w:v_):List KD->List Int
 |[]=>[]
 |k::a=>vy w k::du w a
end
mutual
def qg:KD->Nat
 |.aQ=>1
 |.ab _=>1
 |.ae _=>1
 |.aa a=>d9 a+1
def d9:List KD->Nat
 |[]=>0
 |k::a=>qg k+d9 a
end
theorem jL (w:v_):∀ a b:List KD,du w (a++b)=du w a++du w b
 |[],_=>by simp[du]
 |x::a,b=>by simp[du,jL w a b]
theorem jK:∀ a b:List KD,d9 (a++b)=d9 a+d9 b
 |[],_=>by simp[d9]
 |x::a,b=>by simp[d9,jK a b];lia
section
variable {prog:y_}{w:v_}{E:R->d_->Prop}
theorem AG {A:D_}{s:d_}{Q:Int->d_->Prop}(h:Q (reduceHash 0xFCA86420) {s with toks:=s.toks+1}):g_ (i' prog w) A (pyHash .none) Q E s:=by
 unfold pyHash
 first | unfold aeP | skip
 have b:[WR].any Value.onHeap=false:=rfl;refine WX ?_;rw[cRoomFor,W5 (by rw[b];exact Xb)];refine W8 ?_;have a:s.TypeIs WR "NoneType":=typeIs_none s;refine WX (X3 a aaD.lookup ?_);show g_ _ _ (if (Y (acj "NoneType.__hash__") == Y WR)=L then _ else _) Q E s;rw[W5 (by rw[aeE];exact Xb)];refine WX (X3 a aaD.lookup ?_);show g_ _ _ (callSpecialIfBoundUnlessNone? .none "__hash__" _ >>= _) Q E s;refine WX (aeF a aaD (X8 aaD a F.entry_NoneType_hash ?_ (F.args_NoneType_hash_1 _)));show g_ _ _ (retInt 0xFCA86420) _ _ s;refine aed ?_;show g_ _ _ (if (j' (-(2:Int) ^ 63<=0xFCA86420)&&j' ((0xFCA86420:Int)<2 ^ 63))=L then _ else _) Q E _;rw[W0 ∅];unfold reduceHash at h;rw[W0 ∅]at h;exact W8 h
theorem vC {n:Nat}{ks:List KD}(a:KD.lo (n+1) (.aa ks)=L):∀ x∈ks,KD.lo n x=true:=by
 cases ks with
 |nil=>exact(λ_ h=>nomatch h)
 |cons x b=>exact X0.mp a
theorem De:∀ (n:Nat) {k:KD}{A:D_}{E:R->d_->Prop}{s:d_}{v:R}{Q:Int->d_->Prop},sJ s.heap v k->k.lo n=L->A.units+n<K_->Q (vy w k) {s with toks:=s.toks+qg k}->g_ (i' prog w) A (pyHash v) Q E s
 |n,.aQ,A,E,s,v,Q,j,_,_,h=>by cases j;exact AG h
 |n,.ab i,A,E,s,v,Q,j,_,_,h=>by cases j;exact adI h
 |n,.ae x,A,E,s,v,Q,j,_,_,h=>by cases j;exact adK h
 |0,.aa ks,A,E,s,v,Q,j,B,_,h=>by cases B
 |n+1,.aa ks,A,E,s,v,Q,j,B,S,h=>by
  cases j with
  |@aa a T _ p r=>
   have y:s.TypeIs (.ref a) "tuple":=let ⟨o,e,c,_⟩:=p;⟨o,e,c⟩;obtain⟨o,H,_,m,I⟩:=id p;have q:=vC B;unfold pyHash
   first | unfold aeP | skip
   first | refine WX (wpAny_cRoomFor_or (.inr (show A.units<K_ by lia)) ?_) | skip
   refine WX (X3 y aaF.lookup ?_);show g_ _ _ (if (Y (acj "tuple.__hash__") == Y WR)=L then _ else _) Q E s;rw[W5 (by rw[aeE];exact Xb)];refine WX (X3 y aaF.lookup ?_);refine WX (aeF y aaF (X8 aaF y F.entry_tuple_hash ?_ (F.args_tuple_hash_1 _)));show g_ _ _ (acb (.ref a) >>= _) _ _ s;refine WX (wpAny_tupleItemsOf H I ?_);refine WX ?_;rw[<-acI];refine aex _
    (λf (b:Array Int) C=>∃ done left,ks=done++left/\gk s.heap f left/\b.toList=du w done/\C={s with toks:=s.toks+d9 done})
    _ ?_ ?_ _ _ ⟨[],ks,rfl,r,rfl,rfl⟩
   .rintro x f b C ⟨done,left,t,l,D,rfl⟩;cases l with
    |@aa _ k _ G K N=>
     have P:k∈ks:=by rw[t];simp
     refine WX (De n (A:=A.in1) (s:={s with toks:=s.toks+d9 done}) K (q k P) (show A.units+1+n<K_ by lia) ?_);have u:∃ d g,ks=d++g/\gk s.heap f g/\(b.push (vy w k)).toList=du w d/\
       ({s with toks:=s.toks+d9 done+qg k}:d_)={s with toks:=s.toks+d9 d}:=
      ⟨done++[k],G,by rw[t];simp,N,by rw[jL];simp[D,du],by rw[jK];simp[d9,ZM]⟩
     first
      |exact W8 u
      |exact WX (W8 (W8 u))
   .rintro b C ⟨done,left,t,l,D,rfl⟩;cases l;rw[XF]at t;subst t;show g_ _ _ (retInt (Zb b.toList)) _ _ _;rw[D];refine aed ?_;show g_ _ _ (if (j' (-(2:Int) ^ 63<=Zb (du w ks))&&j' (Zb (du w ks)<2 ^ 63))=L then _ else _) Q E _;have h':Q (reduceHash (Zb (du w ks))) {s with toks:=s.toks+d9 ks+1}:=by simpa [vy,qg,ZM]using h
    unfold reduceHash at h';by_cases z:(j' (-(2:Int) ^ 63<=Zb (du w ks))&&j' (Zb (du w ks)<2 ^ 63))=L
    .rw[W0 z];rw[W0 z]at h';exact W8 h'
    .rw[W5 z];rw[W5 z]at h';exact WX (aaK (W8 h'))
theorem zH:∀ (n:Nat) {k:KD}{A:D_}{E:R->d_->Prop}{s:d_}{v:R}{Q:Bool->d_->Prop},sJ s.heap v k->k.lo n=L->Q L s->g_ (i' prog w) A (eqIsQuiet n v) Q E s
 |n,.aQ,A,E,s,v,Q,b,_,h=>by cases b;rw[ab_ n (v:=.none) rfl];exact W8 h
 |n,.ab i,A,E,s,v,Q,b,_,h=>by cases b;rw[ab_ n (v:=.int i _) rfl];exact W8 h
 |n,.ae x,A,E,s,v,Q,b,_,h=>by cases b;rw[ab_ n (v:=.str x _) rfl];exact W8 h
 |0,.aa t,A,E,s,v,Q,b,g,h=>by cases g
 |n+1,.aa t,A,E,s,v,Q,b,g,h=>by
  cases b with
  |@aa a C _ p r=>
   have u:s.TypeIs (.ref a) "tuple":=let ⟨o,e,c,_⟩:=p;⟨o,e,c⟩;obtain⟨o,D,_,m,G⟩:=id p;have f:=vC g;unfold eqIsQuiet;refine WX (X3 u F.slot_tuple_eq.lookup ?_);show g_ _ _ (isInstance (.ref a) (.type "tuple") >>= _) _ _ s;refine WX (ab9 u isSubtype_tuple_tuple ?_);simp only[adq,XX,if_false];refine WX (ab7 D G ?_);refine WX ?_;show g_ _ _ (forIn C _ _) _ _ s;rw[<-acI];refine aex _ (λd r j=>r.1=O/\j=s/\∃ left,gk s.heap d left/\∀ x∈left,KD.lo n x=L) _ ?_ ?_ _ _ ⟨rfl,rfl,t,r,f⟩
   .rintro v d z j ⟨hz,rfl,left,l,y⟩;cases l with
    |@aa _ k _ q H I=>
     refine WX (zH n H (y k XI) ?_);simp only[adq,XX,if_false];exact W8 ⟨rfl,rfl,q,I,λx K=>y x (Xt _ K)⟩
   .rintro⟨N,P⟩ j ⟨B,rfl,_⟩;simp only at B;subst B;exact W8 h
end
def Na (h:k_)(k:KD)(a:J):Prop:=k.lo 8=L/\sJ h (.ref a) k
def gM (prog:y_)(w:v_):HeapKind prog w KD where
 is:=Na
 hash:=vy w
 draws:=qg
 room:=λA=>A.units+8<K_
 inj:=λd e=>d.2.ag e.2
 keeps:=λx g i j=>⟨x.1,x.2.af (Fw g i j)⟩
 pyHash:=λf c h=>De 8 c.2 c.1 f h
 eqBool:=λ{A E s x y a b Q} f d e h=>CU 8 d.2 e.2 d.1 f prog w E Q h
 quiet:=λc h=>zH 8 c.2 c.1 h
end NK
namespace L2
open PySem PySem.Spec PyProof.Rows
abbrev j_:=Sum Int M
noncomputable def rL:j_->R->Bool
 |.inl k,v=>adG k v
 |.inr x,v=>adJ x v
noncomputable def Ri (w:v_):j_->Int
 |.inl k=>hashInt k
 |.inr x=>hashStr w x
theorem cV:∀ {k:j_}{v:R},rL k v=L->(∃ i t,k=Y3 i/\v=YY i t)\/(∃ x t,k=p_ x/\v=Z_ x t)
 |.inl i,v,h=>by
  obtain⟨t,e⟩:=Value.isInt_shape (k:=i) (v:=v) h;exact .inl ⟨i,t,rfl,e⟩
 |.inr x,v,h=>by
  obtain⟨t,e⟩:=Value.isStrOf_shape (x:=x) (v:=v) h;exact .inr ⟨x,t,rfl,e⟩
theorem AN (i:Int)(t:WG):rL (.inl i) (.int i t)=true:=by simp[rL,adG]
theorem AO (x:M)(t:WG):rL (.inr x) (.str x t)=true:=by simp[rL,adJ]
theorem J5 (a b:Int):j' ((Y3 a:j_)=Y3 b)=(a == b):=by
 by_cases e:a=b
 .subst e;simp
 .have h:¬ (Y3 a:j_)=Y3 b:=λq=>e (Sum.inl.inj q)
  rw[XU h];exact(XE.mpr e).symm
theorem J8 (a b:M):j' ((p_ a:j_)=p_ b)=j' (a=b):=by
 by_cases e:a=b
 .subst e;simp
 .have h:¬ (p_ a:j_)=p_ b:=λq=>e (ZE q)
  rw[XU h,XU e]
theorem J6 (a:Int)(b:M):j' ((Y3 a:j_)=p_ b)=false:=XU (λq=>nomatch q)
theorem J7 (a:M)(b:Int):j' ((p_ a:j_)=Y3 b)=false:=XU (λq=>nomatch q)
def bW (prog:y_)(w:v_):PySem.KeyKind prog w j_ where
 is:=rL
 hash:=Ri w
 inj:=λv a b z q=>by
  rcases cV z with⟨i,t,rfl,rfl⟩ | ⟨x,t,rfl,rfl⟩
  .rcases cV q with⟨j,u,rfl,e⟩ | ⟨y,u,rfl,e⟩
   .injection e with d _;rw[d]
   .exact nomatch e
  .rcases cV q with⟨j,u,rfl,e⟩ | ⟨y,u,rfl,e⟩
   .exact nomatch e
   .injection e with d _;rw[d]
 byValue:=λk v h=>by
  rcases cV h with⟨i,t,rfl,rfl⟩ | ⟨x,t,rfl,rfl⟩<;>rfl
 pyHash:=λn h=>by
  rcases cV n with⟨i,t,rfl,rfl⟩ | ⟨x,t,rfl,rfl⟩
  .exact adI h
  .exact adK h
 eqBool:=λB n h=>by
  rcases cV B with⟨i,t,rfl,rfl⟩ | ⟨x,t,rfl,rfl⟩
  .rcases cV n with⟨j,u,rfl,rfl⟩ | ⟨y,u,rfl,rfl⟩
   .rw[J5]at h;exact wpAny_eqBool_int h
   .rw[J6]at h;exact abS i t y u _ _ _ _ h
  .rcases cV n with⟨j,u,rfl,rfl⟩ | ⟨y,u,rfl,rfl⟩
   .rw[J7]at h;exact abT x t j u _ _ _ _ h
   .rw[J8]at h;exact wpAny_eqBool_str h
 «strs»:=λk x t v h=>by
  rcases cV h with⟨i,u,rfl,e⟩ | ⟨y,u,rfl,e⟩
  .exact nomatch e
  .injection e with d _;subst d;cases v<;>rfl
theorem vH (prog:y_)(w:v_)(i:Int)(t:WG):(bW prog w).is (.inl i) (.int i t)=true:=AN i t
theorem jU (prog:y_)(w:v_)(x:M)(t:WG):(bW prog w).is (.inr x) (.str x t)=true:=AO x t
inductive V where
 |aQ | bl (b:Bool) | ab (i:Int) | ae (x:M) | MD (b:Array UInt8) | JK (b:UInt64) | aa (a:J) | ty (n:String)
 deriving DecidableEq
def x_:V->R->Prop
 |.aQ,u=>u=WR
 |.bl b,u=>u=aa2 b
 |.ab i,u=>∃ t,u=YY i t
 |.ae x,u=>∃ t,u=Z_ x t
 |.MD b,u=>∃ t,u=aeT b t
 |.JK b,u=>∃ t,u=ack b t
 |.aa a,u=>u=I_ a
 |.ty n,u=>u=ZC n
abbrev x':List V->List R->Prop:=YT x_
theorem x'.aa {xs:List V}{us:List R}(r:x' xs us):xs.length=us.length:=ZR r
theorem x'.ae:∀ {xs:List V}{us:List R}{i:Nat}{x:V},x' xs us->xs[i]?=Y x->∃ u,us[i]?=Y u/\x_ x u
 |_,_,_,_,.nil,e=>by simp at e
 |_,_,0,_,.cons r _,e=>by simp at e;subst e;exact⟨_,rfl,r⟩
 |_,_,i+1,x,.cons _ t,e=>by
  obtain⟨u,h1,h2⟩:=x'.ae (i:=i) (x:=x) t (by simpa using e);exact⟨u,by simpa using h1,h2⟩
theorem x'.ar {x:V}{u:R}(r:x_ x u):∀ {xs:List V}{us:List R} (i:Nat),x' xs us->x' (xs.set i x) (us.set i u)
 |_,_,_,.nil=>.nil
 |_,_,0,.cons _ t=>.cons r t
 |_,_,i+1,.cons q t=>.cons q (x'.ar r i t)
theorem x'.ab:∀ {xs ys:List V}{us ws:List R},x' xs us->x' ys ws->x' (xs++ys) (us++ws)
 |_,_,_,_,.nil,s=>s
 |_,_,_,_,.cons r t,s=>.cons r (x'.ab t s)
theorem x'.take:∀ {xs:List V}{us:List R} (n:Nat),x' xs us->x' (xs.take n) (us.take n)
 |_,_,0,_=>.nil
 |_,_,_+1,.nil=>.nil
 |_,_,n+1,.cons r t=>.cons r (x'.take n t)
theorem x'.ah:∀ {xs:List V}{us:List R} (n:Nat),x' xs us->x' (xs.drop n) (us.drop n)
 |_,_,0,r=>r
 |_,_,_+1,.nil=>.nil
 |_,_,n+1,.cons _ t=>x'.ah n t
def jl:Option V->Option R->Prop
 |some v,Y u=>x_ v u
 |none,O=>True
 |_,_=>False
def KV {d:Type}:List (d×V)->List (d×R)->Prop:=YT λ(p:d×V) (q:d×R)=>p.1=q.1/\x_ p.2 q.2
noncomputable def kV:j_->V
 |.inl i=>.ab i
 |.inr x=>.ae x
inductive HO where
 |aa (xs:List V)
 |ab (xs:List V)
 |dK (kvs:List (j_×V)) | dT (kvs:List (NK.KD×V))
 |ag (S:Int->Bool) (n:Nat)
 |ae (C dx:J) (fs:List (M×V))
 |af (x:J)
 |xd (fs:List (M×V))
 |ai (f x:J)
 |RT (lo hi:Int)
 |ji (o:s_) (u:HO)
 |Mj (ps:Array R)
 |ah (φ:k_->Prop)
abbrev Hp:=J->Option HO
noncomputable def m_ (H:Hp)(a:J)(o:HO):Hp:=λb=>if b=a then Y o else H b
theorem cB {H:Hp}{a:J}{o:HO}:m_ H a o a=Y o:=by unfold m_;rw[W0 rfl]
theorem ba {H:Hp}{a b:J}{o:HO}(h:b≠a):m_ H a o b=H b:=by unfold m_;rw[W5 h]
theorem N0 {H:Hp}{a b:J}{o u:HO}(h:H a=Y o)(h':H b=Y u)(d:o≠u):a≠b:=by
 intro e;subst e;rw[h]at h';exact d (Xe h')
theorem bH {H:Hp}{a b:J}{o:HO}(h:H a=Y o)(h':H b=O):a≠b:=by
 intro e;subst e;rw[h]at h';cases h'
mutual
inductive wy (H:Hp):V->NK.KD->Prop
 |aQ:wy H .aQ .aQ
 |aa {i:Int}:wy H (.ab i) (.ab i)
 |ab {x:M}:wy H (.ae x) (.ae x)
 |ae {a:J} {vs:List V} {ks:List NK.KD}:H a=Y (.ab vs)->l7 H vs ks->wy H (.aa a) (.aa ks)
inductive l7 (H:Hp):List V->List NK.KD->Prop
 |nil:l7 H [] []
 |aa {v:V} {k:NK.KD} {vs:List V} {ks:List NK.KD}:wy H v k->l7 H vs ks->l7 H (v::vs) (k::ks)
end
mutual
theorem wy.af {H H':Hp}(d:∀ b xs,H b=Y (.ab xs)->H' b=Y (.ab xs)):∀ {v:V}{k:NK.KD},wy H v k->wy H' v k
 |_,_,.aQ=>.aQ
 |_,_,.aa=>.aa
 |_,_,.ab=>.ab
 |_,_,.ae e r=>.ae (d _ _ e) (l7.ab d r)
theorem l7.ab {H H':Hp}(d:∀ b xs,H b=Y (.ab xs)->H' b=Y (.ab xs)):∀ {vs:List V}{ks:List NK.KD},l7 H vs ks->l7 H' vs ks
 |_,_,.nil=>.nil
 |_,_,.aa a r=>.aa (wy.af d a) (l7.ab d r)
end
def FN (H:Hp)(b:J)(k:NK.KD):Prop:=wy H (.aa b) k/\k.lo 8=L
theorem FN.aa {H H':Hp}{b:J}{k:NK.KD}(e:FN H b k)(d:∀ b xs,H b=Y (.ab xs)->H' b=Y (.ab xs)):FN H' b k:=⟨e.1.af d,e.2⟩
def gf (h:k_)(a:J)(items:Array R):Prop:=∃ o,h.get? a=Y o/\o.cls=.type "tuple"/\o.dict=O/\∃ n,o.data=.seq items n
theorem gf.aa {h:k_}{a:J}{items:Array R}:gf h a items->Yq h a items:=λ⟨o,e,c,_,d⟩=>⟨o,e,c,d⟩
theorem gf.lt {h:k_}{a:J}{items:Array R}(p:gf h a items):a<h.objs.size:=p.aa.lt
theorem gf.ab (h:k_)(items:Array R):gf (h.push {cls:=.type "tuple",data:=.seq items}) h.objs.size items:=⟨_,Xo _ rfl,rfl,rfl,_,rfl⟩
section
variable (P:y_)(w:v_)
def dc (H:Hp)(h:k_)(a:J):HO->Prop
 |.aa xs=>xs.length<=p'/\∃ (d:List R) (n:Nat),x' xs d/\h.get? a=Y {cls:=.type "list",data:=.seq d.toArray n}
 |.ab xs=>xs.length<=p'/\∃ d:List R,x' xs d/\gf h a d.toArray
 |.dK i=>i.length<=p'/\(a == WN)=b_/\∃ y,KV i y/\h.DictOf (bW P w) a y
 |.dT i=>i.length<=p'/\(a == WN)=b_/\∃ xs:List (NK.KD×J×R),
   YT (λ(p:NK.KD×V) (q:NK.KD×J×R)=>p.1=q.1/\FN H q.2.1 p.1/\x_ p.2 q.2.2) i xs/\
   ∃ o es z,h.get? a=Y o/\o.ExactDict/\o.data=.dict es z/\es.toList=xs.map (entryOfKey (NK.gM P w))/\(xs.map (·.1)).Nodup
 |.ag S n=>h.SetOf (intKind P w) a S n
 |.ae C dx fs=>H dx=Y (.af a)/\fs.length<=1000/\dx≠a/\h.get? a=Y (YQ C dx)/\
   ∃ mA,h.Ns1 dx mA/\(∀ f,jl (fs.lookup f) (mA f))/\ab2 mA (fs.map (·.1))
 |.af _=>∃ o,h.get? a=Y o
 |.xd fs=>∃ mA,h.Ns1 a mA/\∀ f,jl (fs.lookup f) (mA f)
 |.RT lo hi=>∃ t u v,h.get? a=Y {cls:=.type "range",data:=.fields #[.int lo t,.int hi u,.int 1 v]}
 |.ji o u=>h.get? a=Y o/\dc H h a u
 |.Mj ps=>h.get? a=Y {cls:=.none,data:=.fields ps}
 |.ai f x=>h.get? a=Y (abE (.ref f) (.ref x))
 |.ah j=>j h/\(∃ o,h.get? a=Y o)/\∀ h1 h2:k_,j h1->(∀ o,h1.get? a=Y o->h2.get? a=Y o)->j h2
def f9 (H:Hp)(h:k_):Prop:=∀ a o,H a=Y o->dc P w H h a o
end
section
variable {P:y_}{w:v_}{H H':Hp}{h h':k_}{a:J}{o:HO}
theorem dc.lt (x:dc P w H h a o):a<h.objs.size:=by
 cases o with
 |aa xs=>obtain⟨_,_,_,_,e⟩:=x;exact Xh e
 |ab xs=>obtain⟨_,_,_,p⟩:=x;exact p.lt
 |dK d=>obtain⟨_,_,_,_,o,_,_,e,_⟩:=x;exact Xh e
 |dT d=>obtain⟨_,_,_,_,o,_,_,e,_⟩:=x;exact Xh e
 |ag S n=>obtain⟨o,_,_,_,e,_⟩:=x;exact Xh e
 |ae C dx fs=>obtain⟨_,_,_,e,_⟩:=x;exact Xh e
 |af y=>obtain⟨_,e⟩:=x;exact Xh e
 |xd fs=>obtain⟨_,⟨_,_,_,e,_⟩,_⟩:=x;exact Xh e
 |RT lo hi=>obtain⟨_,_,_,e⟩:=x;exact Xh e
 |ji i u=>obtain⟨e,_⟩:=x;exact Xh e
 |Mj ps=>exact Xh (show h.get? a=Y _ from x)
 |ai f y=>exact Xh (show h.get? a=Y _ from x)
 |ah j=>obtain⟨_,⟨_,e⟩,_⟩:=x;exact Xh e
theorem Paired.Kl {j n:Type}{F G:j->n->Prop}:∀ {d:List j}{i:List n},YT F d i->(∀ a b,F a b->G a b)->YT G d i
 |_,_,.nil,_=>.nil
 |_,_,.cons r t,f=>.cons (f _ _ r) (Paired.Kl t f)
theorem dc.By (x:dc P w H h a o)(k:∀ b u,(b=a\/H b=Y (.af a))->h.get? b=Y u->h'.get? b=Y u)
  (G:∀ b,H b=Y (.af a)->H' b=Y (.af a)) (I:∀ b xs,H b=Y (.ab xs)->H' b=Y (.ab xs)):dc P w H' h' a o:=by
 induction o with
 |aa xs=>obtain⟨z,B,n,r,e⟩:=x;exact⟨z,B,n,r,k _ _ (.inl rfl) e⟩
 |ab xs=>obtain⟨z,B,r,i,e,c⟩:=x;exact⟨z,B,r,i,k _ _ (.inl rfl) e,c⟩
 |dK D=>obtain⟨z,y,N,r,i,es,j,e,c⟩:=x;exact⟨z,y,N,r,i,es,j,k _ _ (.inl rfl) e,c⟩
 |dT D=>
  obtain⟨z,y,xs,r,i,es,j,e,c⟩:=x;exact⟨z,y,xs,Paired.Kl r λp q z=>⟨z.1,z.2.1.aa I,z.2.2⟩,i,es,j,k _ _ (.inl rfl) e,c⟩
 |ag S n=>obtain⟨i,es,j,t,e,c⟩:=x;exact⟨i,es,j,t,k _ _ (.inl rfl) e,c⟩
 |ae C dx fs=>
  obtain⟨d,z,U,e,mA,⟨F,es,j,Z,c⟩,r⟩:=x;exact⟨G _ d,z,U,k _ _ (.inl rfl) e,mA,⟨F,es,j,k _ _ (.inr d) Z,c⟩,r⟩
 |af y=>obtain⟨i,e⟩:=x;exact⟨i,k _ _ (.inl rfl) e⟩
 |xd fs=>obtain⟨mA,⟨F,es,j,e,c⟩,r⟩:=x;exact⟨mA,⟨F,es,j,k _ _ (.inl rfl) e,c⟩,r⟩
 |RT lo hi=>obtain⟨t,u,v,e⟩:=x;exact⟨t,u,v,k _ _ (.inl rfl) e⟩
 |ji i u ih=>obtain⟨e,q⟩:=x;exact⟨k _ _ (.inl rfl) e,ih q⟩
 |Mj ps=>
  have e:h.get? a=Y {cls:=.none,data:=.fields ps}:=x;show h'.get? a=Y {cls:=.none,data:=.fields ps};exact k a _ (.inl rfl) e
 |ai f y=>
  have e:h.get? a=Y (abE (.ref f) (.ref y)):=x;show h'.get? a=Y (abE (.ref f) (.ref y));exact k a _ (.inl rfl) e
 |ah φ=>obtain⟨p,⟨o,e⟩,st⟩:=x;exact⟨st _ _ p λo q=>k _ _ (.inl rfl) q,⟨o,k _ _ (.inl rfl) e⟩,st⟩
theorem f9.lt (x:f9 P w H h)(e:H a=Y o):a<h.objs.size:=(x a o e).lt
theorem f9.aa (x:f9 P w H h)(e:h.objs.size<=a):H a=none:=by
 cases q:H a with
 |none=>rfl
 |some u=>exact absurd (Xr (x.lt q) e) (Zr _)
theorem f9.ab (x:f9 P w H h)(k:∀ b u,h.get? b=Y u->h'.get? b=Y u):f9 P w H h':=λa o e=>
 (x a o e).By (λb u _ q=>k b u q) (λ_ q=>q) λ_ _ q=>q
theorem f9.af (x:f9 P w H h)(k:∀ b u,h.get? b=Y u->h'.get? b=Y u)(n:h.objs.size<=a)(d:dc P w (m_ H a o) h' a o):f9 P w (m_ H a o) h':=λb u e=>by
 have i:=x.aa n;by_cases j:b=a
 .subst j;rw[cB]at e;rcases e;exact d
 .rw[ba j]at e;exact(x b u e).By (λc v _ q=>k c v q) (λc q=>by rw[ba (bH q i)];exact q) λc xs q=>by rw[ba (bH q i)];exact q
end
def Rd (H:Hp)(a:J)(u:HO):Prop:=H a=Y u\/∃ o,H a=Y (.ji o u)
theorem Rd.ok {P:y_}{w:v_}{H:Hp}{h:k_}{a:J}{u:HO}(r:Rd H a u)(x:f9 P w H h):dc P w H h a u:=by
 rcases r with r | ⟨o,r⟩
 .exact x a u r
 .obtain⟨_,q⟩:=x a _ r;exact q
def Nd:Option HO->Prop
 |some (.aa _)=>True
 |some (.dK _)=>True
 |some (.dT _)=>True
 |some (.ag _ _)=>True
 |some (.ae _ _ _)=>True
 |some (.ah _)=>True
 |_=>False
section
variable {P:y_}{w:v_}{H:Hp}{h h':k_}{x e:J}{o':HO}
theorem f9.ae (I:f9 P w H h)(n:Nd (H x))(G:e=x\/H e=Y (.af x))(k:∀ b u,b≠e->h.get? b=Y u->h'.get? b=Y u)(D:∃ u,h'.get? e=Y u)
  (F:dc P w (m_ H x o') h' x o'):f9 P w (m_ H x o') h':=λb u q=>by
 have i:∀ c y,H c=Y (.af y)->c≠x:=λc y r z=>by subst z;rw[r]at n;exact n
 have j:∀ c xs,H c=Y (.ab xs)->c≠x:=λc xs r z=>by subst z;rw[r]at n;exact n
 by_cases B:b=x
 .subst B;rw[cB]at q;rcases q;exact F
 .rw[ba B]at q;by_cases d:b=e
  .have q':H b=Y (.af x):=by
    rcases G with z | z
    .exact absurd (d.trans z) B
    .rw[d];exact z
   rw[q]at q';cases q';obtain⟨v,N⟩:=D;exact⟨v,by rw[d];exact N⟩
  .refine(I b u q).By (λc v hc r=>k c v ?_ r) (λc r=>by rw[ba (i c b r)];exact r) λc xs r=>by rw[ba (j c xs r)];exact r
   rcases hc with rfl | hc
   .exact d
   .rintro rfl;rcases G with z | z
    .exact i c b hc z
    .rw[hc]at z;cases z;exact B rfl
end
structure Un (fs ex:List J)(H H':Hp)(h h':k_):Prop where
 ab:∀ b o,h.get? b=Y o->H b=O->b∉fs->b∉ex->h'.get? b=Y o
 ag:∀ b o,h.get? b=Y o->H b=O->b∈fs->b∉ex->∃ sl,h'.get? b=Y {o with slots:=sl}
 aa:∀ b o,h.get? b=Y o->H b=O->b∉ex->H' b=O
 ae:∀ b o,h.get? b=Y o->b∉ex->∃ o',h'.get? b=Y o'
 ai:∀ b xs,H b=Y (.ab xs)->H' b=Y (.ab xs)
 af:∀ b o u,H b=Y (.ji o u)->H' b=Y (.ji o u)
 ah:∀ b ps,H b=Y (.Mj ps)->∃ more,H' b=Y (.Mj (ps++more))
section
variable {fs ex:List J}{H H1:Hp}{h h1 h':k_}{a x e:J}{o:HO}
theorem Un.ak (u:Un fs ex H H1 h h1){b:J}{d:s_}(q:h.get? b=Y d)(n:H b=O)(i:b∉ex):∃ y,h1.get? b=Y {d with slots:=y}:=by
 by_cases j:b∈fs
 .exact u.ag b d q n j i
 .exact⟨d.slots,u.ab b d q n j i⟩
theorem Un.aj (k:∀ b u,h.get? b=Y u->h'.get? b=Y u):Un fs ex H H h h':=
 ⟨λb d q _ _ _=>k b d q,λb d q _ _ _=>⟨d.slots,k b d q⟩,λ_ _ _ n _=>n,λb d q _=>⟨d,k b d q⟩,λ_ _ q=>q,λ_ _ _ q=>q,λ_ ps q=>⟨#[],by rw[q];simp⟩⟩
theorem Un.ar:Un fs ex H H h h:=Un.aj λ_ _ q=>q
theorem Un.aq (k:∀ b u,h.get? b=Y u->h'.get? b=Y u)(i:h.objs.size<=a)(d:H a=O):Un fs ex H (m_ H a o) h h' where
 ab:=λb u q _ _ _=>k b u q
 ag:=λb u q _ _ _=>⟨u.slots,k b u q⟩
 aa:=λb u q n _=>by rw[ba (Xs (Xr (Xh q) i))];exact n
 ae:=λb u q _=>⟨u,k b u q⟩
 ai:=λb xs q=>by rw[ba (bH q d)];exact q
 af:=λb u xs q=>by rw[ba (bH q d)];exact q
 ah:=λb ps q=>⟨#[],by rw[ba (bH q d),q];simp⟩
theorem Un.ao (i:Nd (H x))(F:e=x\/H e=Y (.af x))(k:∀ b u,b≠e->h.get? b=Y u->h'.get? b=Y u)(j:∃ u,h'.get? e=Y u):Un fs ex H (m_ H x o) h h':=by
 have B:∀ b,H b=O->b≠x:=λb n z=>by subst z;rw[n]at i;exact i
 have D:∀ b,H b=O->b≠e:=λb n z=>by
  subst z;rcases F with r | r
  .exact B b n r
  .rw[n]at r;cases r
 have y:∀ b u,H b=Y u->¬ Nd (Y u)->b≠x:=λb u q nm z=>by subst z;rw[q]at i;exact nm i
 refine⟨λb u q n _ _=>k b u (D b n) q,λb u q n _ _=>⟨u.slots,k b u (D b n) q⟩,λb u q n _=>by rw[ba (B b n)];exact n,λb u q _=>?_,
  λb xs q=>by rw[ba (y b _ q λz=>z)];exact q,λb u xs q=>by rw[ba (y b _ q λz=>z)];exact q,λb ps q=>⟨#[],by rw[ba (y b _ q λz=>z),q];simp⟩⟩
 by_cases d:b=e
 .subst d;exact j
 .exact⟨u,k b u d q⟩
end
noncomputable def Qk (h:k_)(H:Hp):List Addr:=(C_ h.objs.size).filter λa=>(H a).isSome
def tR (h:k_)(H:Hp):Heap:=PySem.W.hideAll h (Qk h H)
theorem AH (h:k_)(H:Hp):(tR h H).objs.size=h.objs.size:=PySem.W.hideAll_size _ _
theorem Df {h:k_}{H:Hp}{b:J}{o:s_}(e:h.get? b=Y o)(n:H b=O):(tR h H).get? b=Y o:=
 PySem.W.hideAll_get _ e λd=>by
  have q:(H b).isSome=true:=(Zp.mp d).2;rw[n]at q;simp at q
theorem GS {h:k_}{H:Hp}{b:J}{o:s_}(e:(tR h H).get? b=Y o):h.get? b=Y o/\H b=none:=by
 have e':h.get? b=Y o:=PySem.W.of_hideAll (Qk h H) e;refine⟨e',?_⟩;cases q:H b with
 |none=>rfl
 |some x=>
  have d:b∈Qk h H:=Zp.mpr ⟨YM.mpr (Xh e'),by simp[q]⟩;have z:(tR h H).get? b=none:=PySem.W.hideAll_none (Qk h H) d;rw[z]at e;cases e
structure Mod (K:r_)(mg:M->Option R)(base:k_):Prop where
 aa:K.In base
 ab:base.Ns S_ mg
 af:∃ mb,base.Ns acg mb/\∀ x:M,x≠"__name__"->mb x=WO x
 ae:base.NoLimit
structure Cx where
 ab:y_
 w:v_
 K:r_
 mg:M->Option R
 ae:k_
 A:D_
 N:List M
 s₀:d_
 H₀:Hp
 aa:H_
 ah:List H_
 af:List H_
 ex:List J
 fn:M->Bool
 ag:Bool
 pn:List (J×s_)
 xe:R->d_->Prop
noncomputable def BU (l:List H_):List Addr:=l.filterMap (·.frame)
noncomputable abbrev Cx.fs (X:Cx):List Addr:=BU X.ah
def Qu (d:J')(x:M):Prop:=d.names.lookup x=Y .local\/d.names.lookup x=Y .cell\/d.names.lookup x=Y .free
def Loc (d:J')(x:M):Prop:=d.names.lookup x=Y .local\/d.names.lookup x=Y .cell
def Look (env:H_)(h:k_)(m:M->Option R)(x:M)(u:R):Prop:=
 (env.kindOf x=Y .local/\m x=Y u)\/((env.kindOf x=Y .cell\/env.kindOf x=Y .free)/\∃ c,env.cells.lookup x=Y c/\h.IsCell c (Y u))
structure Cx.Ok (X:Cx):Prop where
 af:Mod X.K X.mg X.ae
 aa:X.aa.scope.kind=.function
 ag:X.aa.globals=S_
 ao:X.aa.builtins=acg
 ab:X.s₀.heap.objs.size<=X.aa.locals
 inj:∀ x y c,X.aa.cells.lookup x=Y c->X.aa.cells.lookup y=Y c->x=y
 ar:∀ x,(X.aa.kindOf x=Y .cell\/X.aa.kindOf x=Y .free)->∃ c,X.aa.cells.lookup x=Y c
 ak:∀ x c,X.fn x=L->X.aa.cells.lookup x=Y c->X.s₀.heap.objs.size<=c
 hd:X.ag=L->X.A.handled=O
 ae:X.A.frames=Y X.af
 au:X.af=X.ah\/(X.af=X.aa::X.ah/\X.aa.frame=Y X.aa.locals)
 av:∀ b∈X.ex,b≠X.aa.locals/\∀ x c,X.aa.cells.lookup x=Y c->c≠b
 bs:∀ b o,X.ae.get? b=Y o->X.s₀.heap.get? b=Y o/\X.H₀ b=O
 ai:X.ae.objs.size<=X.s₀.heap.objs.size
 ah:∀ b o,X.ae.get? b=Y o->b∉X.ex
 aj:∀ b∈X.ex,b∉X.fs
 oR:X.s₀.heap.FunFrames X.ae X.ah
 aq:∀ b∈X.fs,X.H₀ b=O
structure f_ (X:Cx)(pins:List (J×s_))(σ:List (Option V))(H:Hp)(s:d_):Prop where
 ok:X.Ok
 os:s.os=X.s₀.os
 ak:YD s.gens
 ab:Un X.fs X.ex X.H₀ H X.s₀.heap s.heap
 au:∃ m,s.heap.Ns X.aa.locals m/\∀ (i:Nat) (x:M) (v:V),X.N[i]?=Y x->σ[i]?=Y (Y v)->Qu X.aa.scope x->∃ u,x_ v u/\Look X.aa s.heap m x u
 aq:∀ x c,X.aa.cells.lookup x=Y c->∃ v,s.heap.IsCell c v
 ar:H X.aa.locals=O
 ao:∀ x c,X.aa.cells.lookup x=Y c->H c=O
 av:∀ p∈X.pn++pins,s.heap.get? p.1=Y p.2/\H p.1=O/\p.1≠X.aa.locals/\p.1∉X.fs/\∀ v,p.2.data≠.cell v
 aa:f9 X.ab X.w H s.heap
 ax:σ.length=X.N.length
section
variable {X:Cx}{pins:List (J×s_)}{σ:List (Option V)}{H H':Hp}{s:d_}{h':k_}
theorem Cx.Ok.Ro (d:X.Ok){b:J}{o:s_}(e:X.ae.get? b=Y o):b∉X.fs:=λi=>by
 have:=(d.oR.mem i).1;rw[e]at this;cases this
theorem f_.bs (I:f_ X pins σ H s):∀ b o,X.ae.get? b=Y o->s.heap.get? b=Y o/\H b=none:=λb o e=>
 ⟨I.ab.ab b o (I.ok.bs b o e).1 (I.ok.bs b o e).2 (I.ok.Ro e) (I.ok.ah b o e),I.ab.aa b o (I.ok.bs b o e).1 (I.ok.bs b o e).2 (I.ok.ah b o e)⟩
theorem f_.bk (I:f_ X pins σ H s):∀ b o,X.ae.get? b=Y o->s.heap.get? b=Y o:=λb o e=>(I.bs b o e).1
theorem f_.aD (I:f_ X pins σ H s):Mod X.K X.mg X.ae:=I.ok.af
theorem f_.oE (I:f_ X pins σ H s):X.K.In s.heap:=I.ok.af.aa.keeps I.bk
theorem f_.lt (I:f_ X pins σ H s):X.aa.locals<s.heap.objs.size:=let ⟨_,hn,_⟩:=I.au;hn.lt
theorem f_.sz (I:f_ X pins σ H s):X.s₀.heap.objs.size<=s.heap.objs.size:=Xi I.ok.ab (Yn I.lt)
theorem f_.Rp (I:f_ X pins σ H s){a:J}(h:s.heap.objs.size<=a):a∉X.fs:=λd=>by
 obtain⟨_,o,i,_⟩:=I.ok.oR.mem d;exact absurd (Xr (Xh i) (Xi I.sz h)) (Zr _)
theorem f_.JF (I:f_ X pins σ H s):∀ x c,X.aa.cells.lookup x=Y c->c≠X.aa.locals:=λx c e z=>by
 obtain⟨v,o,j,n⟩:=I.aq x c e;obtain⟨m,⟨o',es,q,d,i,_⟩,_⟩:=I.au;rw[z,d]at j;rcases j;rw[i]at n;cases n
theorem f_.oR (I:f_ X pins σ H s):s.heap.FunFrames X.ae X.ah:=by
 have d:∀ (l:List H_),(∀ b∈BU l,b∈X.fs)->X.s₀.heap.FunFrames X.ae l->s.heap.FunFrames X.ae l:=by
  intro l
  induction l with
  |nil=>intro _ _;trivial
  |cons y r B=>
   intro q D;obtain⟨F,⟨afh,o,i,G,N,S⟩,U⟩:=D;have j:afh∈X.fs:=q afh (by unfold BU;rw[Zo,i];exact XI);obtain⟨Z,e⟩:=I.ab.ag afh o N (I.ok.aq afh j) j λz=>I.ok.aj afh z j
   exact⟨F,⟨afh,_,i,G,e,S⟩,B (λb n=>q b (by unfold BU;rw[Zo,i];exact Xt _ n)) U⟩
 exact d X.ah (λ_ n=>n) I.ok.oR
theorem f_.aE (I:f_ X pins σ H s):s.heap.FunFrames X.ae X.af:=by
 rcases I.ok.au with e | ⟨e,d⟩
 .rw[e];exact I.oR
 .rw[e];obtain⟨m,i,_⟩:=I.au;refine .cons (by rw[I.ok.aa];decide) d i ?_ I.oR;exact Heap.get?_none_of_le (Xi I.ok.ai I.ok.ab)
theorem f_.ym (I:f_ X pins σ H s):∀ b∈BU X.af,b∈X.aa.locals::X.fs:=λb d=>by
 rcases I.ok.au with e | ⟨e,i⟩
 .rw[e]at d;exact Xt _ d
 .rw[e]at d;unfold BU at d;rw[Zo,i]at d;exact d
theorem f_.zP (I:f_ X pins σ H s):∀ b∈BU X.af,H b=none:=λb hb=>by
 rcases Xj.mp (I.ym b hb) with e | hb
 .rw[e];exact I.ar
 .obtain⟨_,o,d,_⟩:=I.ok.oR.mem hb;exact I.ab.aa b o d (I.ok.aq b hb) λz=>I.ok.aj b z hb
theorem f_.az {g':Array GenState}{t':Nat}{d':Drawn}{ch:List J}(I:f_ X pins σ H s)
  (B:∀ b∈ch,(b∈X.ex\/X.s₀.heap.objs.size<=b)/\b≠X.aa.locals/\(∀ x c,X.aa.cells.lookup x=Y c->c≠b)/\∀ p∈X.pn++pins,p.1≠b)
  (D:∀ b o,b≠X.aa.locals->b∉X.fs->b∉ch->s.heap.get? b=Y o->H b=O->h'.get? b=Y o)
  (U:∀ b o,b≠X.aa.locals->b∈X.fs->b∉ch->s.heap.get? b=Y o->H b=O->∃ sl,h'.get? b=Y {o with slots:=sl}) (y:∀ b o,b∉ch->s.heap.get? b=Y o->H b=O->H' b=O)
  (Z:∀ b o,b∉ch->s.heap.get? b=Y o->∃ o',h'.get? b=Y o')
  (tups:∀ b xs,H b=Y (.ab xs)->H' b=Y (.ab xs)) (frzs:∀ b o u,H b=Y (.ji o u)->H' b=Y (.ji o u)) (tbls:∀ b ps,H b=Y (.Mj ps)->∃ more,H' b=Y (.Mj (ps++more)))
  (ns:∀ m,s.heap.Ns X.aa.locals m->h'.Ns X.aa.locals m) (hok:f9 X.ab X.w H' h') (hg:YD g') :
  f_ X pins σ H' {s with heap:=h',gens:=g',drawn:=d',toks:=t'}:=by
 have neL:∀ b o,X.s₀.heap.get? b=Y o->b≠X.aa.locals:=λb o e=>Xs (Xr (Xh e) I.ok.ab)
 have N:∀ b o,X.s₀.heap.get? b=Y o->b∉X.ex->b∉ch:=λb o e j hb=>by
  rcases(B b hb).1 with z | z
  .exact j z
  .exact absurd (Xr (Xh e) z) (Zr _)
 have F:∀ x c,X.aa.cells.lookup x=Y c->∀ v,s.heap.IsCell c v->h'.IsCell c v:=λx c e v ⟨o,ho,hd⟩=>by
  have G:c∉ch:=λz=>(B c z).2.2.1 x c e rfl
  by_cases hc:c∈X.fs
  .obtain⟨sl,q⟩:=U c o (I.JF x c e) hc G ho (I.ao x c e);exact⟨_,q,hd⟩
  .exact⟨o,D c o (I.JF x c e) hc G ho (I.ao x c e),hd⟩
 refine⟨I.ok,I.os,hg,⟨λb o e n hb j=>?_,λb o e n hb j=>?_,λb o e n j=>?_,λb o e j=>?_,λb xs e=>tups b xs (I.ab.ai b xs e),λb o xs e=>frzs b o xs (I.ab.af b o xs e),λb ps e=>?_⟩,?_,λx c e=>?_,?_,λx c e=>?_,λp hp=>?_,hok,I.ax⟩
 .exact D b o (neL b o e) hb (N b o e j) (I.ab.ab b o e n hb j) (I.ab.aa b o e n j)
 .obtain⟨sl,S⟩:=I.ab.ag b o e n hb j;obtain⟨VX,e2⟩:=U b _ (neL b o e) hb (N b o e j) S (I.ab.aa b o e n j);exact⟨VX,e2⟩
 .obtain⟨o',S⟩:=I.ab.ae b o e j;exact y b o' (N b o e j) S (I.ab.aa b o e n j)
 .obtain⟨o',S⟩:=I.ab.ae b o e j;exact Z b o' (N b o e j) S
 .obtain⟨m1,S⟩:=I.ab.ah b ps e;obtain⟨m2,e2⟩:=tbls b _ S;exact⟨m1++m2,by rw[e2,Array.append_assoc]⟩
 .obtain⟨m,hn,hl⟩:=I.au;refine⟨m,ns m hn,λi x v S e2 e3=>?_⟩;obtain⟨u,r,l⟩:=hl i x v S e2 e3;refine⟨u,r,?_⟩;rcases l with l | ⟨k,c,e,z⟩
  .exact .inl l
  .exact .inr ⟨k,c,e,F x c e _ z⟩
 .obtain⟨v,z⟩:=I.aq x c e;exact⟨v,F x c e v z⟩
 .obtain⟨m,⟨o,_,_,ho,_⟩,_⟩:=I.au;exact y _ o (λz=>(B _ z).2.1 rfl) ho I.ar
 .obtain⟨v,o,ho,hd⟩:=I.aq x c e;exact y c o (λz=>(B c z).2.2.1 x c e rfl) ho (I.ao x c e)
 .obtain⟨e,n,ne,nf,d⟩:=I.av p hp;have G:p.1∉ch:=λz=>(B p.1 z).2.2.2 p hp rfl
  exact⟨D p.1 p.2 ne nf G e n,y p.1 p.2 G e n,ne,nf,d⟩
theorem f_.un {t':Nat}(I:f_ X pins σ H s)(u:Un X.fs [] H H' s.heap h')(i:f9 X.ab X.w H' h'):f_ X pins σ H' {s with heap:=h',toks:=t'}:=by
 obtain⟨m,⟨o,es,N,B,r⟩,_⟩:=id I.au;obtain⟨S,D⟩:=u.ak B I.ar nofun;exact I.az (g':=s.gens) (d':=s.drawn) (ch:=[]) (λ_ z=>nomatch z) (λb o _ j _ e n=>u.ab b o e n j nofun) (λb o _ j _ e n=>u.ag b o e n j nofun) (λb o _ e n=>u.aa b o e n nofun) (λb o _ e=>u.ae b o e nofun) u.ai u.af u.ah (λU F=>by
  obtain⟨o',q,y,d,G⟩:=F;rw[B]at d;rcases d;exact⟨_,q,y,D,G⟩) i I.ak
theorem f_.aF {g':Array GenState}{t':Nat}{d':Drawn}{ch:List J}(I:f_ X pins σ H s)(u:Un (BU X.af) ch H H' s.heap h')(q:f9 X.ab X.w H' h')(G:YD g')
  (i:∀ b∈ch,(b∈X.ex\/X.s₀.heap.objs.size<=b)/\b≠X.aa.locals/\(∀ x c,X.aa.cells.lookup x=Y c->c≠b)/\∀ p∈X.pn++pins,p.1≠b) :
  f_ X pins σ H' {s with heap:=h',gens:=g',drawn:=d',toks:=t'}:=by
 obtain⟨m,⟨o,es,Z,F,r⟩,_⟩:=id I.au;obtain⟨sl,y⟩:=u.ak F I.ar λz=>(i _ z).2.1 rfl
 exact I.az (ch:=ch) i (λb o y N d e n=>u.ab b o e n (λz=>(Xj.mp (I.ym b z)).elim y N) d) (λb o _ _ d e n=>u.ak e n d) (λb o d e n=>u.aa b o e n d) (λb o d e=>u.ae b o e d) u.ai u.af u.ah (λm' S=>by
  obtain⟨o',B,D,j,U⟩:=S;rw[F]at j;rcases j;exact⟨_,B,D,y,U⟩) q G
theorem f_.ah {t':Nat}{it:J}(I:f_ X pins σ H s)(k:∀ b o,b≠it->s.heap.get? b=Y o->h'.get? b=Y o)(y:H it=O)(j:it≠X.aa.locals)
  (h1:it∈X.ex\/X.s₀.heap.objs.size<=it) (h2:∀ x c,X.aa.cells.lookup x=Y c->c≠it) (B:∀ p∈X.pn++pins,p.1≠it):f_ X pins σ H {s with heap:=h',toks:=t'}:=by
 have i:∀ b u,H b=Y u->b≠it:=λb u e z=>by rw[z,y]at e;cases e
 refine I.az (g':=s.gens) (d':=s.drawn) (ch:=[it]) (λb D=>?_) (λb o _ _ d e _=>k b o (λz=>d (by simp[z])) e) (λb o _ _ d e _=>⟨o.slots,k b o (λz=>d (by simp[z])) e⟩) (λ_ _ _ _ n=>n)
  (λb o d e=>⟨o,k b o (λz=>d (by simp[z])) e⟩) (λ_ _ e=>e) (λ_ _ _ e=>e) (λb ps e=>⟨#[],by rw[e];simp⟩) (λm F=>?_) (λb u e=>?_) I.ak
 .have e:b=it:=by simpa using D
  subst e;exact⟨h1,j,h2,B⟩
 .obtain⟨o,es,G,N,r⟩:=F;exact⟨o,es,G,k _ o (R' j) N,r⟩
 .refine(I.aa b u e).By (λc v d q=>k c v ?_ q) (λ_ q=>q) λ_ _ q=>q
  rcases d with z | z
  .rw[z];exact i b u e
  .exact i c _ z
theorem f_.af (I:f_ X pins σ H s)(t:Nat):f_ X pins σ H {s with toks:=t}:=I.un (h':=s.heap) (t':=t) Un.ar I.aa
theorem f_.ai {t':Nat}(I:f_ X pins σ H s)(k:∀ b u,s.heap.get? b=Y u->h'.get? b=Y u):f_ X pins σ H {s with heap:=h',toks:=t'}:=I.un (Un.aj k) (I.aa.ab k)
theorem f_.ag {a:J}{o:HO}{t':Nat}(I:f_ X pins σ H s)(k:∀ b u,s.heap.get? b=Y u->h'.get? b=Y u)(d:s.heap.objs.size<=a)(i:dc X.ab X.w (m_ H a o) h' a o) :
  f_ X pins σ (m_ H a o) {s with heap:=h',toks:=t'}:=I.un (Un.aq k d (I.aa.aa d)) (I.aa.af k d i)
theorem f_.aw {x e:J}{o:HO}{t':Nat}(I:f_ X pins σ H s)(j:Nd (H x))(n:e=x\/H e=Y (.af x))(k:∀ b u,b≠e->s.heap.get? b=Y u->h'.get? b=Y u)(d:∃ u,h'.get? e=Y u)
  (i:dc X.ab X.w (m_ H x o) h' x o):f_ X pins σ (m_ H x o) {s with heap:=h',toks:=t'}:=I.un (Un.ao j n k d) (I.aa.ae j n k d i)
theorem f_.zC {d:List (J×s_)}(I:f_ X pins σ H s)(h:∀ p∈d,s.heap.get? p.1=Y p.2/\H p.1=O/\p.1≠X.aa.locals/\p.1∉X.fs/\∀ v,p.2.data≠.cell v):f_ X d σ H s:=
 ⟨I.ok,I.os,I.ak,I.ab,I.au,I.aq,I.ar,I.ao,λp i=>(XG.mp i).elim (λz=>I.av p (abn _ z)) (h p),I.aa,I.ax⟩
theorem vJ {N:List M}(d:N.Nodup){i j:Nat}{x:M}(a:N[i]?=Y x)(b:N[j]?=Y x):i=j:=by
 obtain⟨h1,n⟩:=W2.mp a;obtain⟨h2,q⟩:=W2.mp b;exact(List.getElem_inj d).mp (n.trans q.symm)
theorem sy {aff:Model}{A:D_}{E:R->d_->Prop}{i:Nat}{x:M}{v:V}{u:R}{Q:Unit->d_->Prop}(I:f_ X pins σ H s)(hN:X.N.Nodup)(hi:X.N[i]?=Y x)(G:Loc X.aa.scope x)(r:x_ v u)
  (h:∀ s',f_ X pins (σ.set i (Y v)) H s'->(∃ a,YU a s.heap s'.heap/\(a=X.aa.locals\/X.aa.cells.lookup x=Y a))->Q () s') (hf:X.fn x=L\/X.aa.scope.names.lookup x=Y .local:=by first | exact .inl rfl | exact .inr rfl | assumption):g_ aff A (storeName X.aa x u) Q E s:=by
 obtain⟨m,hn,hl⟩:=id I.au;have QP:(X.aa.scope.kind == .class || (X.aa.scope.kind == .module&&X.aa.locals != X.aa.globals))=false:=by rw[I.ok.aa];rfl
 have Z:i<σ.length:=by rw[I.ax];exact(W2.mp hi).1
 have JF:=I.JF;have D:∀ {a:J}{h':k_},(∃ o,s.heap.get? a=Y o/\H a=O)->YU a s.heap h'->f9 X.ab X.w H h':=λ{a h'} ha B b ob e=>by
  obtain⟨_,_,S⟩:=ha;refine(I.aa b ob e).By (λc w' hc q=>(B.2 c ?_).trans q) (λ_ q=>q) λ_ _ q=>q
  rintro rfl;rcases hc with rfl | hc
  .rw[S]at e;cases e
  .rw[S]at hc;cases hc
 rcases G with hk | hk
 .refine wpAny_storeName_local hk hn (λh' MM B=>?_) QP;obtain⟨oL,_,_,U8,_⟩:=id hn;refine h _ ⟨I.ok,I.os,I.ak,⟨λb o e n hb G=>?_,λb o e n hb G=>?_,I.ab.aa,λb o e G=>?_,I.ab.ai,I.ab.af,I.ab.ah⟩,⟨_,MM,λj y v' F U e3=>?_⟩,λy c e=>?_,I.ar,I.ao,λp hp=>?_,D ⟨oL,U8,I.ar⟩ B,by simpa using I.ax⟩ ⟨_,B,.inl rfl⟩
  .exact(B.2 b (Xs (Xr (Xh e) I.ok.ab))).trans (I.ab.ab b o e n hb G)
  .obtain⟨sl,F⟩:=I.ab.ag b o e n hb G;exact⟨sl,(B.2 b (Xs (Xr (Xh e) I.ok.ab))).trans F⟩
  .obtain⟨o',F⟩:=I.ab.ae b o e G;exact⟨o',(B.2 b (Xs (Xr (Xh e) I.ok.ab))).trans F⟩
  .by_cases hj:j=i
   .subst hj;rw[hi]at F;rcases F;rw[XC Z]at U;cases U;exact⟨u,r,.inl ⟨hk,by simp⟩⟩
   .rw[W9 (R' hj)]at U;obtain⟨u',r',q⟩:=hl j y v' F U e3;refine⟨u',r',?_⟩;rcases q with⟨k,e⟩ | ⟨k,c,e,z⟩
    .refine .inl ⟨k,?_⟩;have:y≠x:=λe=>hj (vJ hN F (e▸hi))
     simp[this,e]
    .exact .inr ⟨k,c,e,z.sameBut B (JF y c e)⟩
  .obtain⟨w',z⟩:=I.aq y c e;exact⟨w',z.sameBut B (JF y c e)⟩
  .obtain⟨e,n,ne,nf,d⟩:=I.av p hp;exact⟨(B.2 p.1 ne).trans e,n,ne,nf,d⟩
 .have QR:X.fn x=true:=by
   rcases hf with z | z
   .exact z
   .rw[z]at hk;cases hk
  obtain⟨c,hc⟩:=I.ok.ar x (.inl hk);obtain⟨w',z⟩:=I.aq x c hc;refine wpAny_storeName_cell I.ok.aa hk hc z (λh' IQ B=>?_);obtain⟨oc,S9,QW⟩:=id z;refine h {s with heap:=h'} ⟨I.ok,I.os,I.ak,⟨λb o e n hb G=>?_,λb o e n hb G=>?_,I.ab.aa,λb o e G=>?_,I.ab.ai,I.ab.af,I.ab.ah⟩,⟨m,hn.sameBut B (R' (JF x c hc)),λj y v' F U e3=>?_⟩,λy c' e=>?_,I.ar,I.ao,λp hp=>?_,D ⟨oc,S9,I.ao x c hc⟩ B,by simpa using I.ax⟩ ⟨c,B,.inr hc⟩
  .exact(B.2 b (Xs (Xr (Xh e) (I.ok.ak x c QR hc)))).trans (I.ab.ab b o e n hb G)
  .obtain⟨sl,F⟩:=I.ab.ag b o e n hb G;exact⟨sl,(B.2 b (Xs (Xr (Xh e) (I.ok.ak x c QR hc)))).trans F⟩
  .obtain⟨o',F⟩:=I.ab.ae b o e G;exact⟨o',(B.2 b (Xs (Xr (Xh e) (I.ok.ak x c QR hc)))).trans F⟩
  .by_cases hj:j=i
   .subst hj;rw[hi]at F;rcases F;rw[XC Z]at U;cases U;exact⟨u,r,.inr ⟨.inl hk,c,hc,IQ⟩⟩
   .rw[W9 (R' hj)]at U;obtain⟨u',r',q⟩:=hl j y v' F U e3;refine⟨u',r',?_⟩;rcases q with q | ⟨k,c',e,z'⟩
    .exact .inl q
    .refine .inr ⟨k,c',e,z'.sameBut B ?_⟩;rintro rfl;exact hj (vJ hN F (I.ok.inj _ _ _ e hc▸hi))
  .by_cases S6:c'=c
   .subst S6;exact⟨_,IQ⟩
   .obtain⟨w2,z2⟩:=I.aq y c' e;exact⟨w2,z2.sameBut B S6⟩
  .obtain⟨e,n,ne,nf,d⟩:=I.av p hp;refine⟨(B.2 p.1 ?_).trans e,n,ne,nf,d⟩;intro q;rw[q,S9]at e;have q':oc=p.2:=Xe e;exact d w' (by rw[<-q'];exact QW)
theorem v7 {aff:Model}{A:D_}{E:R->d_->Prop}{i:Nat}{x:M}{v:V}{u:R}{Q:Unit->d_->Prop}(I:f_ X pins σ H s)(d:X.N.Nodup)(hi:X.N[i]?=Y x)(j:Loc X.aa.scope x)(r:x_ v u)
  (h:∀ s',f_ X pins (σ.set i (Y v)) H s'->Q () s') (n:X.fn x=L\/X.aa.scope.names.lookup x=Y .local:=by first | exact .inl rfl | exact .inr rfl | assumption):g_ aff A (storeName X.aa x u) Q E s:=
 sy I d hi j r (λs' q _=>h s' q) n
theorem f_.ID {s':d_}{ch:List J}(I:f_ X pins σ H s)(j:s'.os=s.os)(u:Un (BU X.af) ch H H' s.heap s'.heap)(d:f9 X.ab X.w H' s'.heap)(n:YD s'.gens)
  (i:∀ b∈ch,(b∈X.ex\/X.s₀.heap.objs.size<=b)/\b≠X.aa.locals/\(∀ x c,X.aa.cells.lookup x=Y c->c≠b)/\∀ p∈X.pn++pins,p.1≠b):f_ X pins σ H' s':=by
 obtain⟨h',g',d',t',o'⟩:=s';have e:o'=s.os:=j;subst e;exact I.aF (g':=g') (t':=t') (d':=d') u d n i
end
abbrev XK:=R->Option J->Hp->Prop
abbrev St:=List (Option V)
abbrev VK:=V->Hp->Prop
abbrev TE:=St->Hp->VK->Prop
abbrev TT:=St->Hp->(Bool->Hp->Prop)->Prop
abbrev TA:=St->Hp->(List V->Hp->Prop)->Prop
structure YK where
 nx:St->Hp->Prop
 rt:VK
 bk:St->Hp->Prop:=λ_ _=>False
 ct:St->Hp->Prop:=λ_ _=>False
abbrev TS:=YK->St->Hp->Prop
def EP (X:Cx)(pins:List (J×s_))(σ:St)(Q:VK)(u:R)(s':d_):Prop:=∃ v H',f_ X pins σ H' s'/\x_ v u/\Q v H'
def TP (X:Cx)(pins:List (J×s_))(σ:St)(Q:Bool->Hp->Prop)(b:Bool)(s':d_):Prop:=∃ H',f_ X pins σ H' s'/\Q b H'
def AP (X:Cx)(pins:List (J×s_))(σ:St)(Q:List V->Hp->Prop)(us:List R)(s':d_):Prop:=∃ d H',f_ X pins σ H' s'/\x' d us/\Q d H'
def SP (X:Cx)(pins:List (J×s_))(D:YK)(f:Flow)(s':d_):Prop:=
 match f with
 |.next=>∃ d H',f_ X pins d H' s'/\D.nx d H'
 |.brk=>∃ d H',f_ X pins d H' s'/\D.bk d H'
 |.cont=>∃ d H',f_ X pins d H' s'/\D.ct d H'
 |.ret u=>∃ v d H',f_ X pins d H' s'/\x_ v u/\D.rt v H'
def PE (X:Cx)(e:e_)(t:TE):Prop:=
 ∀ (pins:List (J×s_)) (s:d_) (σ:St) (H:Hp) (Q:VK),f_ X pins σ H s->t σ H Q->g_ (i' X.ab X.w) X.A (z_ e X.aa) (EP X pins σ Q) X.xe s
def PT (X:Cx)(e:e_)(t:TT):Prop:=
 ∀ (pins:List (J×s_)) (s:d_) (σ:St) (H:Hp) (Q:Bool->Hp->Prop),f_ X pins σ H s->t σ H Q->g_ (i' X.ab X.w) X.A (Z6 e X.aa (z_ e X.aa)) (TP X pins σ Q) X.xe s
def PW (X:Cx)(e:e_)(t:TT):Prop:=
 ∀ (d:U' R) (pins:List (J×s_)) (s:d_) (σ:St) (H:Hp) (Q:Bool->Hp->Prop),f_ X pins σ H s->t σ H Q->g_ (i' X.ab X.w) X.A (Z6 e X.aa d) (TP X pins σ Q) X.xe s
theorem PW.pt {X:Cx}{e:e_}{t:TT}(h:PW X e t):PT X e t:=h _
def PA (X:Cx)(es:List e_)(t:TA):Prop:=
 ∀ (pos:u_) (pins:List (J×s_)) (s:d_) (σ:St) (H:Hp) (Q:List V->Hp->Prop),f_ X pins σ H s->t σ H Q->g_ (i' X.ab X.w) X.A (spliced (P_ pos (D' es X.aa))) (AP X pins σ Q) X.xe s
def PS (X:Cx)(st:E_)(t:TS):Prop:=
 ∀ (pins:List (J×s_)) (s:d_) (σ:St) (H:Hp) (D:YK),f_ X pins σ H s->t D σ H->g_ (i' X.ab X.w) X.A (exec st X.aa) (SP X pins D) X.xe s
def yG (X:Cx)(st:List E_)(t:TS):Prop:=
 ∀ (pins:List (J×s_)) (s:d_) (σ:St) (H:Hp) (D:YK),f_ X pins σ H s->t D σ H->g_ (i' X.ab X.w) X.A (execs st X.aa) (SP X pins D) X.xe s
theorem b6 {d:Type}{t:U' d}{Q i:d->d_->Prop}{aff:Model}{A:D_}{E:R->d_->Prop}{s:d_}(h:g_ aff A t Q E s)(j:∀ a s,Q a s->i a s):g_ aff A t i E s:=XM h j λ_ _ x=>x
section
variable {X:Cx}
theorem bin {a b:e_}{ta tb:TE}(q:PE X a ta)(hb:PE X b tb){pins:List (J×s_)}{s:d_}{σ:St}{H:Hp}{afi:V->V->Hp->Prop}(I:f_ X pins σ H s)(h:ta σ H λx H1=>tb σ H1 λy H2=>afi x y H2)
  {n:Type} {Q:n->d_->Prop} {f:R->R->U' n}
  (z:∀ v u j x y H2,f_ X pins σ H2 j->x_ x v->x_ y u->afi x y H2->g_ (i' X.ab X.w) X.A (f v u) Q X.xe j) :
  g_ (i' X.ab X.w) X.A (z_ a X.aa) (λv d=>g_ (i' X.ab X.w) X.A (z_ b X.aa) (λu i=>g_ (i' X.ab X.w) X.A (f v u) Q X.xe i) X.xe d) X.xe s:=by
 refine b6 (q pins s σ H _ I h) λv B ⟨x,H1,D,F,G⟩=>?_
 refine b6 (hb pins B σ H1 _ D G) λu j ⟨y,H2,N,S,U⟩=>?_
 exact z v u j x y H2 N F S U
def Mh (i:Nat):TE:=λσ H Q=>∃ v,σ[i]?=Y (Y v)/\Q v H
def tC (v:V):TE:=λ_ H Q=>Q v H
theorem KW {i:Nat}{x:M}{pos:u_}(z:X.N[i]?=Y x)(B:Qu X.aa.scope x)(n:(x == ("__debug__":M))=false:=by decide)(q:(x == ("__classdict__":M))=false:=by decide):PE X (.Name x pos) (Mh i):=by
 intro pins s σ H Q I h;obtain⟨v,e,h⟩:=h;obtain⟨m,D,F⟩:=I.au;obtain⟨u,r,l⟩:=F i x v z e B;have j:EP X pins σ Q u s:=⟨v,H,I,r,h⟩;rcases l with⟨hk,G⟩ | ⟨hk,c,y,d⟩
 .exact ab6 (wpAny_loadName_local I.ok.aa hk D G j) n
 .rcases hk with hk | hk
  .exact ab6 (wpAny_loadName_cell I.ok.aa hk y d j) n
  .exact ab6 (wpAny_loadName_free I.ok.aa hk y d j q) n
theorem KN {i j pos}:PE X (.Constant (.int i) j pos) (tC (.ab i)):=λ_ _ _ H _ I h=>wpAny_Constant_int ⟨.ab i,H,I.af _,⟨_,rfl⟩,h⟩
theorem N8 {b j pos}:PE X (.Constant (.bool b) j pos) (tC (.bl b)):=λ_ _ _ H _ I h=>Constant_bool ⟨.bl b,H,I,rfl,h⟩
theorem KP {j pos}:PE X (.Constant .none j pos) (tC .aQ):=λ_ _ _ H _ I h=>Constant_none ⟨.aQ,H,I,rfl,h⟩
theorem KS {x j pos}:PE X (.Constant (.str x) j pos) (tC (.ae x)):=λ_ _ _ H _ I h=>Calls.Constant_str ⟨.ae x,H,I.af _,⟨_,rfl⟩,h⟩
def Gl (X:Cx)(x:M):Prop:=X.aa.kindOf x=Y .globalImplicit
theorem tW {E:R->d_->Prop}{pins:List (J×s_)}{s:d_}{σ:St}{H:Hp}{x:M}{u:R}{pos:u_}{Q:R->d_->Prop}(I:f_ X pins σ H s)(d:Gl X x)(i:X.mg x=Y u)(h:Q u s)
  (j:(x == ("__debug__":M))=false:=by decide):g_ (i' X.ab X.w) X.A (z_ (.Name x pos) X.aa) Q E s:=
 ady I.ok.aa d (Calls.loadGlobal_global (by rw[I.ok.ag];exact I.aD.ab.keeps I.bk) i h) j
theorem jM {E:R->d_->Prop}{pins:List (J×s_)}{s:d_}{σ:St}{H:Hp}{x:M}{u:R}{pos:u_}{Q:R->d_->Prop}(I:f_ X pins σ H s)(d:Gl X x)(i:X.mg x=O)(j:WO x=Y u)(h:Q u s)
  (n:x≠"__name__":=by decide) (q:(x == ("__debug__":M))=false:=by decide):g_ (i' X.ab X.w) X.A (z_ (.Name x pos) X.aa) Q E s:=by
 obtain⟨y,h1,h2⟩:=I.aD.af;exact ady I.ok.aa d (Calls.loadGlobal_builtin (by rw[I.ok.ag];exact I.aD.ab.keeps I.bk) i (by rw[I.ok.ao];exact h1.keeps I.bk) ((h2 x n).trans j) h) q
theorem G0 {x:M}{v:V}{u:R}{pos:u_}(d:Gl X x)(i:X.mg x=O)(j:WO x=Y u)(r:x_ v u)(n:x≠"__name__":=by decide)(q:(x == ("__debug__":M))=false:=by decide):PE X (.Name x pos) (tC v):=
 λ_ _ _ H _ I h=>jM I d i j ⟨v,H,I,r,h⟩ n q
variable {a b:e_}{ta tb:TE}{pos:u_}
def PC (X:Cx)(op:X_)(a b:e_)(t:TE):Prop:=
 ∀ (pins:List (J×s_)) (s:d_) (σ:St) (H:Hp) (Q:VK),f_ X pins σ H s->t σ H Q->
  g_ (i' X.ab X.w) X.A (z_ a X.aa) (λv d=>g_ (i' X.ab X.w) X.A (z_ b X.aa) (λu i=>g_ (i' X.ab X.w) X.A (WQ op v u) (EP X pins σ Q) X.xe i) X.xe d) X.xe s
def tB (t:TE):TT:=λσ H Q=>t σ H λx H1=>∃ c,x=.bl c/\Q c H1
theorem KJ {op:X_}{t:TE}(h:PC X op a b t)(h1:Z4 op b=false:=by first | exact d _ ∅ ∅ | rfl):PE X (.Compare a [op] [b] pos) t:=λpins s σ H Q I i=>wpAny_Compare1 (h pins s σ H Q I i) h1
theorem Lc {op:X_}{t:TE}(h:PC X op a b t)(h1:Z4 op b=false:=by first | exact nobehind _ ∅ ∅ | rfl):PT X (.Compare a [op] [b] pos) (tB t):=by
 intro pins s σ H Q I i;refine aey (b6 (h pins s σ H _ I i) λv z h1=>b6 h1 λu B h2=>b6 h2 λc D ⟨x,H1,j,n,y⟩=>?_) h1;obtain⟨d,rfl,q⟩:=y;cases n;exact Zw ⟨H1,j,q⟩
variable {tA Qj:TT}{rest:List e_}
def L6 (t u:TT):TT:=λσ H Q=>t σ H λc H1=>if c=L then u σ H1 Q else Q b_ H1
def Sl (t u:TT):TT:=λσ H Q=>t σ H λc H1=>if c=L then Q L H1 else u σ H1 Q
def Mc (t:TT):TT:=λσ H Q=>t σ H λc H1=>Q (!c) H1
theorem acs (d:PT X a tA):PW X (.BoolOp .And [a] pos) tA:=by
 intro i pins s σ H Q I h;refine isTrue_and (b6 (d pins s σ H Q I h) λc j e=>?_);cases c with
 |true=>exact isTrue_and_nil e
 |false=>exact e
theorem acx (d:PT X a tA):PW X (.BoolOp .Or [a] pos) tA:=by
 intro i pins s σ H Q I h;refine isTrue_or (b6 (d pins s σ H Q I h) λc j e=>?_);cases c with
 |false=>exact isTrue_or_nil e
 |true=>exact e
theorem acw (j:PT X a tA)(hb:PW X (.BoolOp .And (b::rest) pos) Qj):PW X (.BoolOp .And (a::b::rest) pos) (L6 tA Qj):=by
 intro n pins s σ H Q I h;refine isTrue_and (b6 (j pins s σ H _ I h) λc q ⟨H1,d,i⟩=>?_);cases c with
 |true=>exact hb n pins q σ H1 Q d i
 |false=>exact⟨H1,d,i⟩
theorem acD (j:PT X a tA)(hb:PW X (.BoolOp .Or (b::rest) pos) Qj):PW X (.BoolOp .Or (a::b::rest) pos) (Sl tA Qj):=by
 intro n pins s σ H Q I h;refine isTrue_or (b6 (j pins s σ H _ I h) λc q ⟨H1,d,i⟩=>?_);cases c with
 |true=>exact⟨H1,d,i⟩
 |false=>exact hb n pins q σ H1 Q d i
theorem Ld (d:PT X a tA):PT X (.UnaryOp .Not a pos) (Mc tA):=by
 intro pins s σ H Q I h;exact isTrue_not (d pins s σ H (λc H1=>Q (!c) H1) I h)
def E9 (ta tb:TE):TE:=λσ H Q=>ta σ H λx H1=>∃ c,x=.bl c/\if c=L then tb σ H1 Q else Q (.bl b_) H1
def Md (ta tb:TE):TE:=λσ H Q=>ta σ H λx H1=>∃ c,x=.bl c/\if c=L then Q (.bl L) H1 else tb σ H1 Q
def Fj (ta:TE):TE:=λσ H Q=>ta σ H λx H1=>∃ c,x=.bl c/\Q (.bl (!c)) H1
theorem KR {op}{t:TE}(h:PE X a t):PE X (.BoolOp op [a] pos) t:=λpins s σ H Q I d=>BoolOp_one (h pins s σ H Q I d)
theorem KI (j:PE X a ta)(hb:PE X (.BoolOp .And (b::rest) pos) tb):PE X (.BoolOp .And (a::b::rest) pos) (E9 ta tb):=by
 intro pins s σ H Q I h;refine BoolOp_and (b6 (j pins s σ H _ I h) λv n ⟨x,H1,i,q,d⟩=>?_);obtain⟨c,rfl,d⟩:=d;cases q;refine Zw ?_;cases c with
 |true=>exact hb pins n σ H1 Q i d
 |false=>exact⟨.bl b_,H1,i,rfl,d⟩
theorem vM (j:PE X a ta)(hb:PE X (.BoolOp .Or (b::rest) pos) tb):PE X (.BoolOp .Or (a::b::rest) pos) (Md ta tb):=by
 intro pins s σ H Q I h;refine BoolOp_or (b6 (j pins s σ H _ I h) λv n ⟨x,H1,i,q,d⟩=>?_);obtain⟨c,rfl,d⟩:=d;cases q;refine Zw ?_;cases c with
 |false=>exact hb pins n σ H1 Q i d
 |true=>exact⟨.bl L,H1,i,rfl,d⟩
theorem KQ (i:PE X a ta):PE X (.UnaryOp .Not a pos) (Fj ta):=by
 intro pins s σ H Q I h;refine UnaryOp_ (b6 (i pins s σ H _ I h) λv q ⟨x,H1,j,n,d⟩=>?_);obtain⟨c,rfl,d⟩:=d;cases n;exact not_of (Zw ⟨.bl (!c),H1,j,rfl,d⟩)
def Sk (t:TT)(ta tb:TE):TE:=λσ H Q=>t σ H λc H1=>if c=L then ta σ H1 Q else tb σ H1 Q
theorem Ea {c:e_}(q:PT X c tA)(y:PE X a ta)(hb:PE X b tb):PE X (.IfExp c a b pos) (Sk tA ta tb):=by
 intro pins s σ H Q I h;refine wpAny_IfExp (b6 (q pins s σ H _ I h) λd i ⟨H1,j,n⟩=>?_);cases d with
 |true=>exact y pins i σ H1 Q j n
 |false=>exact hb pins i σ H1 Q j n
end
def gm (K:r_)(H:Hp)(a:J)(xs:List V):Prop:=
 Rd H a (.aa xs)\/
  ∃ (o:s_) (d:Array R) (n:Nat),K.lookup a=Y o/\o.cls=.type "list"/\o.dict=O/\o.data=.seq d n/\d.size<=p'/\x' xs d.toList
def eV (K:r_)(H:Hp)(a:J)(xs:List V):Prop:=
 Rd H a (.ab xs)\/
  ∃ (o:s_) (d:Array R) (n:Nat),K.lookup a=Y o/\o.cls=.type "tuple"/\o.data=.seq d n/\d.size<=p'/\x' xs d.toList
noncomputable def Qv:R->Option V
 |.none=>Y .aQ
 |.bool b=>Y (.bl b)
 |.int i _=>Y (.ab i)
 |.str x _=>Y (.ae x)
 |.bytes b _=>Y (.MD b)
 |.float b _=>Y (.JK b)
 |.ref a=>Y (.aa a)
 |.type n=>Y (.ty n)
 |_=>O
theorem x_.aa {x:V}{u:R}(r:x_ x u):Qv u=Y x:=by
 cases x with
 |aQ=>cases r;rfl
 |bl _=>cases r;rfl
 |ab _=>obtain⟨t,rfl⟩:=r;rfl
 |ae _=>obtain⟨t,rfl⟩:=r;rfl
 |MD _=>obtain⟨t,rfl⟩:=r;rfl
 |JK _=>obtain⟨t,rfl⟩:=r;rfl
 |aa _=>cases r;rfl
 |ty _=>cases r;rfl
theorem x_.inj {x y:V}{u:R}(r:x_ x u)(q:x_ y u):x=y:=Xe (r.aa.symm.trans q.aa)
theorem x'.inj:∀ {xs ys:List V}{us:List R},x' xs us->x' ys us->xs=ys
 |_,_,_,.nil,.nil=>rfl
 |_,_,_,.cons r t,.cons d i=>by rw[r.inj d,x'.inj t i]
section
variable {X:Cx}{pins:List (J×s_)}{σ:St}{H:Hp}{s:d_}{a:J}{xs ys:List V}
theorem gm.of {K:r_}(h:H a=Y (.aa xs)):gm K H a xs:=.inl (.inl h)
theorem eV.of {K:r_}(h:H a=Y (.ab xs)):eV K H a xs:=.inl (.inl h)
theorem f_.aj (I:f_ X pins σ H s)(h:gm X.K H a xs):∃ its:List R,x' xs its/\PlainL s.heap a its.toArray/\xs.length<=sizeLine:=by
 rcases h with h | ⟨o,its,n,d,i,j,q,hz,r⟩
 .obtain⟨z,its,n,r,e⟩:=h.ok I.aa;exact⟨its,r,⟨_,n,e,rfl,rfl,rfl⟩,z⟩
 .refine⟨its.toList,r,⟨o,n,I.oE a o d,i,j,by simpa using q⟩,?_⟩;have e:=r.aa;simp only[ZF]at e;lia
theorem f_.ae (I:f_ X pins σ H s)(h:eV X.K H a xs):∃ its:List R,x' xs its/\Yq s.heap a its.toArray/\xs.length<=sizeLine:=by
 rcases h with h | ⟨o,its,n,d,i,j,hz,r⟩
 .obtain⟨z,its,r,p⟩:=h.ok I.aa;exact⟨its,r,p.aa,z⟩
 .refine⟨its.toList,r,⟨o,I.oE a o d,i,n,by simpa using j⟩,?_⟩;have e:=r.aa;simp only[ZF]at e;lia
theorem f_.DA (I:f_ X pins σ H s)(h:gm X.K H a xs)(h':gm X.K H a ys):xs=ys:=by
 obtain⟨i,r,⟨o,n,e,_,_,d⟩,_⟩:=I.aj h;obtain⟨its',y,⟨o',B,j,_,_,q⟩,_⟩:=I.aj h';rw[e]at j;rcases j;rw[d]at q;injection q with z _;have:i=its':=by simpa using congrArg abA z
 subst this;exact r.inj y
theorem f_.n3 (I:f_ X pins σ H s)(h:eV X.K H a xs)(h':eV X.K H a ys):xs=ys:=by
 obtain⟨i,r,⟨o,e,_,n,d⟩,_⟩:=I.ae h;obtain⟨its',y,⟨o',j,_,B,q⟩,_⟩:=I.ae h';rw[e]at j;rcases j;rw[d]at q;injection q with z _;have:i=its':=by simpa using congrArg abA z
 subst this;exact r.inj y
end
abbrev Cx.qV (X:Cx)(E:R->d_->Prop):Cx:={X with xe:=E}
abbrev Cx.N2 (X:Cx):Cx:=X.qV λ_ _=>False
theorem Cx.Ok.qV {X:Cx}(d:X.Ok)(E:R->d_->Prop):(X.qV E).Ok:=
 ⟨d.af,d.aa,d.ag,d.ao,d.ab,d.inj,d.ar,d.ak,d.hd,d.ae,d.au,d.av,d.bs,d.ai,d.ah,d.aj,d.oR,d.aq⟩
theorem Cx.Ok.j4 {X:Cx}{E:R->d_->Prop}(d:(X.qV E).Ok):X.Ok:=
 ⟨d.af,d.aa,d.ag,d.ao,d.ab,d.inj,d.ar,d.ak,d.hd,d.ae,d.au,d.av,d.bs,d.ai,d.ah,d.aj,d.oR,d.aq⟩
section
variable {X:Cx}{pins:List (J×s_)}{σ:St}{H:Hp}{s:d_}{E:R->d_->Prop}
theorem f_.qV (I:f_ X pins σ H s)(E:R->d_->Prop):f_ (X.qV E) pins σ H s:=⟨I.ok.qV E,I.os,I.ak,I.ab,I.au,I.aq,I.ar,I.ao,I.av,I.aa,I.ax⟩
theorem f_.j4 (I:f_ (X.qV E) pins σ H s):f_ X pins σ H s:=⟨I.ok.j4,I.os,I.ak,I.ab,I.au,I.aq,I.ar,I.ao,I.av,I.aa,I.ax⟩
theorem SP.j4 {D:YK}{f:Flow}{s':d_}(h:SP (X.qV E) pins D f s'):SP X pins D f s':=by
 cases f with
 |next=>obtain⟨d,H',I,q⟩:=h;exact⟨d,H',I.j4,q⟩
 |brk=>obtain⟨d,H',I,q⟩:=h;exact⟨d,H',I.j4,q⟩
 |cont=>obtain⟨d,H',I,q⟩:=h;exact⟨d,H',I.j4,q⟩
 |ret u=>obtain⟨v,d,H',I,r,q⟩:=h;exact⟨v,d,H',I.j4,r,q⟩
theorem yG.N2 {st:List E_}{t:TS}(h:yG X.N2 st t):yG X st t:=λpins s σ H D I d=>
 XM (h pins s σ H D (I.qV _) d) (λ_ _ q=>q.j4) λ_ _ z=>M' z
end
section
variable {X:Cx}{st:E_}{rest:List E_}{t u:TS}{e:e_}{te:TE}{pos:u_}
def Fi:TS:=λD σ H=>D.nx σ H
def Mf (t u:TS):TS:=λD σ H=>t {D with nx:=u D} σ H
theorem He:yG X [] Fi:=λ_ _ σ H _ I h=>aaS ⟨σ,H,I,h⟩
theorem Em (h1:PS X st t)(h2:yG X rest u):yG X (st::rest) (Mf t u):=by
 intro pins s σ H D I h;refine aew (b6 (h1 pins s σ H {D with nx:=u D} I h) λf i q=>?_);cases f with
 |next=>
  obtain⟨d,H',j,q⟩:=q;exact h2 pins i d H' D j q
 |ret v=>exact q
 |brk=>exact q
 |cont=>exact q
theorem Hf (h1:PS X st t):yG X [st] t:=by
 intro pins s σ H D I h;refine aew (b6 (h1 pins s σ H D I h) λf d q=>?_);cases f with
 |next=>exact aaS q
 |ret v=>exact q
 |brk=>exact q
 |cont=>exact q
theorem f_.aG {pins:List (J×s_)}{σ:St}{H:Hp}{s:d_}(I:f_ X pins σ H s):interactive X.aa=false:=by simp[interactive,I.ok.aa]
def Fd (te:TE):TS:=λD σ H=>te σ H λ_ H1=>D.nx σ H1
theorem Hc (d:PE X e te)(i:Yh e O pos.line X.aa=A' false:=by rfl):PS X (.Expr e pos) (Fd te):=by
 intro pins s σ H D I h;exact wpAny_Expr_any (b6 (d pins s σ H _ I h) λv q ⟨x,H1,j,y,n⟩=>⟨σ,H1,j,n⟩) I.aG i
def Me (te:TE):TS:=λD σ H=>te σ H D.rt
theorem Lb (d:PE X e te):PS X (.Return (Y e) pos) (Me te):=by
 intro pins s σ H D I h;exact wpAny_Return_some (b6 (d pins s σ H _ I h) λv q ⟨x,H1,i,j,n⟩=>⟨x,σ,H1,i,j,n⟩)
def Fo:TS:=λD _ H=>D.rt .aQ H
theorem Hd:PS X (.Return O pos) Fo:=λ_ _ σ H _ I h=>wpAny_Return_none ⟨.aQ,σ,H,I,rfl,h⟩
def L9 (c:TT)(t u:TS):TS:=λD σ H=>c σ H λb H1=>if b=L then t D σ H1 else u D σ H1
theorem Od {c:e_}{a b:List E_}{tc:TT}(q:PT X c tc)(y:yG X a t)(hb:yG X b u):PS X (.If c a b pos) (L9 tc t u):=by
 intro pins s σ H D I h;refine wpAny_If (b6 (q pins s σ H _ I h) λd i ⟨H1,j,n⟩=>?_);cases d with
 |true=>exact y pins i σ H1 D j n
 |false=>exact hb pins i σ H1 D j n
end
abbrev TG:=V->St->Hp->(St->Hp->Prop)->Prop
abbrev FO:=List V->St->Hp->(St->Hp->Prop)->Prop
def PG (X:Cx)(d:e_)(t:TG):Prop:=
 ∀ (pins:List (J×s_)) (s:d_) (σ:St) (H:Hp) (v:V) (u:R) (Q:St->Hp->Prop),f_ X pins σ H s->x_ v u->t v σ H Q->
  g_ (i' X.ab X.w) X.A (YF d X.aa u) (λ_ s'=>∃ i H',f_ X pins i H' s'/\Q i H') X.xe s
def Nf (X:Cx)(ts:List e_)(t:FO):Prop:=
 ∀ (pins:List (J×s_)) (s:d_) (σ:St) (H:Hp) (i:List V) (j:List R) (Q:St->Hp->Prop),f_ X pins σ H s->x' i j->t i σ H Q->
  g_ (i' X.ab X.w) X.A (assignInOrder ((Yr ts X.aa).map (·.2)) j) (λ_ s'=>∃ d H',f_ X pins d H' s'/\Q d H') X.xe s
abbrev F0:=V->V->V->Hp->(Hp->Prop)->Prop
def Ni (X:Cx)(t:F0):Prop:=
 ∀ (pins:List (J×s_)) (s:d_) (σ:St) (H:Hp) (o i v:V) (d j u:R) (Q:Hp->Prop),f_ X pins σ H s->x_ o d->x_ i j->x_ v u->t o i v H Q->
  g_ (i' X.ab X.w) X.A (setItem d j u) (λ_ s'=>∃ H',f_ X pins σ H' s'/\Q H') X.xe s
section
variable {X:Cx}{pos:u_}
def mJ (i:Nat):TG:=λv σ H Q=>Q (σ.set i (Y v)) H
theorem zB {i:Nat}{x:M}(d:X.N.Nodup)(hi:X.N[i]?=Y x)(j:Loc X.aa.scope x)(n:X.fn x=L\/X.aa.scope.names.lookup x=Y .local:=by first | exact .inl rfl | exact .inr rfl | assumption):PG X (.Name x pos) (mJ i):=by
 intro pins s σ H v u Q I r h;exact aeA (v7 I d hi j r (λs' q=>⟨_,H,q,h⟩) n)
def JN:FO:=λd σ H Q=>d=[]/\Q σ H
def C4 (t:TG)(u:FO):FO:=λi σ H Q=>∃ v r,i=v::r/\t v σ H λd H'=>u r d H' Q
theorem G5:Nf X [] JN:=by
 intro pins s σ H d i Q I r h;obtain⟨e,h⟩:=h;subst e;cases r;exact assignInOrder_nil ⟨σ,H,I,h⟩
theorem Ee {e:e_}{es:List e_}{t:TG}{u:FO}(h1:PG X e t)(h2:Nf X es u)
  (i:(Yr (e::es) X.aa).map (·.2)=YF e X.aa::(Yr es X.aa).map (·.2):=by rfl):Nf X (e::es) (C4 t u):=by
 intro pins s σ H B D Q I r h;obtain⟨v,F,j,h⟩:=h;subst j;cases r with
 |cons r n=>
  rw[i];refine assignInOrder_cons (b6 (h1 pins s σ H _ _ _ I r h) λ_ q ⟨d,H1,y,z⟩=>?_);exact h2 pins q d H1 _ _ Q y n z
def JO (K:r_)(n:Nat)(t:FO):TG:=λv σ H Q=>∃ a xs,v=.aa a/\eV K H a xs/\xs.length=n/\t xs σ H Q
theorem KZ {es:List e_}{k:Nat}{t:FO}{n:Nat}(q:X.ag=L)(h:Nf X es t)
  (y:(Yr es X.aa).length=n:=by rfl) (d:(Yr es X.aa).findIdx? (·.1)=none:=by rfl):PG X (.Tuple es k pos) (JO X.K n t):=by
 intro pins s σ H v u Q I r i;obtain⟨a,xs,z,B,D,i⟩:=i;subst z;cases r;obtain⟨F,j,G,hz⟩:=I.ae B;refine assign_Tuple_tuple (I.ok.hd q) G (by simp[y,<-D,j.aa]) d λh' N=>?_
 have S:f_ X pins σ H {s with heap:=h'}:=I.ai (t':=s.toks) λb o e=>N b o (Xs (Xh e)) e
 exact h pins _ σ H xs _ Q S (by simpa using j) i
def NI (to d:TE)(t:F0):TG:=λv σ H Q=>to σ H λo H1=>d σ H1 λi H2=>t o i v H2 λj=>Q σ j
theorem KY {o i:e_}{to n:TE}{t:F0}(q:PE X o to)(hi:PE X i n)(z:Ni X t)
  (B:∀ v,YF (.Subscript o i pos) X.aa v=(do
   let d←Zg [v] (z_ o X.aa);let j←Zg [v,d] (z_ i X.aa)
   standAt pos
   Zg [v,d,j] (setItem d j v)
   release [v,d,j] []):=by intro _;rfl):PG X (.Subscript o i pos) (NI to n t):=by
 intro pins s σ H v u Q I r h;rw[B];refine WX (YV (b6 (q pins s σ H _ I h) λd D ⟨x,H1,F,G,N⟩=>?_));refine WX (YV (b6 (hi pins D σ H1 _ F N) λj S ⟨y,H2,U,Z,q2⟩=>?_));refine WX (ZY (WX (YV (b6 (z pins S σ H2 x y v d j u _ U G Z r q2) λ_ s3 ⟨H3,I3,q3⟩=>?_))));exact wpAny_release ⟨σ,H3,I3,q3⟩
def wc (te:TE)(g:TG):TS:=λD σ H=>te σ H λx H1=>g x σ H1 D.nx
theorem Ej {tg e:e_}{te:TE}{g:TG}(d:PE X e te)(i:PG X tg g)(j:swapsWithSole [tg] e pos.line X.aa=A' false:=by rfl)(n:Zy [tg] e X.aa=A' none:=by rfl)
  (h1:(Yr [tg] X.aa).map (·.2)=[YF tg X.aa]:=by rfl):PS X (.Assign [tg] e pos) (wc te g):=by
 intro pins s σ H D I h;refine wpAny_Assign_stores (b6 (d pins s σ H _ I h) λv y ⟨x,H1,z,B,F⟩=>?_) j n;rw[h1];exact b6 (i pins y σ H1 x v _ z B F) λ_ G q=>q
theorem Ek {i:Nat}{x:M}{e:e_}{te:TE}{pos':u_}(d:X.N.Nodup)(hi:X.N[i]?=Y x)(j:Loc X.aa.scope x)(n:PE X e te)(q:Yh e (Y (.Name x pos')) pos.line X.aa=A' false:=by rfl)(z:X.fn x=L\/X.aa.scope.names.lookup x=Y .local:=by first | exact .inl rfl | exact .inr rfl | assumption) :
  PS X (.Assign [.Name x pos'] e pos) (wc te (mJ i)):=by
 intro pins s σ H D I h;refine wpAny_Assign_Name (b6 (n pins s σ H _ I h) λv U ⟨y,H1,B,F,G⟩=>?_) q;exact v7 B d hi j F (λZ S=>⟨_,H1,S,G⟩) z
end
section
variable {X:Cx}{pos:u_}
def yu (c:TT)(tb:TS):TS:=λD σ H=>∃ W:Nat->St->Hp->Prop,(∃ m,W m σ H)/\∀ m σ H,W m σ H->
 c σ H λb H1=>if b=L then ∃ N:St->Hp->Prop,(∀ d H',N d H'->∃ i,i<m/\W i d H')/\tb {D with nx:=N,ct:=N,bk:=D.nx} σ H1 else D.nx σ H1
theorem El {c:e_}{j:List E_}{tc:TT}{tb:TS}(hp:ab4 (i' X.ab X.w) X.A X.aa X.xe)(hc:PT X c tc)(hb:yG X j tb):PS X (.While c j [] pos) (yu tc tb):=by
 intro pins s σ H D I h;obtain⟨W,⟨m0,w0⟩,q⟩:=h;refine wpAny_While (codeAny_whileLoop (λn s'=>∃ y H',f_ X pins y H' s'/\W n y H') ?_ m0 ⟨σ,H,I,w0⟩);rintro n s1 ⟨i,H1,I1,w1⟩;refine Za hp (b6 (hc pins s1 i H1 _ I1 (q n i H1 w1)) λb s2 ⟨H2,I2,B⟩=>?_);cases b with
 |true=>
  obtain⟨N,hN,B⟩:=B;rw[W0 rfl];refine Za hp (b6 (hb pins s2 i H2 _ I2 B) λf s3 F=>?_);cases f with
  |next=>
   obtain⟨d,z,G,S⟩:=F;obtain⟨U,Z,w3⟩:=hN d z S;exact⟨U,Z,d,z,G,w3⟩
  |cont=>
   obtain⟨d,z,G,S⟩:=F;obtain⟨U,Z,w3⟩:=hN d z S;exact⟨U,Z,d,z,G,w3⟩
  |brk=>exact F
  |ret v=>exact F
 |false=>
  rw[W5 Xb];exact aaS ⟨i,H2,I2,B⟩
end
structure It where
 go:Nat->Hp->Prop
 ab:Nat->Hp->V->Hp->Prop
 aa:Nat->Hp->Prop
def jk (X:Cx)(pins:List (J×s_))(H:Hp)(b:J):Prop:=
 H b=O/\b≠X.aa.locals/\b∉X.fs/\(b∈X.ex\/X.s₀.heap.objs.size<=b)/\(∀ x c,X.aa.cells.lookup x=Y c->c≠b)/\∀ p∈X.pn++pins,p.1≠b
theorem f_.tI {X:Cx}{pins:List (J×s_)}{σ:St}{H H':Hp}{s:d_}{b:J}(I:f_ X pins σ H s)(hb:s.heap.objs.size<=b)(d:H' b=O):jk X pins H' b:=by
 refine⟨d,Zq (Xr I.lt hb),I.Rp hb,.inr (Xi I.sz hb),λx c e z=>?_,λp i z=>?_⟩
 .obtain⟨v,q⟩:=I.aq x c e;exact absurd (Xr q.lt (by rw[z];exact hb)) (Zr _)
 .exact absurd (Xr (Xh (I.av p i).1) (by rw[z];exact hb)) (Zr _)
structure Yv (P:y_)(w:v_)(K:r_)(tg:e_)(afg:It)(fp:List J)(it:J)(tn:Nat->k_->Prop):Prop where
 ah:it∈fp
 aa:∀ i h,tn i h->∀ b∈fp,∃ o,h.get? b=Y o/\∀ v,o.data≠.cell v
 ab:∀ i h h',tn i h->(∀ b∈fp,∀ o,h.get? b=Y o->h'.get? b=Y o)->tn i h'
 af:∀ (X:Cx),X.ab=P->X.w=w->X.K=K->X.ag=L->∀ (i:Nat) (pins:List (J×s_)) (s:d_) (σ:St) (H:Hp) (E:R->d_->Prop),f_ X pins σ H s->(∀ b∈fp,jk X pins H b)->tn i s.heap->afg.go i H->
  g_ (i' P w) X.A (Ys (.ref it)) (λr s1=>∃ u,r=Y u/\
   g_ (i' P w) X.A (Z7 tg (.ref it) u) (λ_ s2=>∃ x H',f_ X pins σ H' s2/\x_ x u/\afg.ab i H x H'/\tn (i+1) s2.heap/\∀ b∈fp,H' b=O) E s1) E s
 ae:∀ (X:Cx),X.ab=P->X.w=w->X.K=K->X.ag=L->∀ (i:Nat) (pins:List (J×s_)) (s:d_) (σ:St) (H:Hp) (E:R->d_->Prop),f_ X pins σ H s->(∀ b∈fp,jk X pins H b)->tn i s.heap->afg.aa i H->
  g_ (i' P w) X.A (Ys (.ref it)) (λr s1=>r=O/\f_ X pins σ H s1) E s
 ag:∀ (A:D_) (i:Nat) (s:d_) (Q:R->d_->Prop) (E:R->d_->Prop),tn i s.heap->Q (.ref it) s->g_ (i' P w) A (Z8 (.ref it)) Q E s
abbrev TI:=St->Hp->(It->Hp->Prop)->Prop
def SN (X:Cx)(pins:List (J×s_))(σ:St)(tg:e_)(afi:It->Hp->Prop)(d:R)(i:d_):Prop:=
 ∃ (j:J) (n:List J) (q:Nat->k_->Prop) (afg:It) (H':Hp),d=.ref j/\f_ X pins σ H' i/\Yv X.ab X.w X.K tg afg n j q/\q 0 i.heap/\(∀ b∈n,jk X pins H' b)/\afi afg H'
def PI (X:Cx)(tg d:e_)(i:TI):Prop:=
 ∀ (pins:List (J×s_)) (s:d_) (σ:St) (H:Hp) (afi:It->Hp->Prop),f_ X pins σ H s->i σ H afi->
  g_ (i' X.ab X.w) X.A (z_ d X.aa) (λv j=>g_ (i' X.ab X.w) X.A (Z8 v) (SN X pins σ tg afi) X.xe j) X.xe s
theorem zb {aff:Model}{A:D_}{E:R->d_->Prop}{s:d_}{tg:e_}{it:J}{u:R}{o:s_}{n:String}{vs:Array R}{Q:Unit->d_->Prop}(i:s.heap.get? it=Y o)(j:o.cls=.type n)(q:o.data=.fields vs)
  (y:["enumerate","zip","dict_itemiterator","dict_reverseitemiterator","odict_iterator","itertools.zip_longest","itertools.pairwise"].contains n=b_) (d:Q () s):g_ aff A (Z7 tg (.ref it) u) Q E s:=by
 unfold Z7;cases tg<;>first
  |exact W8 d
  |(cases u<;>first
    |exact W8 d
    |(refine WX (wpAny_load i ?_);rw[j,q];show g_ aff A (if (["enumerate","zip","dict_itemiterator","dict_reverseitemiterator","odict_iterator","itertools.zip_longest","itertools.pairwise"].contains n&&vs[0]? == Y (V' _))=L then _ else _) Q E s;rw[W5 (by intro h;rw[y,ado]at h;cases h)];exact W8 d))
noncomputable def B0 (K:r_)(a:J):It:=
 ⟨λi H=>∃ xs x,gm K H a xs/\xs[i]?=Y x,λi H x H'=>H'=H/\∀ xs,gm K H a xs->xs[i]?=Y x,λi H=>∃ xs,gm K H a xs/\xs.length<=i⟩
noncomputable def Pp (K:r_)(a:J):It:=
 ⟨λi H=>∃ xs x,eV K H a xs/\xs[i]?=Y x,λi H x H'=>H'=H/\∀ xs,eV K H a xs->xs[i]?=Y x,λi H=>∃ xs,eV K H a xs/\xs.length<=i⟩
noncomputable def Nb (lo:Int)(n:Nat):It:=⟨λi _=>i<n,λi H x H'=>H'=H/\x=.ab (lo+i),λi _=>n<=i⟩
theorem BE {P:y_}{w:v_}{K:r_}{tg:e_}(a it:J):Yv P w K tg (B0 K a) [it] it (λi h=>h.IsListIter it a i) where
 ah:=by simp
 aa:=λi h st b j=>by
  have e:b=it:=by simpa using j
  subst e;obtain⟨o,e,c,d⟩:=st;exact⟨o,e,λv z=>by rw[d]at z;cases z⟩
 ab:=λi h h' st k=>st.at λo e=>k it nofun o e
 af:=by
  intro X B D F hc i pins s σ H E I q st G;subst B D F;obtain⟨xs,x,y,N⟩:=G;obtain⟨S,U,p,hz⟩:=I.aj y;obtain⟨u,hu,ru⟩:=U.ae N;obtain⟨Z,f1,f2,f3,f4,f5⟩:=q it nofun;refine wpAny_pyNext_list_item st p.isList (x:=u) (by simpa using hu) λh' n sb=>?_
  have I1:f_ X pins σ H {s with heap:=h'}:=I.ah (t':=s.toks) (λb o j e=>(sb.2 b j).trans e) Z f1 f3 f4 f5;obtain⟨o,e,c,d⟩:=id n;exact⟨u,rfl,zb (s:={s with heap:=h'}) e c d ∅ ⟨x,H,I1,ru,⟨rfl,λys hy=>by rw[I.DA hy y];exact N⟩,n,λb j=>(q b j).1⟩⟩
 ae:=by
  intro X B D F hc i pins s σ H E I q st G;subst B D F;obtain⟨xs,y,N⟩:=G;obtain⟨S,U,p,hz⟩:=I.aj y;obtain⟨Z,f1,f2,f3,f4,f5⟩:=q it nofun;have hl:=U.aa;exact wpAny_pyNext_list_end (I.ok.hd hc) st p.isList (by simp;lia) λh' eb=>⟨rfl,I.ah (t':=s.toks) (λb o j e=>eb b o j e) Z f1 f3 f4 f5⟩
 ag:=λ_ _ _ _ _ st h=>wpAny_pyIter_listiter st h
theorem yx {P:y_}{w:v_}{K:r_}{tg:e_}(a it:J):Yv P w K tg (Pp K a) [it] it (λi h=>h.IsTupleIter it a i) where
 ah:=by simp
 aa:=λi h st b j=>by
  have e:b=it:=by simpa using j
  subst e;obtain⟨o,e,c,d⟩:=st;exact⟨o,e,λv z=>by rw[d]at z;cases z⟩
 ab:=λi h h' st k=>st.at λo e=>k it nofun o e
 af:=by
  intro X D F G hc i pins s σ H E I y st N;subst D F G;obtain⟨xs,x,B,S⟩:=N;obtain⟨n,U,p,hz⟩:=I.ae B;obtain⟨u,hu,ru⟩:=U.ae S;obtain⟨Z,f1,f2,f3,f4,f5⟩:=y it nofun;refine aeI st (show s.heap.IsTuple a n.toArray from p) (x:=u) (by simpa using hu) λh' q sb=>?_
  have I1:f_ X pins σ H {s with heap:=h'}:=I.ah (t':=s.toks) (λb o j e=>(sb.2 b j).trans e) Z f1 f3 f4 f5;obtain⟨o,e,c,d⟩:=id q;exact⟨u,rfl,zb (s:={s with heap:=h'}) e c d ∅ ⟨x,H,I1,ru,⟨rfl,λys hy=>by rw[I.n3 hy B];exact S⟩,q,λb j=>(y b j).1⟩⟩
 ae:=by
  intro X D F G hc i pins s σ H E I y st N;subst D F G;obtain⟨xs,B,S⟩:=N;obtain⟨n,U,p,hz⟩:=I.ae B;obtain⟨Z,f1,f2,f3,f4,f5⟩:=y it nofun;have hl:=U.aa;exact aeH (I.ok.hd hc) st (show s.heap.IsTuple a n.toArray from p) (by simp;lia) λh' eb=>⟨rfl,I.ah (t':=s.toks) (λb o j e=>eb b o j e) Z f1 f3 f4 f5⟩
 ag:=λ_ _ _ _ _ st h=>wpAny_pyIter_tupleiter st h
theorem yw {P:y_}{w:v_}{K:r_}{tg:e_}(it:J)(lo:Int)(n:Nat):Yv P w K tg (Nb lo n) [it] it (λi h=>IsRangeIter h it (lo+(i:Nat)*1) ((n:Int)-(i:Nat)) 1) where
 ah:=by simp
 aa:=λi h st b d=>by
  have e:b=it:=by simpa using d
  subst e;exact⟨_,st,λv z=>by
   have z':aeS _=Data.cell v:=z;cases z'⟩
 ab:=λi h h' st k=>k it nofun _ st
 af:=by
  intro X y B D F i pins s σ H E I q st G;subst y B D;obtain⟨N,S,f2,U,Z,f5⟩:=q it nofun;have W:=Walks.range (prog:=X.ab) (w:=X.w) (I.ok.hd F) it lo 1 n;refine W.item i s _ _ G st λv h' tk hv j kk=>?_
  obtain⟨t,rfl⟩:=hv;have I1:f_ X pins σ H {s with heap:=h',toks:=tk}:=I.ah (λb o d e=>kk b o (by simpa using d) e) N S U Z f5;refine⟨_,rfl,zb (s:={s with heap:=h',toks:=tk}) (n:="range_iterator") j rfl rfl ∅ ⟨.ab (lo+i),H,I1,⟨t,?_⟩,⟨rfl,rfl⟩,j,λb d=>(q b d).1⟩⟩;rw[Int.mul_one]
 ae:=by
  intro X y B D F i pins s σ H E I q st G;subst y B D;obtain⟨N,S,f2,U,Z,f5⟩:=q it nofun;exact wpAny_pyNext_range_end (I.ok.hd F) st (by have:n<=i:=G;lia) λh' eb=>⟨rfl,I.ah (t':=s.toks) (λb o d e=>eb b o d e) N S U Z f5⟩
 ag:=λ_ _ _ _ _ st h=>wpAny_pyIter_rangeiter st h
section
variable {X:Cx}{tg:e_}
def IU (K:r_)(tl:TE):TI:=λσ H afi=>tl σ H λx H1=>∃ a,x=.aa a/\(∃ xs,gm K H1 a xs)/\afi (B0 K a) H1
def NR (K:r_)(tl:TE):TI:=λσ H afi=>tl σ H λx H1=>∃ a,x=.aa a/\(∃ xs,eV K H1 a xs)/\afi (Pp K a) H1
theorem G6 {l:e_}{tl:TE}(j:PE X l tl):PI X tg l (IU X.K tl):=by
 intro pins s σ H afi I h;refine b6 (j pins s σ H _ I h) λv d ⟨x,H1,i,n,y⟩=>?_
 obtain⟨a,e,⟨xs,z⟩,q⟩:=y;subst e;cases n;obtain⟨B,F,p,hz⟩:=i.aj z;refine aeB p.isList ?_;refine⟨d.heap.objs.size,[d.heap.objs.size],_,_,H1,rfl,i.ai (t':=d.toks) λb o e=>W7 _ e,BE a _,⟨_,Xo _ rfl,rfl,rfl⟩,λb D=>?_,q⟩;have e:b=d.heap.objs.size:=by simpa using D
 subst e;exact i.tI (WY _) (i.aa.aa (WY _))
theorem K8 {l:e_}{tl:TE}(n:PE X l tl):PI X tg l (NR X.K tl):=by
 intro pins s σ H afi I h;refine b6 (n pins s σ H _ I h) λv d ⟨x,H1,i,y,z⟩=>?_
 obtain⟨a,e,⟨xs,B⟩,q⟩:=z;subst e;cases y;obtain⟨j,F,p,hz⟩:=i.ae B;refine aaX (show d.heap.IsTuple a j.toArray from p) ?_;refine⟨d.heap.objs.size,[d.heap.objs.size],_,_,H1,rfl,i.ai (t':=d.toks) λb o e=>W7 _ e,yx a _,⟨_,Xo _ rfl,rfl,rfl⟩,λb D=>?_,q⟩;have e:b=d.heap.objs.size:=by simpa using D
 subst e;exact i.tI (WY _) (i.aa.aa (WY _))
theorem vU {pins:List (J×s_)}{σ:St}{H:Hp}{s:d_}{afi:It->Hp->Prop}{E:R->d_->Prop}{lo hi:Int}{t u v:WG}{tk:Nat}(I:f_ X pins σ H s)(h1:-(2 ^ 62)<=lo)(h2:lo<2 ^ 62)(i:-(2 ^ 62)<=hi)(j:hi<2 ^ 62)
  (q:afi (Nb lo (hi-lo).toNat) H):g_ (i' X.ab X.w) X.A (Z8 (.ref s.heap.objs.size)) (SN X pins σ tg afi) E {s with heap:=s.heap.push {cls:=.type "range",data:=.fields #[.int lo t,.int hi u,.int 1 v]},toks:=tk}:=by
 refine wpAny_pyIter_range (IsRange.new ..) (small_one h1 h2 i j) ?_;have d:f_ X pins σ H {s with heap:=s.heap.push {cls:=.type "range",data:=.fields #[.int lo t,.int hi u,.int 1 v]},toks:=tk}:=I.ai λb o e=>W7 _ e
 refine⟨(s.heap.push {cls:=.type "range",data:=.fields #[.int lo t,.int hi u,.int 1 v]}).objs.size,[(s.heap.push {cls:=.type "range",data:=.fields #[.int lo t,.int hi u,.int 1 v]}).objs.size],_,_,H,rfl,
  d.ai (t':=tk) λb o e=>W7 _ e,yw _ lo (hi-lo).toNat,?_,λb n=>?_,q⟩
 .have y:lo+((0:Nat):Int)*1=lo:=by simp
  have z:(((hi-lo).toNat:Nat):Int)-((0:Nat):Int)=ae_ lo hi 1:=by rw[rangeSize_one];split<;>lia
  show IsRangeIter _ _ (lo+((0:Nat):Int)*1) ((((hi-lo).toNat:Nat):Int)-((0:Nat):Int)) 1;rw[y,z];exact Xo _ rfl
 .have e:b=(s.heap.push {cls:=.type "range",data:=.fields #[.int lo t,.int hi u,.int 1 v]}).objs.size:=by simpa using n
  subst e;exact d.tI (WY _) (d.aa.aa (WY _))
def Dl (ta:TA):TI:=λσ H afi=>ta σ H λd H1=>∃ j:Int,d=[.ab j]/\-(2 ^ 62)<=j/\j<2 ^ 62/\afi (Nb 0 j.toNat) H1
def Dm (ta:TA):TI:=λσ H afi=>ta σ H λd H1=>∃ i j:Int,d=[.ab i,.ab j]/\(-(2 ^ 62)<=i/\i<2 ^ 62/\-(2 ^ 62)<=j/\j<2 ^ 62)/\afi (Nb i (j-i).toNat) H1
theorem Bf {a:e_}{ta:TA}{p pos:u_}(i:Gl X "range")(n:X.mg "range" = O)(y:PA X [a] ta)(z:D' [a] X.aa=[(b_,z_ a X.aa)]:=by rfl):PI X tg (.Call (.Name "range" p) [a] [] pos) (Dl ta):=by
 intro pins s σ H afi I h;refine Call_ (jM I i n boot_range (X4 (b6 (y pos pins s σ H _ I h) λN S ⟨U,H1,B,D,d⟩=>?_) z rfl));obtain⟨j,e,d,F,q⟩:=d;subst e;cases D with
 |cons r G=>
  cases G;obtain⟨t,rfl⟩:=r;exact call_range_1 (vU B ⋯ ⋯ d F (by simpa using q))
theorem Bg {a b:e_}{ta:TA}{p pos:u_}(z:Gl X "range")(B:X.mg "range" = O)(D:PA X [a,b] ta)(F:D' [a,b] X.aa=[(b_,z_ a X.aa),(b_,z_ b X.aa)]:=by rfl)(d:D' [b] X.aa=[(b_,z_ b X.aa)]:=by rfl) :
  PI X tg (.Call (.Name "range" p) [a,b] [] pos) (Dm ta):=by
 intro pins s σ H afi I h;refine Call_ (jM I z B boot_range (X4 (b6 (D pos pins s σ H _ I h) λus s1 ⟨vs,H1,G,N,n⟩=>?_) (by rw[F,d]) (by rw[d];rfl)));obtain⟨i,j,e,⟨n,S,U,Z⟩,q⟩:=n;subst e;cases N with
 |cons r y=>
  cases y with
  |cons r' y=>
   cases y;obtain⟨t,rfl⟩:=r;obtain⟨t',rfl⟩:=r';exact call_range_2 (vU G n S U Z q)
def L8 (q:TI)(g:TG)(tb:TS):TS:=λD σ H=>q σ H λafg H1=>∃ W:Nat->Nat->St->Hp->Prop,(∃ m,W 0 m σ H1)/\∀ i m σ H,W i m σ H->
 (afg.aa i H/\D.nx σ H)\/(afg.go i H/\∃ N:St->Hp->Prop,(∀ d H',N d H'->∃ n,n<m/\W (i+1) n d H')/\∀ x H',afg.ab i H x H'->g x σ H' λj H2=>tb {D with nx:=N,ct:=N,bk:=D.nx} j H2)
noncomputable def qs (fp:List J)(h:k_):List (J×s_):=fp.filterMap λb=>(h.get? b).map λo=>(b,o)
theorem fE {fp:List J}{h:k_}{b:J}{o:s_}(hb:b∈fp)(e:h.get? b=Y o):(b,o)∈qs fp h:=acY.mpr ⟨b,hb,by rw[e];rfl⟩
theorem Bb {fp:List J}{h:k_}{p:J×s_}(d:p∈qs fp h):p.1∈fp/\h.get? p.1=Y p.2:=by
 obtain⟨b,i,e⟩:=acY.mp d;cases q:h.get? b with
 |none=>rw[q]at e;cases e
 |some o=>
  rw[q]at e;have e':(b,o)=p:=Xe e;subst e';exact⟨i,q⟩
theorem f_.ay {pins:List (J×s_)}{σ:St}{H:Hp}{s:d_}{fp:List J}(I:f_ X pins σ H s)(n:∀ b∈fp,jk X pins H b)(q:∀ b∈fp,∃ o,s.heap.get? b=Y o/\∀ v,o.data≠.cell v):f_ X (pins++qs fp s.heap) σ H s:=
 I.zC λp y=>(XG.mp y).elim (λz=>I.av p (Xu _ z)) λz=>by
  obtain⟨i,e⟩:=Bb z;obtain⟨B,D,F,_⟩:=n p.1 i;obtain⟨o,j,d⟩:=q p.1 i;rw[e]at j;rcases j;exact⟨e,B,D,F,d⟩
theorem f_.j3 {pins pl:List (J×s_)}{σ:St}{H:Hp}{s:d_}(I:f_ X (pins++pl) σ H s):f_ X pins σ H s:=I.zC λp d=>I.av p (Xu _ (abn _ d))
theorem La {q:e_}{U:List E_}{wi:TI}{g:TG}{tb:TS}{pos:u_}(hp:ab4 (i' X.ab X.w) X.A X.aa X.xe)(hc:X.ag=L)(hi:PI X tg q wi)(hg:PG X tg g)(hb:yG X U tb)
  (hs:∀ x,Z5 q X.aa x=A' x:=by intro _;rfl):PS X (.For tg q U [] pos) (L8 wi g tb):=by
 intro pins s σ H D I h;refine wpAny_For (b6 (hi pins s σ H _ I h) λv s1 h1=>b6 h1 λVd s2 h2=>?_) hs;obtain⟨it,fp,tn,afg,H2,e,I2,T,M0,f2,W,⟨m0,w0⟩,turn⟩:=h2;subst e;have y:∀ {H':Hp},(∀ b∈fp,H' b=O)->∀ b∈fp,jk X pins H' b:=λhn b hb=>⟨hn b hb,(f2 b hb).2⟩
 refine codeAny_forLoop_any (λn s'=>∃ i z H',f_ X pins z H' s'/\tn i s'.heap/\(∀ b∈fp,H' b=O)/\W i n z H') ?_ m0 ⟨0,σ,H2,I2,M0,λb hb=>(f2 b hb).1,w0⟩;rintro n s3 ⟨i,B,H3,I3,Ub,S0,w3⟩;rcases turn i n B H3 w3 with⟨stop,qn⟩ | ⟨go,N,hN,step⟩
 .refine Za hp (b6 (T.ae X rfl rfl rfl hc i pins s3 B H3 X.xe I3 (y S0) Ub stop) λr s4 ⟨hr,I4⟩=>?_);subst hr;exact aaS ⟨B,H3,I4,qn⟩
 .refine Za hp (b6 (T.af X rfl rfl rfl hc i pins s3 B H3 X.xe I3 (y S0) Ub go) λr s4 ⟨u,hr,h4⟩=>?_);subst hr;refine Za hp (b6 h4 λ_ s5 hq=>?_);obtain⟨x,H5,I5,r5,y5,Se,UM⟩:=hq;have Uy:=I5.ay (y UM) (T.aa _ _ Se);refine Za hp (b6 (hg _ s5 B H5 x u _ Uy r5 (step x H5 y5)) λ_ s6 ⟨σ6,H6,I6,q6⟩=>?_);refine Za hp (b6 (hb _ s6 σ6 H6 _ I6 q6) λf s7 Z=>?_);have F:∀ {j:St}{G:Hp},f_ X (pins++qs fp s5.heap) j G s7->N j G->∃ m,m<n/\∃ i z H',f_ X pins z H' s7/\tn i s7.heap/\(∀ b∈fp,H' b=O)/\W i m z H':=λ{j G} S n7=>by
   obtain⟨m',hm,w7⟩:=hN j G n7;refine⟨m',hm,i+1,j,G,S.j3,T.ab _ _ _ Se λb hb o e=>(S.av (b,o) (Xu _ (Xu _ (fE hb e)))).1,λb hb=>?_,w7⟩;obtain⟨o,e,d⟩:=T.aa _ _ Se b hb;exact(S.av (b,o) (Xu _ (Xu _ (fE hb e)))).2.1
  cases f with
  |next=>obtain⟨j,G,S,n7⟩:=Z;exact F S n7
  |cont=>obtain⟨j,G,S,n7⟩:=Z;exact F S n7
  |brk=>obtain⟨j,G,S,Z⟩:=Z;exact⟨j,G,S.j3,Z⟩
  |ret v=>obtain⟨x7,j,G,S,r7,Z⟩:=Z;exact⟨x7,j,G,S.j3,r7,Z⟩
end
abbrev R2:=V->V->Hp->VK->Prop
def j7 (X:Cx)(f:R->R->U' R)(r:R2):Prop:=
 ∀ (pins:List (J×s_)) (s:d_) (σ:St) (H:Hp) (x y:V) (v u:R) (Q:VK),f_ X pins σ H s->x_ x v->x_ y u->r x y H Q->
  g_ (i' X.ab X.w) X.A (f v u) (EP X pins σ Q) X.xe s
def Qt (X:Cx)(f:R->U' R)(r:V->Hp->VK->Prop):Prop:=
 ∀ (pins:List (J×s_)) (s:d_) (σ:St) (H:Hp) (x:V) (v:R) (Q:VK),f_ X pins σ H s->x_ x v->r x H Q->
  g_ (i' X.ab X.w) X.A (f v) (EP X pins σ Q) X.xe s
def eL (X:Cx)(f:R)(r:List V->Hp->VK->Prop):Prop:=
 ∀ (pins:List (J×s_)) (s:d_) (σ:St) (H:Hp) (xs:List V) (d:List R) (Q:VK),f_ X pins σ H s->x' xs d->r xs H Q->
  g_ (i' X.ab X.w) X.A (V_ f d) (EP X pins σ Q) X.xe s
def Qs (X:Cx)(r:V->Hp->(Bool->Hp->Prop)->Prop):Prop:=
 ∀ (pins:List (J×s_)) (s:d_) (σ:St) (H:Hp) (x:V) (v:R) (Q:Bool->Hp->Prop),f_ X pins σ H s->x_ x v->r x H Q->
  g_ (i' X.ab X.w) X.A (truthy v) (TP X pins σ Q) X.xe s
def Fm (r:R2)(ta tb:TE):TE:=λσ H Q=>ta σ H λx H1=>tb σ H1 λy H2=>r x y H2 Q
def So (r:V->Hp->VK->Prop)(ta:TE):TE:=λσ H Q=>ta σ H λx H1=>r x H1 Q
def rI (C:Int->Int->Prop)(g:Int->Int->V):R2:=λx y H Q=>∃ i j,x=.ab i/\y=.ab j/\C i j/\Q (g i j) H
def Et (g:Int->Int->V):R2:=λx y H Q=>∃ i j,x=.ab i/\y=.ab j/\Q (g i j) H
def rU (g:Int->V):V->Hp->VK->Prop:=λx H Q=>∃ i,x=.ab i/\Q (g i) H
section
variable {X:Cx}{a b:e_}{ta tb:TE}{pos:u_}
theorem Ju (n:PE X a ta)(hb:PE X b tb){pins:List (J×s_)}{s:d_}{σ:St}{H:Hp}{afi:V->V->Hp->Prop}(I:f_ X pins σ H s)
  (h:ta σ H λx H1=>tb σ H1 λy H2=>afi x y H2) {Q:R->d_->Prop} {f:R->R->U' R}
  (q:∀ v u j x y H2,f_ X pins σ H2 j->x_ x v->x_ y u->afi x y H2->g_ (i' X.ab X.w) X.A (f v u) Q X.xe j) :
  g_ (i' X.ab X.w) X.A (z_ a X.aa) (λv d=>g_ (i' X.ab X.w) X.A (z_ b X.aa) (λu i=>g_ (i' X.ab X.w) X.A (f v u) Q X.xe i) X.xe d) X.xe s:=by
 refine b6 (n pins s σ H _ I h) λv z ⟨x,H1,B,D,F⟩=>?_
 refine b6 (hb pins z σ H1 _ B F) λu j ⟨y,H2,G,N,S⟩=>?_
 exact q v u j x y H2 G D N S
theorem Ob {op:YH}{r:R2}(d:j7 X (WL op) r)(i:PE X a ta)(hb:PE X b tb):PE X (.BinOp a op b pos) (Fm r ta tb):=by
 intro pins s σ H Q I h;exact wpAny_BinOp (Ju i hb I h λv u j x y H2 n z B q=>d pins j σ H2 x y v u Q n z B q)
theorem Oc {op:UnaryOp}{r:V->Hp->VK->Prop}(d:Qt X (unaryOp op) r)(i:PE X a ta):PE X (.UnaryOp op a pos) (So r ta):=by
 intro pins s σ H Q I h;exact UnaryOp_ (b6 (i pins s σ H _ I h) λv j ⟨x,H1,n,q,y⟩=>d pins j σ H1 x v Q n q y)
theorem PN {f:R->R->U' R}{C:Int->Int->Prop}{g:Int->Int->Int}
  (d:∀ (i j:Int) (t u:WG) (s:d_) (Q:R->d_->Prop) (E:R->d_->Prop),C i j->Q (.int (g i j) s.toks) {s with toks:=s.toks+1}->g_ (i' X.ab X.w) X.A (f (.int i t) (.int j u)) Q E s) :
  j7 X f (rI C λi j=>.ab (g i j)):=by
 intro pins s σ H x y v u Q I n z h;obtain⟨i,j,rfl,rfl,B,q⟩:=h;obtain⟨t,rfl⟩:=n;obtain⟨D,rfl⟩:=z;exact d i j t D s _ _ B ⟨.ab (g i j),H,I.af _,⟨_,rfl⟩,q⟩
theorem N3 {f:R->R->U' R}{g:Int->Int->Int}
  (d:∀ (i j:Int) (t u:WG) (s:d_) (Q:R->d_->Prop) (E:R->d_->Prop),Q (.int (g i j) s.toks) {s with toks:=s.toks+1}->g_ (i' X.ab X.w) X.A (f (.int i t) (.int j u)) Q E s) :
  j7 X f (Et λi j=>.ab (g i j)):=by
 intro pins s σ H x y v u Q I n z h;obtain⟨i,j,rfl,rfl,q⟩:=h;obtain⟨t,rfl⟩:=n;obtain⟨B,rfl⟩:=z;exact d i j t B s _ _ ⟨.ab (g i j),H,I.af _,⟨_,rfl⟩,q⟩
theorem GU {f:R->R->U' R}{g:Int->Int->Bool}
  (d:∀ (i j:Int) (t u:WG) (s:d_) (Q:R->d_->Prop) (E:R->d_->Prop),Q (.bool (g i j)) s->g_ (i' X.ab X.w) X.A (f (.int i t) (.int j u)) Q E s) :
  j7 X f (Et λi j=>.bl (g i j)):=by
 intro pins s σ H x y v u Q I n z h;obtain⟨i,j,rfl,rfl,q⟩:=h;obtain⟨t,rfl⟩:=n;obtain⟨B,rfl⟩:=z;exact d i j t B s _ _ ⟨.bl (g i j),H,I,rfl,q⟩
def M5 (i j:Int):Prop:=0<j/\j<1073741824
def M6 (i j:Int):Prop:=0<=j/\j<=1000000/\i.natAbs<2 ^ 64
def FT (i j:Int):Prop:=(-(2 ^ 64)<i/\i<2 ^ 64)\/(-(2 ^ 64)<j/\j<2 ^ 64)
theorem FT.ok {i j:Int}(h:FT i j):IntMulOk i j:=by
 rcases h with⟨h1,h2⟩ | ⟨h1,h2⟩
 .exact .of_left (intBits_le_64 h1 h2)
 .exact .of_right (intBits_le_64 h1 h2)
theorem Ku:j7 X (WL .Add) (Et λi j=>.ab (i+j)):=N3 λ_ _ _ _ _ _ _ q=>add_int q
theorem KH:j7 X (WL .Sub) (Et λi j=>.ab (i-j)):=N3 λ_ _ _ _ _ _ _ q=>sub_int q
theorem Kz:j7 X (WL .Mult) (rI FT λi j=>.ab (i*j)):=PN λ_ _ _ _ _ _ _ d q=>mul_int q d.ok
theorem GY:j7 X (WL .FloorDiv) (rI M5 λi j=>.ab (i/j)):=PN λi j _ _ _ _ _ d q=>by
 have h1:(0:Int)<j:=d.1;have h2:j<1073741824:=d.2;exact floordiv_int ⋯ (by rw[Int.fdiv_eq_ediv_of_nonneg i ⋯];exact q) (.inl (PyProof.noPylong_small ⋯))
theorem Ky:j7 X (WL .Mod) (rI (λ_ j=>0<j) λi j=>.ab (i%j)):=PN λi j _ _ _ _ _ d q=>by
 have h1:(0:Int)<j:=d;exact mod_int' ⋯ (by rw[Int.fmod_eq_emod_of_nonneg i ⋯];exact q)
theorem KC:j7 X (WL .Pow) (rI M6 λi j=>.ab (i ^ j.toNat)):=PN λ_ _ _ _ _ _ _ d q=>pow_int_small d.1 d.2.1 d.2.2 q
theorem V0 {f:R->U' R}{g:Int->Int}
  (d:∀ (i:Int) (t:WG) (s:d_) (Q:R->d_->Prop) (E:R->d_->Prop),Q (.int (g i) s.toks) {s with toks:=s.toks+1}->g_ (i' X.ab X.w) X.A (f (.int i t)) Q E s) :
  Qt X f (rU λi=>.ab (g i)):=by
 intro pins s σ H x v Q I j h;obtain⟨i,rfl,q⟩:=h;obtain⟨t,rfl⟩:=j;exact d i t s _ _ ⟨.ab (g i),H,I.af _,⟨_,rfl⟩,q⟩
theorem Mo:Qt X (unaryOp .USub) (rU λi=>.ab (-i)):=V0 λ_ _ _ _ _ q=>neg_int q
end
section
variable {X:Cx}{a b c:e_}{ta tb:TE}{pos:u_}
theorem CY {pins:List (J×s_)}{σ:St}{H:Hp}{s:d_}{Q:VK}{k d:Bool}(I:f_ X pins σ H s)(q:Q (.bl k) H)(e:k=d):EP X pins σ Q (.bool d) s:=by
 subst e;exact⟨.bl k,H,I,rfl,q⟩
theorem N7:j7 X (WQ .Lt) (Et λi j=>.bl (j' (i<j))):=GU λ_ _ _ _ _ _ _ q=>lt_int q
theorem N6:j7 X (WQ .LtE) (Et λi j=>.bl (j' (i<=j))):=GU λ_ _ _ _ _ _ _ q=>le_int q
theorem N5:j7 X (WQ .Gt) (Et λi j=>.bl (j' (j<i))):=GU λ_ _ _ _ _ _ _ q=>gt_int q
theorem N4:j7 X (WQ .GtE) (Et λi j=>.bl (j' (j<=i))):=GU λ_ _ _ _ _ _ _ q=>ge_int q
theorem Kx:j7 X (WQ .Is) (λx y H Q=>y=.aQ/\Q (.bl (j' (x=.aQ))) H):=by
 intro pins s σ H x y v u Q I d i h;obtain⟨rfl,q⟩:=h;cases i;refine is_none_gen (CY I q ?_);cases x<;>first
  |(cases d;rfl)
  |(obtain⟨t,rfl⟩:=d;rfl)
theorem GZ:j7 X (WQ .IsNot) (λx y H Q=>y=.aQ/\Q (.bl (!j' (x=.aQ))) H):=by
 intro pins s σ H x y v u Q I d i h;obtain⟨rfl,q⟩:=h;cases i;refine isnot_none_gen (CY I q ?_);cases x<;>first
  |(cases d;rfl)
  |(obtain⟨t,rfl⟩:=d;rfl)
theorem j7.or {f:R->R->U' R}{r d:R2}(h:j7 X f r)(h':j7 X f d):j7 X f (λx y H Q=>r x y H Q\/d x y H Q):=by
 intro pins s σ H x y v u Q I i j q;rcases q with q | q
 .exact h pins s σ H x y v u Q I i j q
 .exact h' pins s σ H x y v u Q I i j q
theorem zz {op:X_}{r:R2}(d:j7 X (WQ op) r)(i:PE X a ta)(hb:PE X b tb)(j:Z4 op b=b_):PE X (.Compare a [op] [b] pos) (Fm r ta tb):=by
 intro pins s σ H Q I h;exact wpAny_Compare1 (Ju i hb I h λv u n x y H2 z B D q=>d pins n σ H2 x y v u Q z B D q) j
def Fq (t:TE):TT:=λσ H Q=>t σ H λx H'=>∃ k,x=.bl k/\Q k H'
theorem zE {op:X_}{r:R2}(d:j7 X (WQ op) r)(i:PE X a ta)(hb:PE X b tb)(j:Z4 op b=b_):PT X (.Compare a [op] [b] pos) (Fq (Fm r ta tb)):=by
 intro pins s σ H Q I h;refine aey (b6 (i pins s σ H _ I h) λv n ⟨x,H1,q,B,D⟩=>b6 (hb pins n σ H1 _ q D) λu F ⟨y,H2,G,N,S⟩=>
  b6 (d pins F σ H2 x y v u _ G B N S) λc s3 ⟨z,U,Z,r3,k,e,q3⟩=>?_) j
 subst e;cases r3;exact Zw ⟨U,Z,q3⟩
def F4 (K:r_)(x:V)(H:Hp)(k:Bool):Prop:=
 match x with
 |.aQ=>k=b_
 |.bl b=>k=b
 |.ab i=>k=(i != 0)
 |.ae y=>y.length<=p'/\k=((y.length:Int) != 0)
 |.MD y=>y.size<=p'/\k=((y.size:Int) != 0)
 |.aa p=>(∃ xs,gm K H p xs/\k = !xs.isEmpty)\/(∃ xs,eV K H p xs/\k = !xs.isEmpty)\/∃ d,H p=Y (.dK d)/\k = !d.isEmpty
 |_=>False
theorem xw {d:Type}{kvs:List (d×V)}{vs:List (d×R)}(r:KV kvs vs):(!vs.isEmpty) = !kvs.isEmpty:=by
 cases r<;>rfl
theorem qd {xs:List V}{its:List R}(r:x' xs its):(!its.toArray.isEmpty) = !xs.isEmpty:=by
 cases r<;>simp
theorem i6:(p':Nat)<2 ^ 63:=by rw[XJ];decide
theorem Mn:Qs X (λx H Q=>∃ k,F4 X.K x H k/\Q k H):=by
 intro pins s σ H x v Q I z h;obtain⟨k,e,q⟩:=h;have U:=i6;have Z:p'=16777216:=XJ;cases x with
 |aQ=>
  cases z;have d:k=false:=e;subst d;exact truthy_none ⟨H,I,q⟩
 |bl b=>
  cases z;have d:k=b:=e;subst d;exact Zw ⟨H,I,q⟩
 |ab i=>
  obtain⟨t,rfl⟩:=z;have d:k=(i != 0):=e;subst d;exact PySem.P.truthy_int ⟨H,I,q⟩
 |ae y=>
  obtain⟨t,rfl⟩:=z;obtain⟨N,d⟩:y.length<=p'/\k=((y.length:Int) != 0):=e;subst d;exact PySem.P.truthy_str ⋯ ⟨H,I.af _,q⟩
 |MD y=>
  obtain⟨t,rfl⟩:=z;obtain⟨N,d⟩:y.size<=p'/\k=((y.size:Int) != 0):=e;subst d;exact PySem.W.truthy_bytes ⋯ ⟨H,I.af _,q⟩
 |aa p=>
  cases z;have d:(∃ xs,gm X.K H p xs/\k = !xs.isEmpty)\/(∃ xs,eV X.K H p xs/\k = !xs.isEmpty)\/∃ j,H p=Y (.dK j)/\k = !j.isEmpty:=e;rcases d with⟨xs,B,d⟩ | ⟨xs,B,d⟩ | ⟨j,B,d⟩
  .subst d;obtain⟨F,r,G,hz⟩:=I.aj B;have n:=r.aa;exact wpAny_truthy_list G.isList (by simp only[Xc];lia) ⟨H,I.af _,by rw[qd r];exact q⟩
  .subst d;obtain⟨F,r,G,hz⟩:=I.ae B;have n:=r.aa;exact truthy_tuple G (by simp only[Xc];lia) ⟨H,I.af _,by rw[qd r];exact q⟩
  .subst d;obtain⟨hz,S,D,r,m⟩:j.length<=p'/\(p == WN)=b_/\∃ D,KV j D/\s.heap.DictOf (bW X.ab X.w) p D:=I.aa p _ B;have n:j.length=D.length:=ZR r;exact wpAny_truthy_dict S m ⋯ ⟨H,I.af _,by rw[xw r];exact q⟩
 |_=>exact(show False from e).elim
theorem En (i:PE X a ta)(j:∀ d,Z6 a X.aa d=(do let v←d;standAt a.pos;Zg [v] (truthy v))) :
  PT X a (λσ H Q=>ta σ H λx H'=>∃ k,F4 X.K x H' k/\Q k H'):=by
 intro pins s σ H Q I h;exact isTrue_plain (b6 (i pins s σ H _ I h) λv n ⟨x,H1,q,y,z⟩=>Mn pins n σ H1 x v Q q y z) (j _)
theorem xW:j7 X (WL .Add) (λx y H Q=>∃ i j,x=.ae i/\y=.ae j/\i.length+j.length<=p'/\Q (.ae (i++j)) H):=by
 intro pins s σ H x y v u Q I d n h;obtain⟨i,j,rfl,rfl,hz,q⟩:=h;obtain⟨t,rfl⟩:=d;obtain⟨z,rfl⟩:=n;exact add_str (λz tk=>⟨.ae (i++j),H,I.af _,⟨_,rfl⟩,q⟩) hz
theorem WS {x:V}{us:List R}(r:x' [x] us):∃ u,us=[u]/\x_ x u:=by
 cases r with
 |cons d i=>cases i;exact⟨_,rfl,d⟩
theorem aac {x y:V}{us:List R}(r:x' [x,y] us):∃ u w',us=[u,w']/\x_ x u/\x_ y w':=by
 cases r with
 |cons d i=>
  cases i with
  |cons j n=>cases n;exact⟨_,_,rfl,d,j⟩
theorem Al (n:X.ag=L):eL X (.builtin "max") (λxs H Q=>∃ i j,xs=[.ab i,.ab j]/\Q (.ab (if j>i then j else i)) H):=by
 intro pins s σ H xs y Q I r h;obtain⟨i,j,rfl,q⟩:=h;obtain⟨u,z,rfl,⟨t,rfl⟩,⟨B,rfl⟩⟩:=aac r;refine max_two_ints (I.ok.hd n) λh' tk k=>⟨_,H,I.ai k,?_,q⟩
 by_cases d:j>i
 .rw[W0 d,W0 d];exact⟨_,rfl⟩
 .rw[W5 d,W5 d];exact⟨_,rfl⟩
theorem Am (n:X.ag=L):eL X (.builtin "min") (λxs H Q=>∃ i j,xs=[.ab i,.ab j]/\Q (.ab (if j<i then j else i)) H):=by
 intro pins s σ H xs y Q I r h;obtain⟨i,j,rfl,q⟩:=h;obtain⟨u,z,rfl,⟨t,rfl⟩,⟨B,rfl⟩⟩:=aac r;refine min_two_ints (I.ok.hd n) λh' tk k=>⟨_,H,I.ai k,?_,q⟩
 by_cases d:j<i
 .rw[W0 d,W0 d];exact⟨_,rfl⟩
 .rw[W5 d,W5 d];exact⟨_,rfl⟩
theorem Ai:eL X (.type "int") (λxs H Q=>(∃ i,xs=[.ab i]/\Q (.ab i) H)\/∃ k,xs=[.bl k]/\Q (.ab (if k then 1 else 0)) H):=by
 intro pins s σ H xs j Q I r h;rcases h with⟨i,rfl,q⟩ | ⟨k,rfl,q⟩
 .obtain⟨u,rfl,t,rfl⟩:=WS r;exact call_int_int ⟨.ab i,H,I,⟨_,rfl⟩,q⟩
 .obtain⟨u,rfl,d⟩:=WS r;cases d;exact call_int_bool ⟨.ab (if k then 1 else 0),H,I.af _,⟨_,rfl⟩,q⟩
end
structure wF (h:k_)(x dx C:J)(mA:M->Option R):Prop where
 ab:h.get? x=Y (YQ C dx)
 ns:h.Ns1 dx mA
 ne:dx≠x
theorem AW {h:k_}{dx:J}{mA:M->Option R}(n:h.Ns1 dx mA):∃ od,h.get? dx=Y od/\∀ name,aax name od=Y (mA name):=by
 obtain⟨o,es,G,i,j,B,_,D⟩:=n;refine⟨o,i,λname=>?_⟩;have e:=D name;unfold nsFind findBy at e;rw[<-Array.find?_toList]at e;unfold aax;rw[j];dsimp only;split
 .rename_i y q;rw[q]at e;exact congrArg Y e
 .rename_i q;rw[q]at e;have a:es.toList.any (·.refKey)=false:=by
   rw[List.any_eq_false];intro y F;obtain⟨z,t,d⟩:=B y (Array.mem_toList_iff.mp F);simp[DictEntry.refKey,d]
  have a':¬ es.toList.any (·.refKey)=true:=by rw[a];exact Xb
  rw[W5 a'];exact congrArg Y e
theorem wF.aa {h:k_}{x dx C:J}{mA:M->Option R}(I:wF h x dx C mA):∃ od,PySem.W.InstAt h x (YQ C dx) C (Y od)/\∀ name,aax name od=Y (mA name):=
 let ⟨od,ho,hl⟩:=AW I.ns
 ⟨od,⟨I.ab,rfl,rfl,ho⟩,hl⟩
section
variable {prog:y_}{w:v_}{A:D_}{E:R->d_->Prop}{s:d_}{K:r_}{x dx C f:J}{mA:M->Option R}{name:M}{v:R}
theorem acq {d:Bool}{Q:R->d_->Prop}(X:K.In s.heap)(I:wF s.heap x dx C mA)(j:aaz K C name=L)(n:abH K C=L)
  (q:WJ K (.ref C) name=Y O) (y:mA name=Y v) (i:adu v=L) (h:Q v {s with toks:=s.toks+1}) :
  g_ (i' prog w) A (getAttr (.ref x) name d) Q E s:=by
 obtain⟨B,afg,z⟩:=I.aa;exact PySem.W.get_value X afg (abJ j).1 (PySem.W.findObj_own n q rfl (by rw[z,y])) i h
theorem C8 {pl:U' Bool}{Q:R×List R->d_->Prop}(X:K.In s.heap)(I:wF s.heap x dx C mA)(d:aaz K C name=L)
  (i:WJ K (.ref C) name=Y (Y (.ref f))) (j:abI K (.ref f)=L) (n:mA name=O) (h:Q (.ref f,[.ref x]) s) :
  g_ (i' prog w) A (acf (.ref x) name pl) Q E s:=by
 obtain⟨q,afg,y⟩:=I.aa;exact PySem.W.method_fn X afg (abJ d).1 (abJ d).2 i (beq_iff_eq.mp j) (by show(aax name q).map (·.isSome)=Y b_;rw[y,n];rfl) h
theorem Hv {ns:List M}{Q:Unit->d_->Prop}(X:K.In s.heap)(I:wF s.heap x dx C mA)
  (B:WJ K (.ref C) "__setattr__" = Y (Y (.builtin "object.__setattr__"))) (D:adx K C=L) (F:abF K C name=Y O) (G:abH K C=L)
  (N:ab2 mA ns) (hsz:ns.length<=p')
  (h:∀ h',wF h' x dx C (λy=>if y=name then Y v else mA y)->YU dx s.heap h'->Q () {s with heap:=h',toks:=s.toks+2}) :
  g_ (i' prog w) A (setAttr (.ref x) name v) Q E s:=by
 obtain⟨od,afg,hl⟩:=I.aa;refine PySem.W.set_plain X afg B (PySem.W.osa_open (s:={s with toks:=s.toks+1}) (r:=O) X afg D F λb=>?_);obtain⟨cd,S,j⟩:=PySem.W.any_some G;have U:s.heap.get? x=Y ⟨.ref C,Y dx,.plain,#[]⟩:=I.ab;refine WX (W8 (WX (WX (wpAny_loadPart U (WX (ae0 (s:={s with toks:=s.toks+1}) (PySem.W.looks_clsIn X S) ?_))))));rw[j];refine W8 (a:=Y dx) (WX (W8 (WX ?_)));refine wpAny_nsSet1 (s:={s with toks:=s.toks+1}) I.ns λh' d i=>?_
 obtain⟨oD,Z,Wg,n,q,z⟩:=d.count (ae1 name v N);refine WX (wpAny_lookBehind n (by rw[q];exact pastItsLine_dict (Xi z (by rw[Xa];lia))) ?_);exact W8 (h _ ⟨(i.2 _ (R' I.ne)).trans I.ab,d,I.ne⟩ i)
theorem DM {afi:Zf->d_->Prop}{vs:List R}{i:List (M×R)}(X:K.In s.heap)(j:adw K C=L)
  (hi:WJ K (.ref C) "__init__" = Y (Y (.ref f))) (n:PySem.W.typeIn K (.ref f)=Y (.type "function"))
  (h:WV (i' prog w) (A.under (.builtin "type.__call__" ⟨.ref C::vs,i⟩)) (.call (.ref f) ⟨.ref (s.heap.objs.size+1)::vs,i⟩) (PySem.W.InitBack (s.heap.objs.size+1) afi)
   {s with heap:=(s.heap.push YO).push (YQ C s.heap.objs.size)}) :
  WV (i' prog w) A (.call (.ref C) ⟨vs,i⟩) afi s:=by
 obtain⟨q,g,d,t,y⟩:=s;exact PySem.W.make_core (PySem.W.makes_of X j) (PySem.W.looks_findIn X hi) (λself=>PySem.W.bind_fn X self n) (.inl rfl) h
end
noncomputable def fq (f:M)(v:V):List (M×V)->List (M×V)
 |[]=>[(f,v)]
 |(g,x)::r=>if g=f then(g,v)::r else(g,x)::fq f v r
theorem oI (f g:M)(v:V):∀ fs:List (M×V),(fq f v fs).lookup g=if g=f then Y v else fs.lookup g
 |[]=>by
  show L_ g [(f,v)]=_;by_cases h:g=f
  .have d:(g == f)=true:=beq_iff_eq.mpr h;simp only[L_,d,W0 h]
  .have d:(g == f)=false:=XE.mpr h;simp only[L_,d,W5 h]
 |(k,x)::r=>by
  have j:=oI f g v r;rw[show fq f v ((k,x)::r)=(if k=f then(k,v)::r else(k,x)::fq f v r) from rfl];by_cases i:k=f
  .rw[W0 i];by_cases h:g=k
   .have d:(g == k)=true:=beq_iff_eq.mpr h;simp only[L_,d,W0 (h.trans i)]
   .have d:(g == k)=false:=XE.mpr h;simp only[L_,d,W5 (λe:g=f=>h (e.trans i.symm))]
  .rw[W5 i];by_cases h:g=k
   .have d:(g == k)=true:=beq_iff_eq.mpr h;simp only[L_,d,W5 (λe:g=f=>i (h.symm.trans e))]
   .have d:(g == k)=false:=XE.mpr h;simp only[L_,d];exact j
theorem nN (f:M)(v:V):∀ fs:List (M×V),f∈(fq f v fs).map (·.1)/\∀ g,g∈fs.map (·.1)->g∈(fq f v fs).map (·.1)
 |[]=>⟨by simp[fq],λg h=>by simp at h⟩
 |(k,x)::r=>by
  obtain⟨i,j⟩:=nN f v r;rw[show fq f v ((k,x)::r)=(if k=f then(k,v)::r else(k,x)::fq f v r) from rfl];by_cases d:k=f
  .rw[W0 d];subst d;exact⟨by simp,λg h=>by simpa using h⟩
  .rw[W5 d];refine⟨?_,λg h=>?_⟩
   .rw[Xq];exact Xt _ i
   .rw[Xq]at h ⊢;rcases Xj.mp h with e | e
    .exact Xj.mpr (.inl e)
    .exact Xt _ (j g e)
theorem oG (f:M)(v:V):∀ fs:List (M×V),(fq f v fs).length<=fs.length+1
 |[]=>by simp[fq]
 |(k,x)::r=>by
  have i:=oG f v r;rw[show fq f v ((k,x)::r)=(if k=f then(k,v)::r else(k,x)::fq f v r) from rfl];by_cases d:k=f
  .rw[W0 d,Xa,Xa];lia
  .rw[W5 d,Xa,Xa];lia
theorem jl.aa {v:V}{o:Option R}(r:jl (Y v) o):∃ u,o=Y u/\x_ v u:=by
 cases o with
 |none=>exact(show False from r).elim
 |some u=>exact⟨u,rfl,r⟩
theorem jl.ab {o:Option R}(r:jl O o):o=none:=by
 cases o with
 |none=>rfl
 |some u=>exact(show False from r).elim
theorem AF {v:V}{u:R}(r:x_ v u):adu u=true:=by
 cases v with
 |aQ=>cases(show u=WR from r);rfl
 |bl b=>cases(show u=aa2 b from r);rfl
 |ab i=>obtain⟨t,e⟩:=(show ∃ t,u=YY i t from r);cases e;rfl
 |ae x=>obtain⟨t,e⟩:=(show ∃ t,u=Z_ x t from r);cases e;rfl
 |MD b=>obtain⟨t,e⟩:=(show ∃ t,u=aeT b t from r);cases e;rfl
 |JK b=>obtain⟨t,e⟩:=(show ∃ t,u=ack b t from r);cases e;rfl
 |aa a=>cases(show u=I_ a from r);rfl
 |ty n=>cases(show u=ZC n from r);rfl
section
variable {P:y_}{w:v_}{H:Hp}{h:k_}{a C dx:J}{fs:List (M×V)}
theorem ph (i:f9 P w H h)(e:H a=Y (.ae C dx fs)):∃ mA,wF h a dx C mA/\(∀ f,jl (fs.lookup f) (mA f))/\ab2 mA (fs.map (·.1))/\fs.length<=1000/\H dx=Y (.af a):=by
 obtain⟨d,z,j,y,mA,n,r,q⟩:=(show dc P w H h a (.ae C dx fs) from i a _ e);exact⟨mA,⟨y,n,j⟩,r,q,z,d⟩
end
structure qJ (K:r_)(C:J):Prop where
 pg:aaz K C Str.empty=L
 hd:abH K C=L
 po:adx K C=L
 sa:WJ K (.ref C) "__setattr__" = Y (Y (.builtin "object.__setattr__"))
theorem qJ.aa {K:r_}{C:J}(c:qJ K C)(f:M):aaz K C f=true:=c.pg
def iQ (K:r_)(C:J)(f:M):Prop:=WJ K (.ref C) f=Y O
theorem iQ.O4 {K:r_}{C:J}{f:M}(n:iQ K C f):abF K C f=Y none:=by
 unfold abF;rw[show WJ K (.ref C) f=Y O from n];rfl
structure YL (K:r_)(C:J)(m:M)(f:J):Prop where
 aa:WJ K (.ref C) m=Y (Y (.ref f))
 fn:abI K (.ref f)=L
 kp:Y_ K (.ref f)=L
section
variable {X:Cx}{pins:List (J×s_)}{σ:St}{H:Hp}{s:d_}{a C dx:J}{fs:List (M×V)}{f:M}{v:V}{A:D_}{E:R->d_->Prop}
theorem p6 {b:Bool}{Q:R->d_->Prop}(I:f_ X pins σ H s)(e:H a=Y (.ae C dx fs))(c:qJ X.K C)(n:iQ X.K C f)(l:fs.lookup f=Y v)
  (h:∀ u s',f_ X pins σ H s'->x_ v u->Q u s'):g_ (i' X.ab X.w) A (getAttr (.ref a) f b) Q E s:=by
 obtain⟨mA,afe,r,_,_,_⟩:=ph I.aa e;obtain⟨u,i,d⟩:=jl.aa (v:=v) (o:=mA f) (by rw[<-l];exact r f);exact acq I.oE afe (c.aa f) c.hd n i (AF d) (h u _ (I.af _) d)
theorem p7 {m:M}{g:J}{pl:U' Bool}{Q:R×List R->d_->Prop}(I:f_ X pins σ H s)(e:H a=Y (.ae C dx fs))(c:qJ X.K C)(k:YL X.K C m g)(l:fs.lookup m=O)
  (h:Q (.ref g,[.ref a]) s):g_ (i' X.ab X.w) A (acf (.ref a) m pl) Q E s:=by
 obtain⟨mA,afe,r,_,_,_⟩:=ph I.aa e;have d:mA m=none:=jl.ab (by rw[<-l];exact r m);exact C8 I.oE afe (c.aa m) k.aa k.fn d h
theorem qy {y:V}{u:R}{Q:Unit->d_->Prop}(I:f_ X pins σ H s)(e:H a=Y (.ae C dx fs))(c:qJ X.K C)(n:iQ X.K C f)(S:fs.length<1000)(B:x_ y u)
  (h:∀ s',f_ X pins σ (m_ H a (.ae C dx (fq f y fs))) s'->Q () s'):g_ (i' X.ab X.w) A (setAttr (.ref a) f u) Q E s:=by
 obtain⟨mA,afe,r,i,_,j⟩:=ph I.aa e;have hz:(fs.map (·.1)).length<=sizeLine:=by rw[Xw,XJ];lia
 refine Hv I.oE afe c.sa c.po n.O4 c.hd i hz λh' d D=>h _ ?_
 have F:∃ o,h'.get? dx=Y o:=let ⟨o,_,_,e',_⟩:=d.ns;⟨o,e'⟩;refine I.aw (x:=a) (e:=dx) (by rw[e];exact WU) (.inr j) (λb q G z=>(D.2 b G).trans z) F ?_;refine⟨by rw[ba afe.ne];exact j,?_,afe.ne,d.ab,_,d.ns,λg=>?_,λg N=>?_⟩
 .have:=oG f y fs;lia
 .show jl ((fq f y fs).lookup g) (if g=f then Y u else mA g);rw[oI];by_cases q:g=f
  .rw[W0 q,W0 q];exact B
  .rw[W5 q,W5 q];exact r g
 .by_cases q:g=f
  .rw[q];exact(nN f y fs).1
  .refine(nN f y fs).2 g (i g λz=>N ?_);show(if g=f then Y u else mA g)=O;rw[W5 q];exact z
theorem f_.aH (I:f_ X pins σ H s):f_ X pins σ (m_ (m_ H s.heap.objs.size (.af (s.heap.objs.size+1))) (s.heap.objs.size+1) (.ae C s.heap.objs.size []))
  {s with heap:=(s.heap.push YO).push (YQ C s.heap.objs.size)}:=by
 have d:(s.heap.push YO).get? s.heap.objs.size=Y PySem.W.emptyDict:=Xo s.heap rfl;have j:((s.heap.push YO).push (YQ C s.heap.objs.size)).get? (s.heap.objs.size+1)=Y (YQ C s.heap.objs.size):=by
  have:=Xo (s.heap.push YO) (o:=YQ C s.heap.objs.size) rfl
  rwa [aaH]at this
 have n:(s.heap.push YO).Ns s.heap.objs.size (λ_=>O):=⟨YO,#[],_,d,rfl,(λe z=>absurd z nofun),λ_=>rfl⟩;have B:=I.ag (a:=s.heap.objs.size) (o:=.af (s.heap.objs.size+1)) (h':=s.heap.push YO) (t':=s.toks) (λb u q=>W7 _ q) (WY _) ⟨_,d⟩;refine B.ag (a:=s.heap.objs.size+1) (o:=.ae C s.heap.objs.size []) (t':=s.toks) (λb u q=>W7 _ q) (aby (aaH _ _)) ?_;have i:s.heap.objs.size≠s.heap.objs.size+1:=Xs (Y8 _);refine⟨by rw[ba i,cB],Xl _,i,j,λ_=>O,(Heap.Ns1.of_empty n).at λo q=>W7 _ q,λ_=>WU,λy D=>absurd rfl D⟩
theorem F5 {prog:y_}{w:v_}{env:H_}{e:e_}{f:M}{pos:u_}{s:d_}{Q:R->d_->Prop}(hb:YG e f env (z_ e env)=z_ e env)
  (h:g_ (i' prog w) A (z_ e env) (λo d=>g_ (i' prog w) A (getAttr o f L) Q E d) E s):g_ (i' prog w) A (z_ (.Attribute e f pos) env) Q E s:=
 Attribute_any_ h (by rw[arm_eval_Attribute,hb])
end
def O0 (K:r_)(ta:TE)(f:M):TE:=λσ H Q=>ta σ H λx H1=>∃ a C dx fs v,x=.aa a/\H1 a=Y (.ae C dx fs)/\qJ K C/\iQ K C f/\fs.lookup f=Y v/\Q v H1
def OK (K:r_)(ta tv:TE)(f:M):TS:=λD σ H=>tv σ H λy H1=>ta σ H1 λx H2=>∃ a C dx fs,x=.aa a/\H2 a=Y (.ae C dx fs)/\qJ K C/\iQ K C f/\fs.length<1000/\
 D.nx σ (m_ H2 a (.ae C dx (fq f y fs)))
def M9 (X:Cx)(op:YH)(rd:V->V->Hp->VK->Prop):Prop:=
 ∀ (pins:List (J×s_)) (s:d_) (σ:St) (H:Hp) (x y:V) (u v:R) (Q:VK),f_ X pins σ H s->x_ x u->x_ y v->rd x y H Q->g_ (i' X.ab X.w) X.A (inplaceOp op u v) (EP X pins σ Q) X.xe s
def zL (K:r_)(ta tv:TE)(rd:V->V->Hp->VK->Prop)(f:M):TS:=λD σ H=>ta σ H λx H1=>∃ a C dx fs v,x=.aa a/\H1 a=Y (.ae C dx fs)/\qJ K C/\iQ K C f/\fs.lookup f=Y v/\
 tv σ H1 λy H2=>rd v y H2 λz i=>∃ d JM,i a=Y (.ae C d JM)/\JM.length<1000/\D.nx σ (m_ i a (.ae C d (fq f z JM)))
section
variable {X:Cx}{o e value:e_}{f:M}{pos pos' Sr:u_}{ta tv:TE}
theorem KL (d:PE X e ta)(hb:YG e f X.aa (z_ e X.aa)=z_ e X.aa):PE X (.Attribute e f pos) (O0 X.K ta f):=by
 intro pins s σ H Q I h;refine F5 hb (b6 (d pins s σ H _ I h) λu F i=>?_);obtain⟨x,H1,j,y,a,C,dx,fs,v,ex,z,c,n,l,q⟩:=i;subst ex;obtain rfl:u=I_ a:=y;exact p6 j z c n l λG N B D=>⟨v,H1,B,D,q⟩
theorem K9 (d:PE X o ta)(i:PE X value tv)(j:Yh value (Y (.Attribute o f pos')) pos.line X.aa=A' b_):PS X (.Assign [.Attribute o f pos'] value pos) (OK X.K ta tv f):=by
 intro pins s σ H D I h;refine plainObj_wpAny_Assign_Attribute (b6 (i pins s σ H _ I h) λu z ⟨y,H1,B,F,q⟩=>b6 (d pins z σ H1 _ B q) λG s2 N=>?_) j;obtain⟨x,H2,S,U,a,C,dx,fs,ex,Z,c,n,l,q2⟩:=N;subst ex;obtain rfl:G=I_ a:=U;exact qy S Z c n l F λs3 I3=>⟨σ,_,I3,q2⟩
theorem Bj {op:YH}{rd:V->V->Hp->VK->Prop}(B:PE X o ta)(F:PE X value tv)(d:M9 X op rd):PS X (.AugAssign (.Attribute o f Sr) op value pos) (zL X.K ta tv rd f):=by
 intro pins s σ H D I h;refine wpAny_AugAssign_AttributeAny (b6 (B pins s σ H _ I h) λG s1 i=>?_);obtain⟨x,H1,N,S,a,C,dx,fs,v,ex,U,c,n,l,q⟩:=i;subst ex;obtain rfl:G=I_ a:=S;refine p6 N U c n l λu Z I2 ru=>b6 (F pins Z σ H1 _ I2 q) λw3 s3 ⟨y,H2,I3,ry,q3⟩=>b6 (d pins s3 σ H2 v y u w3 _ I3 ru ry q3) λw4 s4 i=>?_
 obtain⟨z,H3,I4,rz,Wf,JM,j,l',q4⟩:=i;exact qy I4 j c n l' rz λs5 I5=>⟨σ,_,I5,q4⟩
def Og:V->V->Hp->VK->Prop:=λx y H Q=>∃ i j,x=.ab i/\y=.ab j/\Q (.ab (i+j)) H
theorem JV:M9 X .Add Og:=by
 rintro pins s σ H x y u v Q I n z ⟨i,j,rfl,rfl,q⟩;obtain⟨t,rfl⟩:=(show ∃ t,u=YY i t from n);obtain⟨d,rfl⟩:=(show ∃ d,v=YY j d from z);exact ae2 ⟨.ab (i+j),H,I.af _,⟨_,rfl⟩,q⟩
end
section
variable {X:Cx}{pins:List (J×s_)}{σ:St}{H:Hp}{s:d_}{A:D_}{E:R->d_->Prop}{Q:R->d_->Prop}{c:R}{b:Bool}
inductive lL (K:r_)(H:Hp):V->R->Prop where
 |aQ:lL K H .aQ (.type "NoneType")
 |bl (x:Bool):lL K H (.bl x) (.type "bool")
 |aa (i:Int):lL K H (.ab i) (.type "int")
 |ae (x:M):lL K H (.ae x) (.type "str")
 |JK (x:UInt64):lL K H (.JK x) (.type "float")
 |ab {a:J} {xs:List V} (e:H a=Y (.aa xs)):lL K H (.aa a) (.type "list")
 |ji {a:J} {o:s_} {xs:List V} (e:H a=Y (.ji o (.aa xs))):lL K H (.aa a) (.type "list")
 |af {a:J} {xs:List V} (e:H a=Y (.ab xs)):lL K H (.aa a) (.type "tuple")
 |dK {a:J} {kvs:List (j_×V)} (e:H a=Y (.dK kvs)):lL K H (.aa a) (.type "dict")
 |dT {a:J} {kvs:List (NK.KD×V)} (e:H a=Y (.dT kvs)):lL K H (.aa a) (.type "dict")
 |ag {a C dx:J} {fs:List (M×V)} (e:H a=Y (.ae C dx fs)) (cl:qJ K C) (ha:WJ K (.ref C) "__class__" = Y (Y (.builtin "object.__class__")))
   (hn:PySem.W.specialIn K (.builtin "object.__class__") "__get__" = Y (Y (.builtin "getset_descriptor.__get__"))) (Ww:PySem.W.takesIn K (.builtin "object.__class__")=Y L)
   (hm:PySem.W.mroIn K C (.type "object")=Y L):lL K H (.aa a) (.ref C)
theorem AL {x:V}{u t:R}(I:f_ X pins σ H s)(d:x_ x u)(ty:lL X.K H x t)(e:aav X.K t c=Y b)(h:∀ tk,Q (.bool b) {s with toks:=tk}) :
  g_ (i' X.ab X.w) A (V_ (.builtin "isinstance") [u,c]) Q E s:=by
 cases ty with
 |aQ=>cases(show u=WR from d);exact XW PySem.W.kitx_none I.oE WU e (λz=>nomatch z) h
 |bl y=>cases(show u=aa2 y from d);exact XW PySem.W.kitx_bool I.oE WU e (λz=>nomatch z) h
 |aa i=>obtain⟨t,q⟩:=(show ∃ t,u=YY i t from d);cases q;exact XW PySem.W.kitx_int I.oE WU e (λz=>nomatch z) h
 |ae y=>obtain⟨t,q⟩:=(show ∃ t,u=Z_ y t from d);cases q;exact XW PySem.W.kitx_str I.oE WU e (λz=>nomatch z) h
 |JK y=>obtain⟨t,q⟩:=(show ∃ t,u=ack y t from d);cases q;exact XW PySem.W.kitx_float I.oE WU e (λz=>nomatch z) h
 |@ab a xs j=>
  cases(show u=I_ a from d);obtain⟨_,_,n,_,h1⟩:=(show dc X.ab X.w H s.heap a (.aa xs) from I.aa a _ j);exact XW adt I.oE ⟨_,h1,rfl⟩ e (λz=>nomatch z) h
 |@ji a G xs j=>
  cases(show u=I_ a from d);obtain⟨_,_,_,n,_,h1⟩:=(show dc X.ab X.w H s.heap a (.ji G (.aa xs)) from I.aa a _ j);exact XW adt I.oE ⟨_,h1,rfl⟩ e (λz=>nomatch z) h
 |@af a xs j=>
  cases(show u=I_ a from d);obtain⟨_,_,_,p⟩:=(show dc X.ab X.w H s.heap a (.ab xs) from I.aa a _ j);obtain⟨o,h1,h2,_⟩:=p;exact XW PySem.W.kitx_tuple I.oE ⟨o,h1,h2⟩ e (λz=>nomatch z) h
 |@dK a B j=>
  cases(show u=I_ a from d);obtain⟨_,_,vs,_,p⟩:=(show dc X.ab X.w H s.heap a (.dK B) from I.aa a _ j);obtain⟨o,es,N,h1,h2,_⟩:=p;exact XW ads I.oE ⟨o,h1,h2.1⟩ e (λz=>nomatch z) h
 |@dT a B j=>
  cases(show u=I_ a from d);obtain⟨_,_,xs,_,o,es,N,h1,h2,_⟩:=(show dc X.ab X.w H s.heap a (.dT B) from I.aa a _ j);exact XW ads I.oE ⟨o,h1,h2.1⟩ e (λz=>nomatch z) h
 |@ag a C dx fs j F S U D Z=>
  cases(show u=I_ a from d);obtain⟨mA,afe,_⟩:=ph I.aa j;obtain⟨od,afg,_⟩:=afe.aa;exact XW (PySem.W.kitx_own (F.aa _) F.hd S U D Z) I.oE afg e (λz=>nomatch z) h
end
structure eQ (k:Nat)(A:D_):Prop where
 hd:A.handled=O
 dp:A.depth+2*k+5<recursionLimit
 un:A.units+16*k+200<K_
 gd:A.guards=Y []
theorem eQ.aa {j k:Nat}{A:D_}(r:eQ k A)(h:j<=k):eQ j A:=⟨r.hd,by have:=r.dp;lia,by have:=r.un;lia,r.gd⟩
theorem eQ.ab {k:Nat}{A:D_}(r:eQ (k+1) A)(env:H_):eQ k (A.deeper env):=
 ⟨r.hd,by have:=r.dp;show A.depth+1+2*k+5<_;lia,by have:=r.un;show A.units+3+16*k+200<_;lia,r.gd⟩
theorem xN {A:D_}{C:J}{us:List R}{d:List (M×R)}:(A.under (.builtin "type.__call__" ⟨.ref C::us,d⟩)).depth=A.depth+1:=by
 first | rfl | simp[Around.under,Code.weight,Code.isCreation,Code.isGuard,Code.isCaller,Code.frames,Code.isFrame,guardIds]
theorem xO {A:D_}{C:J}{us:List R}{d:List (M×R)}:(A.under (.builtin "type.__call__" ⟨.ref C::us,d⟩)).units=A.units+1:=by
 first | rfl | simp[Around.under,Code.cUnits,Code.frames,Code.isFrame]
theorem vG {A:D_}{C:J}{us:List R}{d:List (M×R)}:(A.under (.builtin "type.__call__" ⟨.ref C::us,d⟩)).guards=A.guards:=by
 first | rfl | simp[Around.under,Code.weight,Code.isCreation,Code.isGuard,Code.isCaller,Code.frames,Code.isFrame,guardIds]
theorem eQ.ag {k:Nat}{A:D_}(r:eQ (k+1) A)(C:J)(us:List R)(d:List (M×R)):eQ k (A.under (.builtin "type.__call__" ⟨.ref C::us,d⟩)):=
 ⟨r.hd,by have:=r.dp;rw[xN];lia,by have:=r.un;rw[xO];lia,(vG).trans r.gd⟩
theorem eQ.ae {k:Nat}{A:D_}(r:eQ k A):A.depth<recursionLimit:=by have:=r.dp;lia
theorem eQ.af {k:Nat}{A:D_}(r:eQ k A):A.units+64<cLine:=by have:=r.un;lia
def uv:TA:=λ_ H Q=>Q [] H
def oO (ta:TE)(d:TA):TA:=λσ H Q=>ta σ H λx H1=>d σ H1 λxs H2=>Q (x::xs) H2
section
variable {X:Cx}{e:e_}{es:List e_}{te:TE}{t:TA}{pos:u_}
theorem qq:PA X [] uv:=λ_ _ _ _ H Q I h=>adA ⟨[],H,I,.nil,h⟩
theorem k7 (d:PE X e te)(i:PA X es t)(j:D' (e::es) X.aa=(b_,z_ e X.aa)::D' es X.aa:=by rfl):PA X (e::es) (oO te t):=by
 intro pos pins s σ H Q I h;rw[j];show g_ _ _ (spliced ((b_,z_ e X.aa)::P_ pos (D' es X.aa))) _ _ s;refine abM (b6 (d pins s σ H _ I h) λu n ⟨x,H1,q,y,z⟩=>?_);exact b6 (i pos pins n σ H1 _ q z) λG N ⟨xs,H2,B,D,F⟩=>⟨x::xs,H2,B,.cons y D,F⟩
def Mg (t:TA):TE:=λσ H Q=>t σ H λxs H1=>xs.length<=p'/\∀ p,H1 p=O->Q (.aa p) (m_ H1 p (.ab xs))
def Mb (t:TA):TE:=λσ H Q=>t σ H λxs H1=>xs.length<=p'/\∀ p,H1 p=O->Q (.aa p) (m_ H1 p (.aa xs))
theorem KU {x1}(h:PA X es t):PE X (.Tuple es x1 pos) (Mg t):=by
 intro pins s σ H Q I j;refine wpAny_Tuple_spliced (b6 (h pos pins s σ H _ I j) λn d ⟨xs,H1,i,r,z,q⟩=>⟨by rw[<-r.aa];exact z,?_⟩);have y:H1 d.heap.objs.size=none:=i.aa.aa (WY _);refine⟨.aa d.heap.objs.size,m_ H1 d.heap.objs.size (.ab xs),i.ag (t':=d.toks) (λb u e=>W7 _ e) (WY _) ?_,rfl,q _ y⟩;exact⟨z,n,r,gf.ab _ _⟩
theorem KO (h:PA X es t):PE X (.List es pos) (Mb t):=by
 intro pins s σ H Q I j;refine wpAny_List_spliced (b6 (h pos pins s σ H _ I j) λn d ⟨xs,H1,i,r,z,q⟩=>⟨by rw[<-r.aa];exact z,?_⟩);have y:H1 d.heap.objs.size=none:=i.aa.aa (WY _);refine⟨.aa d.heap.objs.size,m_ H1 d.heap.objs.size (.aa xs),i.ag (t':=d.toks) (λb u e=>W7 _ e) (WY _) ?_,rfl,q _ y⟩;exact⟨z,n,0,r,Xo _ rfl⟩
end
abbrev Sp:=List V->Hp->VK->XK->Prop
abbrev z6:=List H_->Hp->d_->XK->R->d_->Prop
structure wB (P:y_)(w:v_)(K:r_)(mg:M->Option R)(base:k_)(A:D_)(outer:List H_)(s:d_)(H:Hp):Prop where
 aa:A.frames=Y outer
 ae:Mod K mg base
 bs:∀ b o,base.get? b=Y o->s.heap.get? b=Y o/\H b=O
 ag:base.objs.size<=s.heap.objs.size
 oR:s.heap.FunFrames base outer
 ah:∀ b∈BU outer,H b=O
 ab:f9 P w H s.heap
 af:YD s.gens
def CE (d:List H_)(P:y_)(w:v_)(H:Hp)(s:d_)(Q:VK)(u:R)(s':d_):Prop:=
 ∃ v H',s'.os=s.os/\YD s'.gens/\Un (BU d) [] H H' s.heap s'.heap/\f9 P w H' s'.heap/\x_ v u/\Q v H'
def CR (CX:z6)(d:List H_)(P:y_)(w:v_)(H:Hp)(s:d_)(Q:VK)(E:XK)(r:Zf)(s':d_):Prop:=
 match r with
 |.ok (.ret u)=>CE d P w H s Q u s'
 |.ok _=>False
 |.error e=>CX d H s E e s'
structure d3 (P:y_)(w:v_)(K:r_)(mg:M->Option R)(base:k_)(CX:z6)(k:Nat)(f:J)(fd:P')(ps:List M)(sp:Sp):Prop where
 ab:∀ vs H Q E,sp vs H Q E->vs.length=ps.length
 aa:∀ (A:D_) (outer:List H_) (s:d_) (H:Hp) (args:Args) (us:List R) (vs:List V) (Q:VK) (E:XK),eQ k A->wB P w K mg base A outer s H->ZS s fd args (ps.zip us)->x' vs us->sp vs H Q E->
  WV (i' P w) A (.call (.ref f) args) (CR CX outer P w H s Q E) s
theorem d3.ae {P:y_}{w:v_}{K:r_}{mg:M->Option R}{base:k_}{CX:z6}{j k:Nat}{f:J}{fd:P'}{ps:List M}{sp:Sp}(F:d3 P w K mg base CX j f fd ps sp)(h:j<=k) :
  d3 P w K mg base CX k f fd ps sp:=⟨F.ab,λA d s H i n q Q E y=>F.aa A d s H i n q Q E (y.aa h)⟩
theorem d3.af {P:y_}{w:v_}{K:r_}{mg:M->Option R}{base:k_}{CX:z6}{k:Nat}{f:J}{fd:P'}{ps:List M}{sp T9:Sp}(F:d3 P w K mg base CX k f fd ps sp)
  (h:∀ vs H Q E,T9 vs H Q E->sp vs H Q E):d3 P w K mg base CX k f fd ps T9:=
 ⟨λvs H Q E q=>F.ab vs H Q E (h _ _ _ _ q),λA d s H i j vs Q E n y z B D=>F.aa A d s H i j vs Q E n y z B (h _ _ _ _ D)⟩
theorem wB.ai {P:y_}{w:v_}{K:r_}{mg:M->Option R}{base:k_}{A:D_}{d:List H_}{s:d_}{H:Hp}(e:wB P w K mg base A d s H)(C:J)(us:List R)(i:List (M×R)) :
  wB P w K mg base (A.under (.builtin "type.__call__" ⟨.ref C::us,i⟩)) d s H:=⟨by first | exact e.aa | (simpa [Around.under,Code.envs,Code.isFrame,pushEnvs]using e.frames),e.ae,e.bs,e.ag,e.oR,e.ah,e.ab,e.af⟩
section
variable {X:Cx}{pins:List (J×s_)}{σ:St}{H:Hp}{s s':d_}
theorem f_.NC (I:f_ X pins σ H s):wB X.ab X.w X.K X.mg X.ae X.A X.af s H:=
 ⟨I.ok.ae,I.ok.af,I.bs,Xi I.ok.ai I.sz,I.aE,I.zP,I.aa,I.ak⟩
theorem f_.aA {Q:VK}{u:R}(I:f_ X pins σ H s)(h:CE X.af X.ab X.w H s Q u s'):EP X pins σ Q u s':=by
 obtain⟨v,H',y,i,B,j,r,q⟩:=h;obtain⟨D,g,d,t,n⟩:=s';obtain rfl:n=s.os:=y;exact⟨v,H',I.aF (h':=D) (g':=g) (d':=d) (t':=t) (ch:=[]) B j i (λb z=>absurd z nofun),r,q⟩
end
def zR (sp:Sp)(qG:List V)(E:XK)(t:TA):TE:=λσ H Q=>t σ H λd H1=>sp (d++qG) H1 Q E
def wg (C:J)(m:M)(sp:Sp)(qG:List V)(E:XK)(ta:TE)(t:TA):TE:=λσ H Q=>ta σ H λx H1=>∃ a dx fs,x=.aa a/\H1 a=Y (.ae C dx fs)/\fs.lookup m=O/\
 t σ H1 λd H2=>sp (x::(d++qG)) H2 Q E
def Fg (C:J)(sp:Sp)(qG:List V)(E:XK)(t:TA):TE:=λσ H Q=>t σ H λd H1=>∀ x dx,H1 x=O->H1 dx=O->dx≠x->
 sp (.aa x::(d++qG)) (m_ (m_ H1 dx (.af x)) x (.ae C dx [])) (λv H2=>v=.aQ/\Q (.aa x) H2) E
def S' (K:r_)(fd:P')(ps:List M)(ds:List R):Prop:=
 ∀ (s:d_) (d:List R),K.In s.heap->(d++ds).length=ps.length->ZS s fd ⟨d,[]⟩ (ps.zip (d++ds))
theorem S'.aa {K:r_}{fd:P'}{ps:List M}(h:∀ us:List R,us.length=ps.length->Zx fd ⟨us,[]⟩=A' (ps.zip us)):S' K fd ps []:=λs us _ d=>by
 rw[XF]at d ⊢;exact .of_eq (h us d)
def YJ (CX:z6)(X:Cx)(E:XK):Prop:=∀ (pins:List (J×s_)) (σ:St) (H:Hp) (s:d_) (e:R) (s':d_),f_ X pins σ H s->CX X.af H s E e s'->X.xe e s'
section
variable {X:Cx}{CX:z6}{k:Nat}{f C:J}{fd:P'}{ps:List M}{sp:Sp}{qG:List V}{ds:List R}{E:XK}{x:M}{p pos:u_}{e:e_}{es:List e_}{t:TA}
theorem yi {pins:List (J×s_)}{σ:St}{H:Hp}{s:d_}{Q:VK}{us:List R}{vs:List V}(F:d3 X.ab X.w X.K X.mg X.ae CX k f fd ps sp)(j:eQ k X.A)(hb:S' X.K fd ps ds)(n:x' qG ds)(q:YJ CX X E)
  (I:f_ X pins σ H s) (r:x' vs us) (h:sp (vs++qG) H Q E):g_ (i' X.ab X.w) X.A (V_ (.ref f) us) (EP X pins σ Q) X.xe s:=by
 have i:x' (vs++qG) (us++ds):=r.ab n;have y:(us++ds).length=ps.length:=by rw[<-i.aa];exact F.ab _ _ _ _ h
 refine wpAny_call (aaJ (F.aa X.A X.af s H ⟨us,[]⟩ (us++ds) (vs++qG) Q E j I.NC (hb s us I.oE y) i h) λr s' d=>?_);cases r with
 |error e=>exact q pins σ H s e s' I d
 |ok z=>
  cases z with
  |ret u=>exact I.aA d
  |next=>exact M' d
  |brk=>exact M' d
  |cont=>exact M' d
theorem G1 (F:d3 X.ab X.w X.K X.mg X.ae CX k f fd ps sp)(n:eQ k X.A)(y:Gl X x)(z:X.mg x=Y (.ref f))(B:Y_ X.K (.ref f)=L)(hb:S' X.K fd ps ds)(D:x' qG ds)(G:YJ CX X E)
  (N:PA X (e::es) t) (d:(x == ("__debug__":M))=false:=by decide) (S:D' (e::es) X.aa=(b_,z_ e X.aa)::D' es X.aa:=by rfl) (i:(P_ pos (D' es X.aa)).any (·.1)=false:=by rfl) :
  PE X (.Call (.Name x p) (e::es) [] pos) (zR sp qG E t):=by
 intro pins s σ H Q I h;refine ZT (tW I y z ?_ d);refine abG (h₀:=X.ae) I.ok.af.aa B (b6 (N pos pins s σ H _ I h) λU Z ⟨vs,H1,j,r,q⟩=>⟨j.oE,?_⟩) S i;exact yi F n hb D G j r q
structure Mk (K:r_)(C f:J):Prop where
 aa:adw K C=L
 ab:WJ K (.ref C) "__init__" = Y (Y (.ref f))
 fn:abI K (.ref f)=L
 kp:Y_ K (.ref C)=L
theorem EH {pins:List (J×s_)}{σ:St}{H:Hp}{s:d_}{Q:VK}{us:List R}{vs:List V}(aff:Mk X.K C f)(F:d3 X.ab X.w X.K X.mg X.ae CX k f fd ps sp)(q:eQ (k+1) X.A)(hb:S' X.K fd ps ds)(y:x' qG ds)
  (z:YJ CX X E) (I:f_ X pins σ H s) (r:x' vs us)
  (h:∀ x dx,H x=O->H dx=O->dx≠x->sp (.aa x::(vs++qG)) (m_ (m_ H dx (.af x)) x (.ae C dx [])) (λv H2=>v=.aQ/\Q (.aa x) H2) E) :
  g_ (i' X.ab X.w) X.A (V_ (.ref C) us) (EP X pins σ Q) X.xe s:=by
 have j:=h (s.heap.objs.size+1) s.heap.objs.size (I.aa.aa (Yo _)) (I.aa.aa (WY _)) (Xs (Y8 _));have i:=f_.aH (C:=C) I;have n:x' (V.aa (s.heap.objs.size+1)::(vs++qG)) (I_ (s.heap.objs.size+1)::(us++ds)):=.cons rfl (r.ab y);have B:(I_ (s.heap.objs.size+1)::us++ds).length=ps.length:=by
  have e:=n.aa;rw[F.ab _ _ _ _ j]at e;exact e.symm
 refine wpAny_call (DM (f:=f) I.oE aff.aa aff.ab (beq_iff_eq.mp aff.fn) (aaJ (F.aa _ X.af _ _ ⟨I_ (s.heap.objs.size+1)::us,[]⟩ (I_ (s.heap.objs.size+1)::(us++ds)) _ _ E (q.ag C us [])
  (i.NC.ai C us []) (hb _ (I_ (s.heap.objs.size+1)::us) i.oE B) n j) λr s' d=>?_))
 cases r with
 |error e=>exact z pins σ _ _ e s' i d
 |ok D=>
  cases D with
  |ret u=>
   obtain⟨v,H',G,N,S,U⟩:=i.aA d;subst S;exact⟨N,⟨V.aa (s.heap.objs.size+1),H',G,rfl,U⟩⟩
  |next=>exact M' d
  |brk=>exact M' d
  |cont=>exact M' d
theorem G4 (aff:Mk X.K C f)(F:d3 X.ab X.w X.K X.mg X.ae CX k f fd ps sp)(n:eQ (k+1) X.A)(y:Gl X x)(z:X.mg x=Y (.ref C))(hb:S' X.K fd ps ds)(B:x' qG ds)(D:YJ CX X E)
  (G:PA X (e::es) t) (d:(x == ("__debug__":M))=false:=by decide) (N:D' (e::es) X.aa=(b_,z_ e X.aa)::D' es X.aa:=by rfl) (i:(P_ pos (D' es X.aa)).any (·.1)=false:=by rfl) :
  PE X (.Call (.Name x p) (e::es) [] pos) (Fg C sp qG E t):=by
 intro pins s σ H Q I h;refine ZT (tW I y z ?_ d);refine abG (h₀:=X.ae) I.ok.af.aa aff.kp (b6 (G pos pins s σ H _ I h) λS U ⟨Z,H1,j,r,q⟩=>⟨j.oE,?_⟩) N i;exact EH aff F n hb B D j r q
end
structure iJ (N P:List M)(sc:J'):Prop where
 ab:sc.kind=.function
 co:sc.isCoroutine=b_
 ag:sc.isGenerator=b_
 nd:N.Nodup
 ae:N.take P.length=P
 af:∀ x∈P,sc.names.lookup x=Y .local\/sc.names.lookup x=Y .cell
 aa:∀ y∈sc.names,y.2≠.free
theorem ri {i:M->Option Q'}{x:M}:∀ {d:List (M×R)}{m:M->Option R},(∀ v,(x,v)∉d)->YS i d m x=m x
 |[],_,_=>rfl
 |(n,v)::r,m,h=>by
  unfold YS;rw[ri λw j=>h w (Xt _ j)];split
  .have:x≠n:=by rintro rfl;exact h v XI
   simp[this]
  .rfl
theorem rg {i:M->Option Q'}{x:M}:∀ {d:List (M×R)}{m:M->Option R},(∀ v,(x,v)∉d)->YR i d m x=m x
 |[],_,_=>rfl
 |(n,v)::r,m,h=>by
  unfold YR;rw[rg λw j=>h w (Xt _ j)];split
  .rfl
  .have:x≠n:=by rintro rfl;exact h v XI
   simp[this]
theorem rh {d:M->Option Q'}{x:M}{v:R}:∀ {P:List M}{vs:List R}{i:Nat}{m:M->Option R},P.Nodup->P[i]?=Y x->vs[i]?=Y v->d x=Y .local->
  YS d (P.zip vs) m x=Y v
 |[],_,_,_,_,h,_,_=>by simp at h
 |_::_,[],_,_,_,_,h,_=>by simp at h
 |p::P,w::vs,0,m,j,h1,h2,n=>by
  simp at h1 h2;subst h1;subst h2;show YS d ((p,w)::P.zip vs) m p=_;unfold YS;rw[ri λv q=>(ZL.mp j).1 (abx q).1,W0 n];simp
 |p::P,w::vs,i+1,m,j,h1,h2,n=>by
  show YS d ((p,w)::P.zip vs) m x=_;unfold YS;exact rh (i:=i) (ZL.mp j).2 (by simpa using h1) (by simpa using h2) n
theorem rf {d:M->Option Q'}{x:M}{v:R}:∀ {P:List M}{vs:List R}{i:Nat}{m:M->Option R},P.Nodup->P[i]?=Y x->vs[i]?=Y v->d x≠Y .local->
  YR d (P.zip vs) m x=Y v
 |[],_,_,_,_,h,_,_=>by simp at h
 |_::_,[],_,_,_,_,h,_=>by simp at h
 |p::P,w::vs,0,m,j,h1,h2,n=>by
  simp at h1 h2;subst h1;subst h2;show YR d ((p,w)::P.zip vs) m p=_;unfold YR;rw[rg λv q=>(ZL.mp j).1 (abx q).1,W5 n];simp
 |p::P,w::vs,i+1,m,j,h1,h2,n=>by
  show YR d ((p,w)::P.zip vs) m x=_;unfold YR;exact rf (i:=i) (ZL.mp j).2 (by simpa using h1) (by simpa using h2) n
noncomputable def W_ (N:List M)(vs:List V):St:=vs.map Y++List.replicate (N.length-vs.length) O
noncomputable def w6 (CX:z6)(P:y_)(w:v_)(K:r_)(mg:M->Option R)(base:k_)(N:List M)(d:M)(scope:J')(f:J)(j:R)(A:D_)(outer:List H_)(s:d_)(H:Hp)(E:XK):Cx where
 ab:=P
 w:=w
 K:=K
 mg:=mg
 ae:=base
 A:=A.deeper (Yp d scope s.heap.objs.size f j)
 N:=N
 s₀:=s
 H₀:=H
 aa:=Yp d scope s.heap.objs.size f j
 ah:=outer
 af:=Yp d scope s.heap.objs.size f j::outer
 ex:=[]
 ag:=L
 fn:=λ_=>L
 pn:=[]
 xe:=λe s'=>g_ (i' P w) (A.deeper (Yp d scope s.heap.objs.size f j)) (leaving (Yp d scope s.heap.objs.size f j) e) (λ_ i=>CX outer H s E e i) (λn i=>CX outer H s E n i) s'
theorem uW {d:J'}{n:Nat}{x:M}(h:d.names.lookup x=Y .cell):∃ c,(abN n d.names []).lookup x=Y c:=by
 have q:=adv d.names n [] (.inl h);exact abz.mp q
theorem AK {CX:z6}{P:y_}{w:v_}{K:r_}{mg:M->Option R}{base:k_}{N ps:List M}{j:M}{scope:J'}{f:J}{I:R}{A:D_}{d:List H_}{s s1:d_}{H:Hp}{E:XK}{us:List R}{vs:List V}
  (S:iJ N ps scope) (hd:A.handled=O) (B:wB P w K mg base A d s H) (hl:vs.length=ps.length) (r:x' vs us)
  (x:InCallC s s.heap.objs.size (YS (Yp j scope s.heap.objs.size f I).kindOf (ps.zip us) λ_=>O) (abN (s.heap.objs.size+1) scope.names []) (YR (Yp j scope s.heap.objs.size f I).kindOf (ps.zip us) λ_=>O) s1) :
  f_ (w6 CX P w K mg base N j scope f I A d s H E) [] (W_ N vs) H s1:=by
 have NP:ps.length<=N.length:=by have:=congrArg List.length S.ae;rw[X1]at this;lia
 obtain⟨h1,tk,rfl,U⟩:=x.done;have D:∀ b:J,b∉(w6 CX P w K mg base N j scope f I A d s H E).ex:=λb z=>absurd (show b∈([]:List J) from z) nofun
 refine⟨⟨B.ae,S.ab,rfl,rfl,WY _,λy z c h1 h2=>?_,λy hy=>?_,λy c _ h=>?_,λ_=>hd,Around.frames_deeper B.aa,.inr ⟨rfl,rfl⟩,λb z=>absurd z (D b),B.bs,B.ag,λb _ _=>D b,λb z=>absurd z (D b),B.oR,B.ah⟩,
  rfl,B.af,Un.aj U,⟨_,x.toInCall.ns,λi y v h1 h2 h3=>?_⟩,λy c h=>⟨_,x.cell y c h⟩,B.ab.aa (WY _),λy c h=>?_,λp F=>absurd (show p∈([]:List (J×s_)) from F) nofun,B.ab.ab U,?_⟩
 .exact name_of_addr x.apart (XN h1) (XN h2)
 .have hy:scope.names.lookup y=Y .cell\/scope.names.lookup y=Y .free:=hy;rcases hy with hy | hy
  .exact uW hy
  .exact absurd rfl (S.aa _ (XN hy))
 .exact Yn (x.above y c (XN h))
 .have hi:i<vs.length:=by
   unfold W_ at h2;by_cases hi:i<vs.length
   .exact hi
   .rw[Xz (by simpa using hi)]at h2;rw[aam]at h2;split at h2<;>cases h2
  have ha:vs[i]?=Y v:=by
   unfold W_ at h2;rw[W3 (by simpa using hi),Xd]at h2;cases e:vs[i]? with
   |none=>rw[e]at h2;cases h2
   |some a=>rw[e]at h2;cases h2;rfl
  obtain⟨u,Z,rv⟩:=r.ae ha;have F:ps[i]?=Y y:=by
   rw[<-S.ae,aaq ⋯];exact h1
  have G:ps.Nodup:=by rw[<-S.ae];exact S.nd.sublist (List.take_sublist _ _)
  refine⟨u,rv,?_⟩;rcases S.af y (Xk F) with k | k
  .exact .inl ⟨k,rh G F Z k⟩
  .obtain⟨c,e⟩:=uW (n:=s.heap.objs.size+1) k;refine .inr ⟨.inl k,c,e,?_⟩;have q:=x.cell y c e;rw[rf G F Z (by show scope.names.lookup y≠_;rw[k];decide)]at q;exact q
 .exact B.ab.aa (Yn (x.above y c (XN h)))
 .unfold W_;show _=N.length;rw[Xv,Xw,aah];lia
theorem NG {CX:z6}{P:y_}{w:v_}{K:r_}{mg:M->Option R}{base:k_}{k:Nat}{f:J}{name i:M}{z:Arguments}{B:List E_}{scope:J'}{dV kV Z pm j ct oc:R}{an od:Option J}
  {Rq:Array (Option R)} {N ps:List M} {sp:Sp} (lk:K.lookup f=Y ⟨oc,od,.func (YN name i z B scope dV kV Z pm an j ct),Rq⟩) (PL:aaw K j i=L) (S:iJ N ps scope)
  (len:∀ vs H Q E,sp vs H Q E->vs.length=ps.length)
  (F:∀ (A:D_) (d:List H_) (s:d_) (H:Hp) (vs:List V) (Q:VK) (E:XK),eQ k (A.deeper (Yp i scope s.heap.objs.size f j))->sp vs H Q E->
   ∃ t,yG (w6 CX P w K mg base N i scope f j A d s H E) B t/\t {nx:=λ_ H'=>Q .aQ H',rt:=Q} (W_ N vs) H) :
  d3 P w K mg base CX (k+1) f (YN name i z B scope dV kV Z pm an j ct) ps sp:=by
 refine⟨len,λA d s H args us vs Q E hr e0 hb r PM=>?_⟩;have hl:=len _ _ _ _ PM;have KX:K.In s.heap:=e0.ae.aa.keeps λb o e=>(e0.bs b o e).1
 have lim:s.heap.NoLimit:=e0.ae.ae.keeps λb o e=>(e0.bs b o e).1
 have G:∀ y∈ps.zip us,scope.names.lookup y.1=Y .local\/(scope.names.lookup y.1=Y .cell/\((abN (s.heap.objs.size+1) scope.names []).lookup y.1).isSome=L):=λ⟨n,v⟩ hy=>by
  rcases S.af n (abx hy).1 with q | q
  .exact .inl q
  .exact .inr ⟨q,adv _ _ _ (.inl q)⟩
 refine codeAny_call_function hr.ae (KX _ _ lk) rfl S.co S.ag rfl (PySem.W.codeRec_of KX PL) (hb _ _ _ _ ?_);refine wpAny_newFunctionEnv_cells S.ab G λenv he s1 x=>?_
 subst he;refine⟨lim.keeps x.toInCall.keep,codeAny_func ?_⟩;obtain⟨t,ht,hq⟩:=F A d s H vs Q E (hr.ab _) PM;have I:f_ (w6 CX P w K mg base N i scope f j A d s H E) [] (W_ N vs) H s1:=AK S hr.hd e0 hl r x;refine XM (ht [] s1 (W_ N vs) H _ I hq) (λfl s' U=>?_) λe s' U=>U
 have fin:∀ {D:St}{H':Hp}{v:V}{u:R},f_ (w6 CX P w K mg base N i scope f j A d s H E) [] D H' s'->x_ v u->Q v H'->CE d P w H s Q u s':=
  λ{D H' v u} afg rv q=>⟨v,H',afg.os,afg.ak,afg.ab,afg.aa,rv,q⟩
 cases fl with
 |ret u=>
  obtain⟨v,D,H',afg,rv,q⟩:=U;exact fin afg rv q
 |next=>
  obtain⟨D,H',afg,q⟩:=U;exact fin (v:=V.aQ) (u:=WR) afg rfl q
 |brk=>
  obtain⟨_,_,_,q⟩:=U;exact M' q
 |cont=>
  obtain⟨_,_,_,q⟩:=U;exact M' q
section
variable {X:Cx}{x:M}{p pos:u_}{e:e_}{es:List e_}{t:TA}{id T:String}{r:List V->Hp->VK->Prop}
def OZ (r:List V->Hp->VK->Prop)(t:TA):TE:=λσ H Q=>t σ H λd H1=>r d H1 Q
theorem D5 (j:eL X (.builtin id) r)(n:Gl X x)(q:X.mg x=O)(y:WO x=Y (.builtin id))(z:PA X (e::es) t)(B:x≠"__name__":=by decide)(d:(x == ("__debug__":M))=false:=by decide)
  (D:D' (e::es) X.aa=(b_,z_ e X.aa)::D' es X.aa:=by rfl) (i:(P_ pos (D' es X.aa)).any (·.1)=false:=by rfl):PE X (.Call (.Name x p) (e::es) [] pos) (OZ r t):=by
 intro pins s σ H Q I h;refine ZT (jM I n q y ?_ B d);exact aer (b6 (z pos pins s σ H _ I h) λF G ⟨N,H1,S,U,Z⟩=>j pins G σ H1 N F Q S U Z) D i
theorem Bc (j:eL X (.type T) r)(n:Gl X x)(q:X.mg x=O)(y:WO x=Y (.type T))(z:PA X (e::es) t)(B:x≠"__name__":=by decide)(d:(x == ("__debug__":M))=false:=by decide)
  (D:D' (e::es) X.aa=(b_,z_ e X.aa)::D' es X.aa:=by rfl) (i:(P_ pos (D' es X.aa)).any (·.1)=false:=by rfl):PE X (.Call (.Name x p) (e::es) [] pos) (OZ r t):=by
 intro pins s σ H Q I h;refine ZT (jM I n q y ?_ B d);exact X4 (b6 (z pos pins s σ H _ I h) λF G ⟨N,H1,S,U,Z⟩=>j pins G σ H1 N F Q S U Z) D i
end
end L2
namespace HT
open PySem PyProof.Rows
section
variable {prog:y_}{w:v_}{A:D_}{E:R->d_->Prop}{s:d_}
theorem Gd {t b:J}{vs ws:List R}{Q:R->d_->Prop}(ht:Yq s.heap t vs.toArray)(hb:Yq s.heap b ws.toArray)(I:vs≠[])
  (h1:ws=[]->Q (.ref t) s) (h2:ws≠[]->Q (.ref s.heap.objs.size) {s with heap:=s.heap.push {cls:=.type "tuple",data:=.seq (vs++ws).toArray}})
  (D:vs.length+ws.length<=p'):g_ (i' prog w) A (WL .Add (.ref t) (.ref b)) Q E s:=by
 obtain⟨⟨cls,N,data,S⟩,z,U,n,Z⟩:=id ht;obtain⟨⟨UE,i,G,j⟩,d,q,n2,y⟩:=id hb;simp only at U Z q y;subst U Z q y;have e:vs.toArray++ws.toArray=(vs++ws).toArray:=by simp
 by_cases B:ws=[]
 .exact ab8 ⟨_,z,rfl⟩ ⟨_,d,rfl⟩ ab' aca abX abW (abV _ _)
   (tuple_addW1 t b vs.toArray ws.toArray n n2 N i S j (by simpa using I) (by simp[B])) ⟨z,d,h1 B⟩
 .refine ab8 ⟨_,z,rfl⟩ ⟨_,d,rfl⟩ ab' aca abX abW (abV _ _)
   (tuple_addW2 t b vs.toArray ws.toArray n n2 N i S j (by simpa using I) (by simpa using B) (by rw[Xc,Xc];exact D)) ⟨z,d,?_⟩
  rw[e];exact h2 B
noncomputable def eT (n d:Nat):Option Int->Nat
 |none=>d
 |some v=>if v<0 then(v+(n:Int)).toNat else WT v.toNat n
theorem Ly (n d:Nat)(j:d<=n)(o:Option Int):eT n d o<=n:=by
 cases o with
 |none=>exact j
 |some v=>
  show(if v<0 then(v+(n:Int)).toNat else WT v.toNat n)<=n;by_cases i:v<0
  .rw[W0 i];lia
  .rw[W5 i];exact adk _ _
theorem yV (v:Int)(n d:Nat):(if v<0 then max (v+(n:Int)) 0 else WT v (n:Int))=((eT n d (Y v):Nat):Int):=by
 show(if v<0 then max (v+(n:Int)) 0 else WT v (n:Int))=(((if v<0 then(v+(n:Int)).toNat else WT v.toNat n):Nat):Int);by_cases i:v<0
 .simp only[W0 i];lia
 .simp only[W5 i];lia
theorem wH (lo hi:Option Int)(n:Nat):Z2 lo hi 1 (n:Int)=(((eT n 0 lo:Nat):Int),((eT n n hi:Nat):Int)):=by
 have h1:¬ ((1:Int)<0):=by lia
 unfold Z2;simp only[h1,if_false];refine Prod.ext ?_ ?_
 .cases lo with
  |none=>rfl
  |some v=>exact yV v n 0
 .cases hi with
  |none=>rfl
  |some v=>exact yV v n n
theorem xY (i j:Nat):YX (i:Int) (j:Int) 1=j-i:=by
 unfold YX;have h1:(1:Int)>0:=by lia
 simp only[h1,if_true,abk];split<;>lia
theorem gS {v:R}{o:Option Int}{Q:Option Int->d_->Prop}(p:U_ v o)(h:Q o s):g_ (i' prog w) A (ae' v) Q E s:=by
 cases p with
 |none=>exact slicePart_none h
 |int i t=>exact slicePart_int h
theorem nY {y:J}{j q:R}{lo hi:Option Int}{n:Nat}{Q:Int×Int×Nat->d_->Prop}(z:s.heap.IsSliceOf y j q .none)(pl:U_ j lo)(B:U_ q hi)
  (h:Q (((eT n 0 lo:Nat):Int),1,eT n n hi-eT n 0 lo) s):g_ (i' prog w) A (aaZ (.ref y) (A' (n:Int))) Q E s:=by
 obtain⟨F,d,D,i⟩:=id z;unfold aaZ aeK;refine WX (WX (X2 d i (x:=j) rfl (WX (X2 d i (x:=q) rfl (WX (X2 d i (x:=.none) rfl (W8 ?_)))))));refine WX (slicePart_none ?_);show g_ _ _ (if ((1:Int) == 0)=L then _ else _) _ _ s;rw[W5 ∅];refine WX (gS pl (WX (gS B (WX (W8 ?_)))));show g_ _ _ (match Z2 lo hi 1 (n:Int) with | (lo,hi)=>A' (lo,(1:Int),YX lo hi 1)) _ _ s;rw[wH lo hi n];show g_ _ _ (A' (((eT n 0 lo:Nat):Int),(1:Int),YX ((eT n 0 lo:Nat):Int) ((eT n n hi:Nat):Int) 1)) _ _ s;rw[xY];exact W8 h
theorem Eg (xs:Array R)(i k:Nat):((C_ k).filterMap λ(m:Nat)=>xs[((i:Int)+(m:Int)*1).toNat]?).toArray=((xs.toList.drop i).take k).toArray:=by
 have e:(λ(m:Nat)=>xs[((i:Int)+(m:Int)*1).toNat]?)=λm=>xs[i+m]?:=by
  funext m;have:((i:Int)+(m:Int)*1).toNat=i+m:=by lia
  rw[this]
 rw[e];have:=pick_run xs i k;rw[abp]at this;have d:((λx=>xs[x]?)∘λx=>i+x)=λm=>xs[i+m]?:=rfl
 rw[d]at this;rw[this]
theorem mL {t j:J}{items:Array R}{D F:R}{lo hi:Option Int}{Q:R->d_->Prop}(i:Yq s.heap t items)(G:s.heap.IsSliceOf j D F .none)(pl:U_ D lo)(I:U_ F hi)
  (N:¬ (eT items.size 0 lo=0/\eT items.size items.size hi=items.size))
  (h:Q (.ref s.heap.objs.size) {s with heap:=s.heap.push {cls:=.type "tuple",data:=.seq ((items.toList.drop (eT items.size 0 lo)).take (eT items.size items.size hi-eT items.size 0 lo)).toArray}})
  (S:items.size<=p'):g_ (i' prog w) A (Yi (.ref t) (.ref j)) Q E s:=by
 have d:sizeOk (.seq ((items.toList.drop (eT items.size 0 lo)).take (eT items.size items.size hi-eT items.size 0 lo)).toArray):=by
  show((items.toList.drop (eT items.size 0 lo)).take (eT items.size items.size hi-eT items.size 0 lo)).toArray.size<=p';rw[Xc,X1,ac',ZF];lia
 have hj:eT items.size items.size hi<=items.size:=Ly _ _ (WY _) hi;obtain⟨U,n,y,Z⟩:=id G;have z:s.TypeIs (.ref j) "slice":=⟨U,n,y⟩;unfold Yi
 try with_reducible refine YV ?_
 first | refine WX (W8 ?_) | skip
 refine WX (aee i.typeIs ∅ ?_);refine WX (Z1 (name:=i_ "__getitem__") i.typeIs XB
  (X8 XB i.typeIs aeq ?_ (aep _ _)))
 show g_ _ _ (acb (.ref t) >>= _) _ _ s;refine WX (tupleItemsOf_ i ?_);refine WX (aaU z ?_);rw[W0 ∅];refine WX (nY G pl I ?_);have B:¬ ((((eT items.size 0 lo:Nat):Int) == 0&&(1:Int) == 1&&(eT items.size items.size hi-eT items.size 0 lo) == items.size)=L):=by
  intro q;rw[Xn,Xn]at q;have q1:((eT items.size 0 lo:Nat):Int)=0:=Zk q.1.1;have q2:eT items.size items.size hi-eT items.size 0 lo=items.size:=Zk q.2;exact N ⟨by lia,by lia⟩
 show g_ _ _ (if (((eT items.size 0 lo:Nat):Int) == 0&&(1:Int) == 1&&(eT items.size items.size hi-eT items.size 0 lo) == items.size)=L then _ else _) _ _ s;rw[W5 B,Eg]
 first
  |exact WX (m:=aeM _) (Xx (W8 ⟨_,rfl,W8 h⟩) d)
  |exact WX (m:=Builtin.Tuple.tupleExact _) (Xx (WX (W8 (W8 ⟨_,rfl,W8 h⟩))) d)
  |exact WX (WX (m:=Builtin.Tuple.tupleExact _) (Xx (W8 (W8 ⟨_,rfl,W8 h⟩)) d))
  |exact WX (WX (m:=Builtin.Tuple.tupleExact _) (Xx (W8 ⟨_,rfl,W8 h⟩) d))
end
end HT
namespace L2
open PySem PySem.Spec PyProof.Rows
abbrev TO:=St->Hp->(Option Int->Hp->Prop)->Prop
def PO (X:Cx)(e:Option e_)(t:TO):Prop:=
 ∀ (pins:List (J×s_)) (s:d_) (σ:St) (H:Hp) (Q:Option Int->Hp->Prop),f_ X pins σ H s->t σ H Q->
  g_ (i' X.ab X.w) X.A (evalPart e X.aa) (λu s'=>∃ o H',f_ X pins σ H' s'/\U_ u o/\Q o H') X.xe s
def fu:TO:=λ_ H Q=>Q O H
def wh (t:TE):TO:=λσ H Q=>t σ H λx H1=>∃ i,x=.ab i/\Q (Y i) H1
section
variable {X:Cx}{e:e_}{te:TE}{lo hi:Option e_}{tl th:TO}{pos p2:u_}
theorem mW:PO X O fu:=by
 intro pins s σ H Q I h;rw[evalPart_none];exact W8 ⟨O,H,I,.none,h⟩
theorem ud (h:PE X e te):PO X (Y e) (wh te):=by
 intro pins s σ H Q I d;rw[evalPart_some];refine b6 (h pins s σ H _ I d) λu z ⟨x,H1,j,n,y⟩=>?_
 obtain⟨i,rfl,q⟩:=y;obtain⟨t,rfl⟩:=n;exact⟨Y i,H1,j,.int i t,q⟩
def FZ (X:Cx)(r:V->Option Int->Option Int->Hp->VK->Prop):Prop:=
 ∀ (pins:List (J×s_)) (s:d_) (σ:St) (H:Hp) (x:V) (v d i:R) (lo hi:Option Int) (j:J) (Q:VK),f_ X pins σ H s->x_ x v->s.heap.IsSliceOf j d i .none->U_ d lo->U_ i hi->r x lo hi H Q->
  ∃ T id,Zz (.type T) "__getitem__" = A' (Y (.builtin id))/\s.TypeIs v T/\g_ (i' X.ab X.w) X.A (Yi v (.ref j)) (EP X pins σ Q) X.xe s
theorem FZ.or {r d:V->Option Int->Option Int->Hp->VK->Prop}(h:FZ X r)(h':FZ X d):FZ X (λx lo hi H Q=>r x lo hi H Q\/d x lo hi H Q):=by
 intro pins s σ H x v i j lo hi n Q I y z B D q;rcases q with q | q
 .exact h pins s σ H x v i j lo hi n Q I y z B D q
 .exact h' pins s σ H x v i j lo hi n Q I y z B D q
def Sn (r:V->Option Int->Option Int->Hp->VK->Prop)(te:TE)(tl th:TO):TE:=λσ H Q=>te σ H λx H1=>tl σ H1 λl H2=>th σ H2 λu d=>r x l u d Q
theorem Ed {r:V->Option Int->Option Int->Hp->VK->Prop}(y:FZ X r)(z:PE X e te)(B:PO X lo tl)(D:PO X hi th):PE X (.Subscript e (.Slice lo hi O p2) pos) (Sn r te tl th):=by
 intro pins s σ H Q I h;refine aaQ (b6 (z pins s σ H _ I h) λv F ⟨x,H1,G,N,S⟩=>?_);refine wpAny_Slice (b6 (B pins F σ H1 _ G S) λi U ⟨l,H2,Z,pl,q2⟩=>b6 (D pins U σ H2 _ Z q2) λj d ⟨u,n,I3,pu,q3⟩=>?_);rw[evalPart_none];refine W8 ?_;have I4:f_ X pins σ n {d with heap:=d.heap.push {cls:=.type "slice",data:=.fields #[i,j,.none]}}:=I3.ai (t':=d.toks) λb ob q=>W7 _ q
 obtain⟨T,id,hT,ht,hg⟩:=y pins {d with heap:=d.heap.push {cls:=.type "slice",data:=.fields #[i,j,.none]}} σ n x v i j l u d.heap.objs.size Q I4 N (aeC ..) pl pu q3;show g_ (i' X.ab X.w) X.A (aaR e (.Slice lo hi O p2) v (.ref d.heap.objs.size)) (EP X pins σ Q) X.xe {d with heap:=d.heap.push {cls:=.type "slice",data:=.fields #[i,j,.none]}};exact tail_any (ops:=[.ref d.heap.objs.size,v]) ht hT hg (by with_unfolding_all rfl)
def u2 (xs:List V)(lo hi:Option Int):List V:=(xs.drop (HT.eT xs.length 0 lo)).take (HT.eT xs.length xs.length hi-HT.eT xs.length 0 lo)
theorem oj (xs:List V)(lo hi:Option Int):(u2 xs lo hi).length<=xs.length:=by
 unfold u2;rw[X1,ac'];lia
def Ow (K:r_):V->Option Int->Option Int->Hp->VK->Prop:=λx lo hi H Q=>∃ a xs,x=.aa a/\eV K H a xs/\
 ¬ (HT.eT xs.length 0 lo=0/\HT.eT xs.length xs.length hi=xs.length)/\∀ p,H p=O->Q (.aa p) (m_ H p (.ab (u2 xs lo hi)))
theorem LS:FZ X (Ow X.K):=by
 intro pins s σ H x v G N lo hi S Q I n y z B h;obtain⟨a,xs,rfl,D,F,q⟩:=h;cases n;obtain⟨i,r,j,hz⟩:=I.ae D;have d:i.toArray.size=xs.length:=by rw[Xc];exact r.aa.symm
 refine⟨"tuple",_,XB.lookup,j.typeIs,?_⟩;refine HT.mL j y z B (by rw[d];exact F) ?_ (by rw[d];exact hz);rw[d];refine⟨.aa s.heap.objs.size,_,I.ag (t':=s.toks) (o:=.ab (u2 xs lo hi)) (λb U q=>W7 _ q) (WY _) ?_,rfl,q _ (I.aa.aa (WY _))⟩;exact⟨Xi (oj xs lo hi) hz,_,(r.ah (HT.eT xs.length 0 lo)).take (HT.eT xs.length xs.length hi-HT.eT xs.length 0 lo),gf.ab _ _⟩
def Oi (K:r_):R2:=λx y H Q=>∃ a b xs ys,x=.aa a/\y=.aa b/\eV K H a xs/\eV K H b ys/\xs≠[]/\xs.length+ys.length<=p'/\
 (ys=[]->Q (.aa a) H)/\(ys≠[]->∀ p,H p=O->Q (.aa p) (m_ H p (.ab (xs++ys))))
theorem x'.px {xs:List V}{us:List R}(r:x' xs us):us=[]↔xs=[]:=by
 induction r using adE with
 |nil=>simp
 |cons _ _=>simp
theorem GX:j7 X (WL .Add) (Oi X.K):=by
 intro pins s σ H x y v u Q I n B h;obtain⟨a,b,xs,ys,rfl,rfl,D,F,G,hz,N,S⟩:=h;cases n;cases B;obtain⟨U,i,Z,_⟩:=I.ae D;obtain⟨j,d,p2,_⟩:=I.ae F;refine HT.Gd Z p2 (λz=>G (i.px.mp z)) (λz=>⟨.aa a,H,I,rfl,N (d.px.mp z)⟩) (λz=>?_) (by rw[<-i.aa,<-d.aa];exact hz);refine⟨.aa s.heap.objs.size,_,I.ag (t':=s.toks) (o:=.ab (xs++ys)) (λb ob q=>W7 _ q) (WY _) ?_,rfl,S (λw=>z (d.px.mpr w)) _ (I.aa.aa (WY _))⟩;exact⟨by rw[Xv];exact hz,_,i.ab d,gf.ab _ _⟩
end
noncomputable def BV (n:Nat)(i:Int):Option Nat:=if 0<=i then(if i<n then Y i.toNat else O) else if -(n:Int)<=i then Y (i+n).toNat else O
def iw {α:Type}(xs:List α)(i:Int):Option α:=(BV xs.length i).bind λj=>xs[j]?
theorem zi {n:Nat}{i:Int}{j:Nat}(h:BV n i=Y j):Z3 i n=Y j/\j<n/\-(n:Int)<=i/\i<n:=by
 unfold BV at h;by_cases d:0<=i
 .rw[W0 d]at h;by_cases h1:i<n
  .rw[W0 h1]at h;have e:i.toNat=j:=Xe h;exact⟨by rw[aaI d h1,e],by lia,by lia,h1⟩
  .rw[W5 h1]at h;cases h
 .rw[W5 d]at h;by_cases h1:-(n:Int)<=i
  .rw[W0 h1]at h;have e:(i+n).toNat=j:=Xe h;exact⟨by rw[ab0 ⋯ h1,e],by lia,h1,by lia⟩
  .rw[W5 h1]at h;cases h
theorem sX {d:Type}{xs:List d}{i:Int}{v:d}(h:iw xs i=Y v):∃ j,Z3 i xs.length=Y j/\xs[j]?=Y v/\j<xs.length/\-(xs.length:Int)<=i/\i<xs.length:=by
 unfold iw at h;cases e:BV xs.length i with
 |none=>rw[e]at h;cases h
 |some j=>
  rw[e]at h;obtain⟨h1,h2,n,q⟩:=zi e;exact⟨j,h1,h,h2,n,q⟩
def yH (b:e_):Prop:=∀ o i,aa0 b b_ o i=operate [o,i] (Yi o i)
def FW (X:Cx)(r:R2):Prop:=
 ∀ (value d:e_) (pins:List (J×s_)) (s:d_) (σ:St) (H:Hp) (x y:V) (v u:R) (Q:VK),f_ X pins σ H s->x_ x v->x_ y u->r x y H Q->
  aa0 d b_ v u=operate [v,u] (Yi v u)->g_ (i' X.ab X.w) X.A (aaR value d v u) (EP X pins σ Q) X.xe s
def SJ (X:Cx)(id:String)(r:V->List V->Hp->VK->Prop):Prop:=
 ∀ (pins:List (J×s_)) (s:d_) (σ:St) (H:Hp) (x:V) (xs:List V) (v:R) (d:List R) (Q:VK),f_ X pins σ H s->x_ x v->x' xs d->r x xs H Q->
  g_ (i' X.ab X.w) X.A (V_ (.builtin id) (v::d)) (EP X pins σ Q) X.xe s
section
variable {X:Cx}{a b:e_}{ta tb:TE}{pos:u_}
theorem FW.or {r i:R2}(h:FW X r)(h':FW X i):FW X (λx y H Q=>r x y H Q\/i x y H Q):=by
 intro value d pins s σ H x y v u Q I j n q z;rcases q with q | q
 .exact h value d pins s σ H x y v u Q I j n q z
 .exact h' value d pins s σ H x y v u Q I j n q z
theorem Oa {r:R2}(d:FW X r)(i:PE X a ta)(hb:PE X b tb)(j:yH b):PE X (.Subscript a b pos) (Fm r ta tb):=by
 intro pins s σ H Q I h;exact aaQ (Ju i hb I h λv u n x y H2 z B D q=>d a b pins n σ H2 x y v u Q z B D q (j _ _))
def Ol (K:r_):R2:=λx y H Q=>∃ p xs i v,x=.aa p/\y=.ab i/\gm K H p xs/\iw xs i=Y v/\Q v H
def Oo (K:r_):R2:=λx y H Q=>∃ p xs i v,x=.aa p/\y=.ab i/\eV K H p xs/\iw xs i=Y v/\Q v H
def Om:R2:=λx y H Q=>∃ z i c,x=.ae z/\y=.ab i/\z.length<=p'/\iw z.cps.toList i=Y c/\Q (.ae ⟨#[c]⟩) H
theorem Gs:FW X (Ol X.K):=by
 intro value n pins s σ H x y v u Q I Z ry h N;obtain⟨p,xs,i,z,rfl,rfl,hq,he,q⟩:=h;cases Z;obtain⟨t,rfl⟩:=ry;obtain⟨B,r,D,hz⟩:=I.aj hq;obtain⟨j,h1,h2,h3,h4,h5⟩:=sX he;obtain⟨w,S,F⟩:=r.ae h2;have hl:=r.aa;have hn:=i6;have d:EP X pins σ Q w s:=⟨z,H,I,F,q⟩;by_cases U:0<=i
 .have G:i.toNat=j:=by
   rw[aaI U h5]at h1;exact Xe h1
  exact item_listR D.isList U ⋯ (by rw[G];simpa using S) d N
 .have G:(i+(B.toArray.size:Int)).toNat=j:=by
   rw[ab0 ⋯ h4]at h1;rw[Xc,<-hl];exact Xe h1
  exact aes (x:=w) D.isList.typeIs abZ.lookup
   (wpAny_getItem_list_neg (Q:=λr s'=>r=w/\EP X pins σ Q r s') D.isList ⋯ (by rw[Xc]<;>lia) ⋯ (by rw[G];simpa using S) ⟨rfl,d⟩) N
theorem J2:FW X (Oo X.K):=by
 intro value d pins s σ H x y v u Q I F G h N;obtain⟨p,xs,i,z,rfl,rfl,S,U,q⟩:=h;cases F;obtain⟨t,rfl⟩:=G;obtain⟨Z,r,D,hz⟩:=I.ae S;obtain⟨j,h1,h2,h3,h4,h5⟩:=sX U;obtain⟨w,ew,n⟩:=r.ae h2;have hl:=r.aa;have hn:=i6;have B:EP X pins σ Q w s:=⟨z,H,I,n,q⟩;exact aes (x:=w) D.typeIs slot_tuple_getitem.lookup
  (aeu (j:=j) (Q:=λr s'=>r=w/\EP X pins σ Q r s') D ⋯ ⋯ (by rw[Xc,<-hl];exact h1) (by simpa using ew) ⟨rfl,B⟩) N
theorem J1:FW X Om:=by
 intro value d pins s σ H x y v u Q I n B h D;obtain⟨z,i,c,rfl,rfl,hz,F,q⟩:=h;obtain⟨t,rfl⟩:=n;obtain⟨t',rfl⟩:=B;obtain⟨j,h1,h2,h3,G,N⟩:=sX F;have S:z.cps.toList.length=z.length:=by simp[Str.length]
 rw[S]at h1 G N;have hn:=i6;exact tail_any (ab5 s z t) slot_str_getitem.lookup (getItem_str (c:=c) (by
  have U:j' (i < -(2 ^ 63:Int))=false:=XU ⋯;have Z:j' (i≥2 ^ 63)=false:=XU ⋯;rw[U,Z,Bool.or_false]) (by rw[h1];simpa using h2) ⟨.ae ⟨#[c]⟩,H,I.af _,⟨_,rfl⟩,q⟩) D
def Oj (K:r_):R2:=λx y H Q=>Ol K x y H Q\/Oo K x y H Q\/Om x y H Q
theorem J0:FW X (Oj X.K):=Gs.or (J2.or J1)
theorem xP (its:List R)(n j:Nat)(u:R):Z9 (·.setIfInBounds j u) {cls:=.type "list",data:=.seq its.toArray n}={cls:=.type "list",data:=.seq (its.set j u).toArray n}:=by
 simp[Z9]
theorem f_.aI {pins:List (J×s_)}{σ:St}{H:Hp}{s:d_}{p:J}{xs:List V}(I:f_ X pins σ H s)(h:H p=Y (.aa xs)) :
  ∃ (its:List R) (n:Nat),x' xs its/\s.heap.get? p=Y {cls:=.type "list",data:=.seq its.toArray n}/\xs.length<=sizeLine:=by
 obtain⟨z,its,n,r,e⟩:=I.aa p _ h;exact⟨its,n,r,e,z⟩
theorem f_.Kf {pins:List (J×s_)}{σ:St}{H:Hp}{s:d_}{p:J}{xs ys:List V}{its its':List R}{n d:Nat}{f:s_->s_}(I:f_ X pins σ H s)(h:H p=Y (.aa xs))
  (j:s.heap.get? p=Y {cls:=.type "list",data:=.seq its.toArray n}) (i:f {cls:=.type "list",data:=.seq its.toArray n}={cls:=.type "list",data:=.seq its'.toArray d}) (r:x' ys its') (hz:ys.length<=p') (t:Nat) :
  f_ X pins σ (m_ H p (.aa ys)) {s with heap:=s.heap.update p f,toks:=t}:=by
 have e:(s.heap.update p f).get? p=Y {cls:=.type "list",data:=.seq its'.toArray d}:=by
  rw[aaG f j (by rw[i]<;>rfl),i]
 refine I.aw (x:=p) (e:=p) (by rw[h];trivial) (.inl rfl) (λb u y q=>(aeb _ _ (R' y)).trans q) ⟨_,e⟩ ?_;exact⟨hz,its',d,r,e⟩
def Eu:V->V->V->Hp->(Hp->Prop)->Prop:=λo i v H Q=>∃ p xs k j,o=.aa p/\i=.ab k/\H p=Y (.aa xs)/\BV xs.length k=Y j/\Q (m_ H p (.aa (xs.set j v)))
theorem acn:Ni X Eu:=by
 intro pins s σ H o i v ov iv u Q I S U Z h;obtain⟨p,xs,k,j,rfl,rfl,D,hj,q⟩:=h;cases S;obtain⟨t,rfl⟩:=U;obtain⟨d,n,r,y,hz⟩:=I.aI D;obtain⟨h1,h2,F,G⟩:=zi hj;have z:=r.aa;have hn:=i6;have I':f_ X pins σ (m_ H p (.aa (xs.set j v))) {s with heap:=s.heap.update p (Z9 (·.setIfInBounds j u))}:=
  I.Kf D y (xP d n j u) (r.ar Z j) (by rw[Y5];exact hz) s.toks
 by_cases N:0<=k
 .have B:k.toNat=j:=by
   rw[aaI N G]at h1;exact Xe h1
  exact PySem.W.ki_setAt y N ⋯ (by rw[Xc,<-z];exact G) (by rw[B];exact⟨_,I',q⟩)
 .have B:(k+(d.toArray.size:Int)).toNat=j:=by
   rw[ab0 ⋯ F]at h1;rw[Xc,<-z];exact Xe h1
  exact PySem.W.ki_setBack y ⋯ (by rw[Xc,<-z];exact F) ⋯ (by rw[B];exact⟨_,I',q⟩)
theorem ur (lo hi:Option Int)(n:Nat):(Yg lo hi O n).1=((HT.eT n 0 lo:Nat):Int)/\(Yg lo hi O n).2.1=((HT.eT n n hi:Nat):Int)/\(Yg lo hi O n).2.2=1:=by
 refine⟨?_,?_,rfl⟩
 .cases lo with
  |none=>simp[Yg,HT.eT]
  |some i=>
   simp only[Yg,HT.eT,adl,show(1:Int)>0 by decide,if_true];by_cases h:i<0
   .simp only[h,if_true]<;>lia
   .simp only[h,if_false]<;>lia
 .cases hi with
  |none=>simp[Yg,HT.eT]
  |some i=>
   simp only[Yg,HT.eT,adl,show(1:Int)>0 by decide,if_true];by_cases h:i<0
   .simp only[h,if_true]<;>lia
   .simp only[h,if_false]<;>lia
theorem lH (its:List R)(lo hi:Option Int):Z0 its.toArray lo hi O=((its.drop (HT.eT its.length 0 lo)).take (HT.eT its.length its.length hi-HT.eT its.length 0 lo)).toArray:=by
 obtain⟨h1,h2,d⟩:=ur lo hi its.toArray.size;unfold Z0;rw[h1,h2,d];simp only[sliceRange_one,pick_run,Xc]<;>rfl
def Ou (K:r_):V->Option Int->Option Int->Hp->VK->Prop:=λx lo hi H Q=>∃ a xs,x=.aa a/\gm K H a xs/\∀ p,H p=O->Q (.aa p) (m_ H p (.aa (u2 xs lo hi)))
theorem HD:FZ X (Ou X.K):=by
 intro pins s σ H x v F G lo hi N Q I j n y z h;obtain⟨a,xs,rfl,B,q⟩:=h;cases j;obtain⟨D,r,i,hz⟩:=I.aj B;have d:=r.aa;refine⟨"list",_,abZ.lookup,i.isList.typeIs,?_⟩;refine aeD i.isList n y z .none nofun ?_ (by rw[Xc]<;>lia);rw[lH,<-d];refine⟨.aa s.heap.objs.size,_,I.ag (t':=s.toks) (o:=.aa (u2 xs lo hi)) (λb S q=>W7 _ q) (WY _) ?_,rfl,q _ (I.aa.aa (WY _))⟩;exact⟨Xi (oj xs lo hi) hz,_,0,(r.ah (HT.eT xs.length 0 lo)).take (HT.eT xs.length xs.length hi-HT.eT xs.length 0 lo),Xo _ rfl⟩
theorem sZ:eL X (.builtin "len") (λxs H Q=>∃ p ys,xs=[.aa p]/\(gm X.K H p ys\/eV X.K H p ys)/\Q (.ab ys.length) H):=by
 intro pins s σ H xs z Q I r h;obtain⟨p,ys,rfl,hq,q⟩:=h;obtain⟨u,rfl,y⟩:=WS r;cases y;have B:=i6;rcases hq with hq | hq
 .obtain⟨i,j,n,hz⟩:=I.aj hq;have d:=j.aa;exact Calls.call_len_list n.isList (by simp only[Xc]<;>lia) ⟨.ab ys.length,H,I.af _,⟨s.toks+1,by rw[Xc,d]⟩,q⟩
 .obtain⟨i,j,n,hz⟩:=I.ae hq;have d:=j.aa;exact len_tuple n (by simp only[Xc]<;>lia) ⟨.ab ys.length,H,I.af _,⟨s.toks+1,by rw[Xc,d]⟩,q⟩
theorem tf:eL X (.builtin "len") (λxs H Q=>∃ z,xs=[.ae z]/\z.length<=p'/\Q (.ab z.length) H):=by
 intro pins s σ H xs d Q I r h;obtain⟨z,rfl,hz,q⟩:=h;obtain⟨u,rfl,t,rfl⟩:=WS r;have i:=i6;exact len_str ⋯ ⟨.ab z.length,H,I.af _,⟨_,rfl⟩,q⟩
theorem eL.or {f:R}{r d:List V->Hp->VK->Prop}(h:eL X f r)(h':eL X f d):eL X f (λxs H Q=>r xs H Q\/d xs H Q):=by
 intro pins s σ H xs i Q I j q;rcases q with q | q
 .exact h pins s σ H xs i Q I j q
 .exact h' pins s σ H xs i Q I j q
theorem ti:eL X (.type "list") (λxs H Q=>∃ p ys,xs=[.aa p]/\(gm X.K H p ys\/eV X.K H p ys)/\∀ l,H l=O->Q (.aa l) (m_ H l (.aa ys))):=by
 intro pins s σ H xs U Q I r h;obtain⟨p,ys,rfl,hq,q⟩:=h;obtain⟨u,rfl,S⟩:=WS r;cases S;have y:∀ (d:List R),x' ys d->ys.length<=p'->∀ (h':k_) (i:Nat),(∀ b o',s.heap.get? b=Y o'->h'.get? b=Y o')->
   h'.get? s.heap.objs.size=Y {cls:=.type "list",dict:=O,data:=.seq d.toArray i,slots:=#[]}->EP X pins σ Q (.ref s.heap.objs.size) {s with heap:=h'}:=λd j hz h' i z e=>
  ⟨.aa s.heap.objs.size,_,I.ag (t':=s.toks) z (WY _) (show dc X.ab X.w _ h' _ (.aa ys) from⟨hz,d,i,j,e⟩),rfl,q _ (I.aa.aa (WY _))⟩
 rcases hq with hq | hq
 .obtain⟨d,j,D,hz⟩:=I.aj hq;have B:=j.aa;obtain⟨o,F,G,n,N⟩:=D.isList;exact call_list_seq p (.inl rfl) F G N (λh' i z e=>y d j hz h' i z e) (by simp only[Xc]<;>lia)
 .obtain⟨d,j,D,hz⟩:=I.ae hq;have B:=j.aa;obtain⟨o,F,G,n,N⟩:=D;exact call_list_seq p (.inr rfl) F G N (λh' i z e=>y d j hz h' i z e) (by simp only[Xc]<;>lia)
theorem qK:eL X (.type "tuple") (λxs H Q=>∃ p ys,xs=[.aa p]/\((gm X.K H p ys/\∀ l,H l=O->Q (.aa l) (m_ H l (.ab ys)))\/(eV X.K H p ys/\Q (.aa p) H))):=by
 intro pins s σ H xs G Q I r h;obtain⟨p,ys,rfl,h⟩:=h;obtain⟨u,rfl,B⟩:=WS r;cases B;rcases h with⟨i,q⟩ | ⟨i,q⟩
 .obtain⟨d,j,n,hz⟩:=I.aj i;have y:=j.aa;refine call_tuple_list n.isList (λh' D=>?_) (by simp only[Xc]<;>lia);have z:f_ X pins σ H {s with heap:=h'}:=I.ai (t':=s.toks) D;have F:f_ X pins σ (m_ H h'.objs.size (.ab ys)) {s with heap:=h'.push {cls:=.type "tuple",data:=.seq d.toArray}}:=
   z.ag (t':=s.toks) (λb o e=>W7 _ e) (WY _) (show dc X.ab X.w _ _ _ (.ab ys) from⟨hz,d,j,gf.ab _ _⟩)
  exact⟨.aa h'.objs.size,_,F,rfl,q _ (z.aa.aa (WY _))⟩
 .obtain⟨d,j,n,hz⟩:=I.ae i;exact call_tuple_same n ⟨.aa p,H,I,rfl,q⟩
def Ql (K:r_)(T:String)(x:V)(H:Hp):Prop:=match x with
 |.ae _=>T = "str"
 |.ab _=>T = "int"
 |.aa p=>(T = "list"/\∃ xs,gm K H p xs)\/(T = "tuple"/\∃ o,K.lookup p=Y o/\o.cls=.type "tuple"/\o.dict=O)\/
   (T = "dict"/\((∃ d,H p=Y (.dK d))\/∃ d,H p=Y (.dT d)))\/(T = "set"/\∃ S n,H p=Y (.ag S n))
 |_=>False
theorem Fy {pins:List (J×s_)}{σ:St}{H:Hp}{s:d_}{T:String}{x:V}{v:R}(I:f_ X pins σ H s)(r:x_ x v)(ty:Ql X.K T x H) :
  s.TypeIs v T/\∀ a,v=.ref a->∃ B,s.heap.get? a=Y B/\B.dict=none:=by
 cases x with
 |ae z=>
  obtain⟨t,rfl⟩:=r;cases(show T = "str" from ty);exact⟨ab5 s z t,λ_ e=>nomatch e⟩
 |ab i=>
  obtain⟨t,rfl⟩:=r;cases(show T = "int" from ty);exact⟨ab3 s i t,λ_ e=>nomatch e⟩
 |aa p=>
  cases r;rcases ty with⟨rfl,xs,F⟩ | ⟨rfl,o,d,G,j⟩ | ⟨rfl,d⟩ | ⟨rfl,S,n,d⟩
  .obtain⟨N,_,D,_⟩:=I.aj F;refine⟨D.isList.typeIs,λa e=>?_⟩;cases e;obtain⟨o,n,e,c,j,_⟩:=D;exact⟨o,e,j⟩
  .refine⟨⟨o,I.oE p o d,G⟩,λa e=>?_⟩;cases e;exact⟨o,I.oE _ o d,j⟩
  .have z:∃ o,s.heap.get? p=Y o/\o.ExactDict:=by
    rcases d with⟨q,d⟩ | ⟨q,d⟩
    .obtain⟨_,_,_,_,o,_,_,e,ex,_⟩:=I.aa p _ d;exact⟨o,e,ex⟩
    .obtain⟨_,_,_,_,o,_,_,e,ex,_⟩:=I.aa p _ d;exact⟨o,e,ex⟩
   obtain⟨o,e,ex⟩:=z;refine⟨⟨o,e,ex.1⟩,λa y=>?_⟩;cases y;exact⟨o,e,ex.2.1⟩
  .obtain⟨o,_,_,_,e,ex,_⟩:=I.aa p _ d;refine⟨⟨o,e,ex.1⟩,λa y=>?_⟩;cases y;exact⟨o,e,ex.2.1⟩
 |_=>exact M' ty
def HL (K:r_)(T:String)(r:V->List V->Hp->VK->Prop)(to:TE):TE:=λσ H Q=>to σ H λx H1=>Ql K T x H1/\r x [] H1 Q
def OY (K:r_)(T:String)(r:V->List V->Hp->VK->Prop)(to:TE)(t:TA):TE:=λσ H Q=>to σ H λx H1=>Ql K T x H1/\t σ H1 λxs H2=>r x xs H2 Q
variable {o e:e_}{es:List e_}{to:TE}{t:TA}{name:M}{apos jE:u_}{T id:String}{r:V->List V->Hp->VK->Prop}
theorem D4 (z:PlainAttrs T)(j:Slot T name id)(n:typeOf (.builtin id)=A' (.type "method_descriptor"))(B:SJ X id r)(D:PE X o to)
  (d:YG o name X.aa (z_ o X.aa)=z_ o X.aa:=by rfl) (i:(apos.endLine == jE.line)=true:=by rfl):PE X (.Call (.Attribute o name apos) [] [] jE) (HL X.K T r to):=by
 intro pins s σ H Q I h;refine wpAny_Call_method0_late d i (b6 (D pins s σ H _ I h) λv F ⟨x,H1,q,y,G,N⟩=>?_);obtain⟨h1,h2⟩:=Fy q y G;exact⟨T,id,z,j,n,h1,h2,abL rfl (PySem.evalArgs_none (B pins F σ H1 x [] v [] Q q y .nil N))⟩
theorem D3 (F:PlainAttrs T)(n:Slot T name id)(y:typeOf (.builtin id)=A' (.type "method_descriptor"))(G:SJ X id r)(N:PE X o to)(S:PA X (e::es) t)
  (i:YG o name X.aa (z_ o X.aa)=z_ o X.aa:=by rfl)
  (q:((P_ jE (D' (e::es) X.aa)).all (λx=>!x.1)&&(Zc jE (Zd [] X.aa)).all (λx=>x.1.isSome)
   &&j' ((e::es).length+([]:List Yj).length+(if ([]:List Yj).isEmpty then 0 else 1)<30))=true:=by rfl)
  (j:(apos.endLine == jE.line)=true:=by rfl) (U:D' (e::es) X.aa=(b_,z_ e X.aa)::D' es X.aa:=by rfl) (d:(P_ jE (D' es X.aa)).any (·.1)=false:=by rfl) :
  PE X (.Call (.Attribute o name apos) (e::es) [] jE) (OY X.K T r to t):=by
 intro pins s σ H Q I h;refine wpAny_Call_method_late i q j rfl (b6 (N pins s σ H _ I h) λv Z ⟨x,H1,z,B,ty,q1⟩=>?_);obtain⟨h1,h2⟩:=Fy z B ty;refine⟨T,id,F,n,y,h1,h2,?_⟩;have D:=S jE pins Z σ H1 _ z q1;rw[U]at D ⊢;refine abL (by show(b_ || (P_ jE (D' es X.aa)).any (·.1))=b_;rw[d]<;>rfl) (adz ?_);exact b6 D λus s2 ⟨vs,H2,I2,r2,q2⟩=>G pins s2 σ H2 x vs v us Q I2 B r2 q2
end
def Nc (X:Cx)(id:String)(r:V->List V->Hp->VK->Prop):Prop:=
 ∀ (pins:List (J×s_)) (s:d_) (σ:St) (H:Hp) (x:V) (xs:List V) (v:R) (d:List R) (Q:VK),f_ X pins σ H s->x_ x v->x' xs d->r x xs H Q->
  g_ (i' X.ab X.w) X.A (V_ (.builtin id) (v::d)) (EP X pins σ Q) X.xe s
theorem x'.aj {x:V}{us:List R}(h:x' [x] us):∃ u,us=[u]/\x_ x u:=by
 obtain _ | ⟨r,_ | _⟩:=h;exact⟨_,rfl,r⟩
theorem x'.ao:∀ {us:List R},x' [] us->us=[]
 |_,.nil=>rfl
theorem x'.ai {xs:List V}{us:List R}(h:x' xs us):x' xs.dropLast us.dropLast:=by
 induction h with
 |nil=>exact .nil
 |cons r t d=>
  induction t using adE with
  |nil=>exact .nil
  |cons q i=>exact .cons r d
theorem x'.af:∀ {xs:List V}{us:List R} (i:Nat),x' xs us->x' (xs.eraseIdx i) (us.eraseIdx i)
 |_,_,_,.nil=>.nil
 |_,_,0,.cons _ t=>t
 |_,_,i+1,.cons r t=>.cons r (x'.af i t)
theorem x'.ag {xs:List V}{us:List R}(h:x' xs us):x' xs.reverse us.reverse:=by
 induction h with
 |nil=>exact .nil
 |cons r t d=>rw[aaj,aaj];exact x'.ab d (.cons r .nil)
theorem x'.aq {xs:List V}{us:List R}(h:x' xs us):∀ k:Nat,x' (B' k xs).flatten (B' k us).flatten
 |0=>.nil
 |k+1=>by
  rw[XT,XT,Y4,Y4];exact x'.ab h (x'.aq h k)
theorem xm {d:Type}(l:List d):l.eraseIdx (l.length-1)=l.dropLast:=by
 induction l with
 |nil=>rfl
 |cons a r i=>
  cases r with
  |nil=>rfl
  |cons b r=>
   have e:(a::b::r).length-1=((b::r).length-1)+1:=by
    have h1:(a::b::r).length=r.length+2:=rfl;have h2:(b::r).length=r.length+1:=rfl;lia
   rw[e,List.eraseIdx_cons_succ,i]
   all_goals rfl
theorem rN {d:Type}:∀ (l:List d) (i:Nat),(l.eraseIdx i).length<=l.length
 |[],_=>WY _
 |_::_,0=>Yo _
 |_::r,i+1=>aau (rN r i)
theorem aa4 (its:List R):∀ (k:Nat) (d:List R),
  abB (λi j=>i++j) d.toArray (B' k its.toArray)=(d++(B' k its).flatten).toArray
 |0,d=>by simp
 |k+1,d=>by
  have e:d.toArray++its.toArray=(d++its).toArray:=by simp
  have n:(d++its)++(B' k its).flatten=d++(B' (k+1) its).flatten:=by
   rw[XT,Y4,XO]
  rw[<-n,<-aa4 its k (d++its),<-e,XT,List.foldl_cons]
section
variable {X:Cx}{pins:List (J×s_)}{σ:St}{H:Hp}{s:d_}{l:J}{xs ys:List V}
theorem f_.DG {its its':List R}{n:Nat}{f:Array R->Array R}{t':Nat}(I:f_ X pins σ H s)(d:H l=Y (.aa xs))
  (e:s.heap.get? l=Y {cls:=.type "list",data:=.seq its.toArray n}) (i:f its.toArray=its'.toArray) (j:x' ys its') (hz:ys.length<=p') :
  f_ X pins σ (m_ H l (.aa ys)) {s with heap:=s.heap.update l (Z9 f),toks:=t'}:=by
 have q:=PySem.IsL.update e f;rw[i]at q;refine I.aw (x:=l) (e:=l) (by rw[d];exact trivial) (.inl rfl) (λB u y z=>(aeb s.heap (Z9 f) (R' y)).trans z) ⟨_,q⟩ ?_;exact⟨hz,its',_,j,q⟩
theorem f_.DB {its:List R}{t':Nat}(I:f_ X pins σ H s)(d:x' ys its)(hz:ys.length<=p') :
  f_ X pins σ (m_ H s.heap.objs.size (.aa ys)) {s with heap:=s.heap.push {cls:=.type "list",data:=.seq its.toArray},toks:=t'}:=
 I.ag (λ_ _ q=>W7 _ q) (WY _) ⟨hz,its,0,d,Xo _ rfl⟩
theorem f_.aC (I:f_ X pins σ H s):H s.heap.objs.size=none:=I.aa.aa (WY _)
theorem f_.tZ (I:f_ X pins σ H s)(d:H l=Y (.aa xs)):xs.length<=p'/\∃ (its:List R) (n:Nat),x' xs its/\xs.length=its.length/\s.heap.get? l=Y {cls:=.type "list",data:=.seq its.toArray n}:=by
 obtain⟨z,its,n,r,e⟩:=I.aa l _ d;exact⟨z,its,n,r,r.aa,e⟩
theorem vK {n:Nat}(h:n<=p'):aaY n=false:=by
 unfold aaY;exact XU ⋯
end
section
variable {X:Cx}
def ug:V->List V->Hp->VK->Prop:=λx d H Q=>∃ l xs y,x=.aa l/\d=[y]/\H l=Y (.aa xs)/\xs.length<p'/\Q .aQ (m_ H l (.aa (xs++[y])))
theorem nU:Nc X "list.append" ug:=by
 intro pins s σ H x G v N Q I j B h;obtain⟨l,xs,y,rfl,rfl,i,hz,q⟩:=h;cases j;obtain⟨u,rfl,D⟩:=B.aj;obtain⟨z,d,n,r,S,e⟩:=I.tZ i;refine YW ad5 ⟨_,e,rfl⟩ F.entry_list_append (F.args_list_append_2 _ _) (PySem.list_append l d.toArray n u (by rw[Xc];lia)) ⟨e,?_⟩;refine⟨.aQ,_,I.DG (its':=d++[u]) i e nofun (r.ab (.cons D .nil)) ?_,rfl,q⟩;rw[Xv,acO];lia
def uh:V->List V->Hp->VK->Prop:=λx d H Q=>∃ l b xs zs,x=.aa l/\d=[.aa b]/\H l=Y (.aa xs)/\H b=Y (.aa zs)/\xs.length+zs.length<=p'/\Q .aQ (m_ H l (.aa (xs++zs)))
theorem A6:Nc X "list.extend" uh:=by
 intro pins s σ H x vs v us Q I D G h;obtain⟨l,b,xs,zs,rfl,rfl,B,N,hz,q⟩:=h;cases D;obtain⟨u,rfl,S⟩:=G.aj;cases S;obtain⟨z,i,n,r,hl,e⟩:=I.tZ B;obtain⟨z2,d,U,Z,Wk,e2⟩:=I.tZ N;have y:i.toArray.size+d.toArray.size<=sizeLine:=by rw[Xc,Xc];lia
 have j:¬ (!i.toArray.isEmpty&&aaY (i.toArray.size+d.toArray.size))=true:=by
  rw[vK y,Bool.and_false];exact Xb
 refine YW ad7 ⟨_,e,rfl⟩ F.entry_list_extend (F.args_list_extend_2 _ _)
  (AutoSeq1.list_extend_list_list_0 l i.toArray n b d.toArray U j (by rw[Xc];lia) ⋯) ⟨e,e2,?_⟩
 refine⟨.aQ,_,I.DG (its':=i++d) B e nofun (r.ab Z) ?_,rfl,q⟩;rw[Xv];lia
def Lh:V->List V->Hp->VK->Prop:=λx d H Q=>∃ l xs y,x=.aa l/\d=[]/\H l=Y (.aa xs)/\xs[xs.length-1]?=Y y/\Q y (m_ H l (.aa xs.dropLast))
theorem Km:Nc X "list.pop" Lh:=by
 intro pins s σ H x Z v us Q I B D h;obtain⟨l,xs,y,rfl,rfl,j,G,q⟩:=h;cases B;have i:=D.ao;subst i;obtain⟨z,d,n,r,N,e⟩:=I.tZ j;obtain⟨u,S,U⟩:=r.ae G;have Vb:d.toArray[d.toArray.size-1]?=Y u:=by
  show d.toArray[d.length-1]?=Y u;rw[<-acH,<-N];exact S
 refine YW aaE ⟨_,e,rfl⟩ ad9 (F.args_list_pop_1 _) (MeetsSeq.list_pop_last l d.toArray n u Vb (by rw[Xc];lia)) ⟨e,?_⟩;refine⟨y,_,I.DG (its':=d.dropLast) j e ?_ r.ai ?_,U,q⟩
 .show d.toArray.eraseIdxIfInBounds (d.toArray.size-1)=d.dropLast.toArray;rw[Xc,adb,xm]
 .rw[List.length_dropLast];lia
def yb:V->List V->Hp->VK->Prop:=λx d H Q=>∃ l xs i k y,x=.aa l/\d=[.ab i]/\H l=Y (.aa xs)/\-(2 ^ 63)<=i/\i<2 ^ 63/\Z3 i xs.length=Y k/\xs[k]?=Y y/\Q y (m_ H l (.aa (xs.eraseIdx k)))
theorem DU:Nc X "list.pop" yb:=by
 intro pins s σ H x vs v us Q I D G h;obtain⟨l,xs,i,k,y,rfl,rfl,B,h1,h2,N,S,q⟩:=h;cases D;obtain⟨u,rfl,U⟩:=G.aj;obtain⟨t,rfl⟩:=U;obtain⟨z,d,n,r,Z,e⟩:=I.tZ B;obtain⟨w,hw,j⟩:=r.ae S;refine YW aaE ⟨_,e,rfl⟩ ad9 (F.args_list_pop_2 _ _)
  (MeetsSeq.list_pop_at l d.toArray n i t k w (fitsIndex_both h1 h2) (by rw[Xc,<-Z];exact N) (by rw[<-acH];exact hw) (by rw[Xc];lia)) ⟨e,?_⟩
 refine⟨y,_,I.DG (its':=d.eraseIdx k) B e ?_ (r.af k) ?_,j,q⟩
 .show d.toArray.eraseIdxIfInBounds k=(d.eraseIdx k).toArray;rw[adb]
 .have:=rN xs k;lia
def ya:V->List V->Hp->VK->Prop:=λx d H Q=>∃ l xs,x=.aa l/\d=[]/\H l=Y (.aa xs)/\Q .aQ (m_ H l (.aa []))
theorem DT:Nc X "list.clear" ya:=by
 intro pins s σ H x D v G Q I y B h;obtain⟨l,xs,rfl,rfl,j,q⟩:=h;cases y;have d:=B.ao;subst d;obtain⟨z,i,n,r,N,e⟩:=I.tZ j;refine YW ad6 ⟨_,e,rfl⟩ F.entry_list_clear (F.args_list_clear_1 _) (AutoSeq1.list_clear_list_0 l i.toArray n (by rw[Xc];lia)) ⟨e,?_⟩;exact⟨.aQ,_,I.DG (its':=[]) (ys:=[]) j e rfl .nil (Xl _),rfl,q⟩
def Oh:R2:=λx y H Q=>∃ l b xs zs,x=.aa l/\y=.aa b/\H l=Y (.aa xs)/\H b=Y (.aa zs)/\xs.length+zs.length<=p'/\∀ p,H p=O->Q (.aa p) (m_ H p (.aa (xs++zs)))
theorem Kv:j7 X (WL .Add) Oh:=by
 intro pins s σ H x y v u Q I j B h;obtain⟨l,b,xs,zs,rfl,rfl,D,F,hz,q⟩:=h;cases j;cases B;obtain⟨z,i,n,r,Z,e⟩:=I.tZ D;obtain⟨z2,d,n2,G,N,S⟩:=I.tZ F;refine PySem.P.add_list e S ?_ (by rw[Xc,Xc];lia);have U:i.toArray++d.toArray=(i++d).toArray:=by simp
 rw[U];exact⟨.aa _,_,I.DB (t':=s.toks) (r.ab G) (by rw[Xv];lia),rfl,q _ I.aC⟩
def Ot:R2:=λx y H Q=>∃ l k xs,x=.aa l/\y=.ab k/\H l=Y (.aa xs)/\-(2 ^ 63)<=k/\k<2 ^ 63/\xs.length*k.toNat<=p'/\
 ∀ p,H p=O->Q (.aa p) (m_ H p (.aa (B' k.toNat xs).flatten))
theorem acr {d:Type}(xs:List d)(k:Nat):(B' k xs).flatten.length=k*xs.length:=by
 induction k with
 |zero=>simp
 |succ k i=>rw[XT,Y4,Xv,i,adh,Yz]
theorem KG:j7 X (WL .Mult) Ot:=by
 intro pins s σ H x y v u Q I Z ry h;obtain⟨l,k,xs,rfl,rfl,hH,h1,h2,hz,q⟩:=h;cases Z;obtain⟨t,rfl⟩:=ry;obtain⟨z,d,n,r,hl,e⟩:=I.tZ hH;have j:d.toArray.size*k.toNat<=sizeLine:=by rw[Xc,<-hl];exact hz
 have B:¬ d.toArray.size*k.toNat>(2 ^ 63-1)/8:=by
  have:(p':Nat)<=(2 ^ 63-1)/8:=by decide
  lia
 have D:¬ (!ae9 k)=true:=by
  rw[fitsIndex_both h1 h2];exact Xb
 have i:¬ aaY (d.toArray.size*k.toNat)=true:=by
  rw[vK j];exact Xb
 have G:abB (λN S=>N++S) #[] (B' (if d.toArray.isEmpty=L then 0 else k.toNat) d.toArray)=(B' k.toNat d).flatten.toArray:=by
  have f0:∀ m:Nat,abB (λN S=>N++S) #[] (B' m d.toArray)=(B' m d).flatten.toArray:=λm=>by
   have:=aa4 d m [];rw[ZJ]at this;exact this
  rw[f0];cases d with
  |nil=>simp
  |cons a r'=>rw[W5 nofun]
 refine wpAny_binaryOp_repeat_ref (T:="list") (U:="int") ∅ ⟨_,e,rfl⟩ (λs'=>ab3 s' k t) noFill_list_mul F.fills_int_mul ad4 repeat_list F.slot_int_index.lookup
  (YW ad4 (ab3 s k t) F.entry_int_rmul (F.args_int_rmul_2 _ _) (int___rmul___int_list k t l d.toArray n)
   ⟨e,rfl,⟨_,e,rfl⟩,YW F.slot_list_mul ⟨_,e,rfl⟩ F.entry_list_mul (F.args_list_mul_2 _ _) (AutoListH.list___mul___list_int_3 l d.toArray n k t D B i) ⟨e,?_⟩⟩)
 rw[G];exact⟨.aa _,_,I.DB (t':=s.toks) (r.aq k.toNat) (by rw[acr,Nat.mul_comm];exact hz),rfl,q _ I.aC⟩
end
end L2
namespace Att
open PySem PySem.W PySem.Calls PyProof.Rows
theorem oU {P:Params}{h:k_}:∀ (ns:List Int) (vs:List R),WellAll P h vs (ns.map aeU)->ZZ vs ns:=by
 intro ns
 induction ns with
 |nil=>
  intro vs w;rw[aai]at w;cases w;exact .nil
 |cons n ns d=>
  intro vs w;rw[Xq]at w;cases w with
  |cons a b=>
   cases a;exact .cons _ _ (d _ b)
theorem Bp {l:ZP}{n:Nat}(N:l.most=Y n){P:Params}{h:k_}{args:List WData}{i:List R}
  (j:l.row.toRowW.claim.pre args=L) (F:WellAll P h i args) :
  ∃ a vs ns,i=[I_ a]/\args=[WData.list (ns.map aeU)]/\h.get? a=Y {cls:=.type "list",data:=.seq vs.toArray}/\ZZ vs ns/\ns.length<=n:=by
 have G:WShape.hasAll [] args [.list .int]=true:=(pre_splitW j).1;have I:l.pre.holds [] {args:=args}=true:=(pre_splitW j).2;obtain⟨d,r,rfl,h1,h2⟩:=hasAllW_cons G;obtain rfl:=hasAllW_nil h2;obtain⟨xs,rfl,S⟩:=hasW_list h1;obtain⟨ns,rfl⟩:=items_int S;have y:ns.length<=n:=by
  unfold OpenLaw.pre at I;have B:(WTm.not (.lt (.lit (.int (n:Int))) (.len (.arg 0)))).holds [] {args:=[.list (ns.map .int)]}=true:=by
   have B:=(holds_andW I).1;rw[N]at B;exact B
  have D:=condW_of B (w_not (w_lt w_lit (w_len_list (w_arg rfl))));rw[Xw]at D;refine ade λq=>?_
  have q':(n:Int)<((ns.length:Nat):Int):=by lia
  first
   |(rw[decide_eq_true q']at D;exact absurd D ∅)
   |(simp at D;lia)
 cases F with
 |cons U Z=>
  cases Z;cases U with
  |list ho z=>exact⟨_,_,ns,rfl,rfl,ho,oU ns _ z,y⟩
theorem Bi (l:ZP)(args:List WData):l.row.toRowW.claim.post args (.bool L) args=true:=
 postW_of (r:=l.row.toRowW) (X:=(L == L))
  (show WShape.has [] (.bool L) .bool=L by first | rfl | decide | simp[WShape.has,WShape.arms,WShape.armsAll])
  (show(WTm.eq .res (.lit (.bool L))).value [] {args:=args,res:=Y (.bool L),after:=args}=Y (.bool (L == L)) from w_eq_bool (w_res rfl) w_lit) rfl
theorem uL {l:ZP}{n:Nat}{q:y_}{j:List M}{XP:(M->Option R)->k_->Prop}{YP:v_->k_->Prop}{d:DefRec}
  (hn:l.most=Y n) (Z:d.params.defaults=[])
  (D:∀ (w:v_) (y i:d_) (mg mb:M->Option R) (F:J) (o:s_) (pm U z:R) (a:J) (vs:List R) (ns:List Int),
   Ground q j [] XP w y mg mb i.heap->YP w i.heap->
   i.heap.get? F=Y o->o.data=.func (docDef d.name d.params d.body d.scope pm U z)->i.heap.CodeRec U d.name->mg d.name=Y (.ref F)->
   i.heap.get? a=Y {cls:=.type "list",data:=.seq vs.toArray}->ZZ vs ns->ns.length<=n->i.gens=#[]->
   WV (i' l.prog w) Y' (.call (.ref F) ⟨[.ref a],[]⟩) (λr s'=>r=.ok (.ret (.bool L))/\OldK i.heap s'.heap/\s'.os=i.os/\YD s'.gens) i) :
  abD q j XP YP l.row.toRowW d [] (λf vs=>V_ f vs):=by
 intro w y i mg mb G afd F o pm U z dV kV ho hd PL hD U7 hg args vals as I U6 Wt Va Wl;obtain rfl:dV=.none:=Dflts.none hD Z;obtain rfl:kV=.none:=Dflts.noKw hD;obtain⟨a,vs,ns,rfl,rfl,N,B,S⟩:=Bp hn I Va;refine enter_call (aaJ (D w y i mg mb F o pm U z a vs ns G afd ho (fd_plain hd) PL U7 N B S hg) λr s' hq=>?_);obtain⟨rfl,h2,h3,h4⟩:=hq;exact⟨.inl ⟨.bool L,.bool L,[],rfl,λ_=>rfl,.bool L,Bi l _,λ_=>⟨aeW,λ_ hm=>(nomatch hm)⟩⟩,h2,h3,h4⟩
end Att
namespace L2
open PySem PySem.Spec PyProof.Rows
theorem sE:∀ {vs:List R}{ns:List Int},ZZ vs ns->x' (ns.map V.ab) vs
 |_,_,.nil=>.nil
 |_,_,.cons n t h=>.cons ⟨t,rfl⟩ (sE h)
def FY (H:Hp):Prop:=∀ b,H b=O\/∃ o xs,H b=Y (.ji o (.aa xs))
theorem Dx {P:y_}{w:v_}{K:r_}{mg mb:M->Option R}{CX:z6}{k:Nat}{fa a:J}{fd:P'}{x:M}{sp:Sp}{s₁:d_}{vs:List R}{ns:List Int}
  (KX:K.In s₁.heap) (D:s₁.heap.Ns S_ mg) (hb:s₁.heap.Ns acg mb) (UZ:∀ x:M,x≠"__name__"->mb x=WO x) (G:s₁.heap.NoLimit) (hg:s₁.gens=#[])
  (ha:s₁.heap.get? a=Y {cls:=.type "list",data:=.seq vs.toArray}) (hi:ZZ vs ns) (hl:ns.length<=p') (hr:eQ k Y')
  (F:∀ base:k_,K.In base->base.Ns S_ mg->d3 P w K mg base CX k fa fd [x] sp) (B:∀ (s:d_) (u:R),ZS s fd ⟨[u],[]⟩ [(x,u)])
  (PM:∀ H:Hp,FY H->gm K H a (ns.map V.ab)->sp [.aa a] H (λv _=>v=.bl L) λ_ _ _=>False)
  (UP:∀ H e s',CX [] H s₁ (λ_ _ _=>False) e s'->False) :
  WV (i' P w) Y' (.call (.ref fa) ⟨[.ref a],[]⟩) (λr s'=>r=.ok (.ret (.bool L))/\OldK s₁.heap s'.heap/\s'.os=s₁.os/\YD s'.gens) s₁:=by
 have rv:=sE hi;have I:=hi.length;have y:∀ H:Hp,FY H->gm K H a (ns.map V.ab)->f9 P w H s₁.heap->(∀ b,H b≠O->b=a)->(H a≠O->K.lookup a=O)->
   WV (i' P w) Y' (.call (.ref fa) ⟨[.ref a],[]⟩) (λr s'=>r=.ok (.ret (.bool L))/\OldK s₁.heap s'.heap/\s'.os=s₁.os/\YD s'.gens) s₁:=by
  intro H hO hS N hA hK;have i:∀ {b:J}{o:s_},s₁.heap.get? b=Y o->H b=O->(tR s₁.heap H).get? b=Y o:=λe n=>Df e n
  have noA:∀ {b:J}{o:s_}{es:Array ZA}{ep:Nat},s₁.heap.get? b=Y o->o.data=.dict es ep->H b=none:=λ{b o es ep} e d=>by
   cases q:H b with
   |none=>rfl
   |some u=>
    have e':b=a:=hA b (by rw[q];simp);subst e';rw[ha]at e;rcases e;have d':Data.seq vs.toArray _=Data.dict es ep:=d;cases d'
  have j:∀ {b:J}{m:M->Option R},s₁.heap.Ns b m->(tR s₁.heap H).Ns b m:=λ{b m} ⟨o,es,ep,e,d,r⟩=>⟨o,es,ep,i e (noA e d),d,r⟩
  have S:K.In (tR s₁.heap H):=λb o e=>i (KX b o e) (by
   cases q:H b with
   |none=>rfl
   |some u=>
    have e':b=a:=hA b (by rw[q];simp);subst e';rw[hK (by rw[q];simp)]at e;cases e)
  have hM:Mod K mg (tR s₁.heap H):=⟨S,j D,⟨mb,j hb,UZ⟩,let ⟨mc,h1,h2⟩:=G;⟨mc,j h1,h2⟩⟩;have e0:wB P w K mg (tR s₁.heap H) Y' [] s₁ H:=⟨rfl,hM,λb o e=>GS e,aby (AH _ _),trivial,λb hb=>absurd (show b∈([]:List J) from hb) nofun,N,.of_eq hg⟩;refine aaJ ((F _ S (j D)).aa Y' [] s₁ H ⟨[.ref a],[]⟩ [.ref a] [.aa a] _ _ hr e0 (B s₁ (.ref a)) (.cons rfl .nil) (PM H hO hS)) λr s' h=>?_
  cases r with
  |error e=>exact(UP H e s' h).elim
  |ok fl=>
   cases fl with
   |next=>exact M' h
   |brk=>exact M' h
   |cont=>exact M' h
   |ret u=>
    obtain⟨v,H',os,U,un,Z,r',q⟩:=h;have q':v=.bl true:=q;subst q';obtain rfl:u=aa2 true:=r';refine⟨rfl,OldK.of_keep λb o e=>?_,os,U⟩;cases q:H b with
    |none=>exact un.ab b o e q (by intro z;exact absurd (show b∈([]:List J) from z) nofun) nofun
    |some u=>
     rcases hO b with z | ⟨ob,xs,z⟩
     .rw[q]at z;cases z
     .have z2:=un.af b ob _ z;obtain⟨e1,_⟩:=N b _ z;obtain⟨e2,_⟩:=Z b _ z2;rw[e]at e1;rcases e1;exact e2
 cases hk:K.lookup a with
 |some o=>
  have e:=KX a o hk;rw[ha]at e
  rcases e
  refine y (λ_=>O) (λ_=>.inl rfl) (.inr ⟨_,vs.toArray,_,hk,rfl,rfl,rfl,by rw[Xc,I];exact hl,by simpa using rv⟩) (λb u z=>by have z':(O:Option HO)=Y u:=z;cases z') (λb z=>absurd rfl z) λz=>absurd rfl z
 |none=>
  refine y (λb=>if b=a then Y (.ji {cls:=.type "list",data:=.seq vs.toArray} (.aa (ns.map V.ab))) else O) (λb=>?_) (.inl (.inr ⟨{cls:=.type "list",data:=.seq vs.toArray},W0 rfl⟩)) (λb u z=>?_) (λb z=>?_) λ_=>hk
  .by_cases hb:b=a
   .exact .inr ⟨_,_,W0 hb⟩
   .exact .inl (W5 hb)
  .by_cases hb:b=a
   .have z':=(W0 hb).symm.trans z
    rcases z'
    subst hb;exact⟨ha,by rw[Xw];exact hl,vs,_,rv,ha⟩
   .have z':=(W5 hb).symm.trans z;cases z'
  .by_cases hb:b=a
   .exact hb
   .exact absurd (W5 hb) z
theorem HZ {l:ZP}{n k:Nat}{q:y_}{j:List M}{XP:(M->Option R)->k_->Prop}{YP:v_->k_->Prop}{d:DefRec}{K:Params->r_}{CX:v_->z6}{sp:v_->Sp}{x:M}
  (hn:l.most=Y n) (I:n<=p') (N:d.params.defaults=[]) (hr:eQ k Y')
  (hY:∀ (w:v_) (h:k_),YP w h->(K w.params).In h)
  (F:∀ (w:v_) (mg:M->Option R) (D:J) (h:k_),(K w.params).In h->h.Ns S_ mg->mg d.name=Y (.ref D)->
   ∃ fd:P',(∀ (s:d_) (u:R),ZS s fd ⟨[u],[]⟩ [(x,u)])/\
    ∀ base:k_,(K w.params).In base->base.Ns S_ mg->d3 l.prog w (K w.params) mg base (CX w) k D fd [x] (sp w))
  (S:∀ (w:v_) (H:Hp) (a:J) (ns:List Int),ns.length<=n->FY H->gm (K w.params) H a (ns.map V.ab)->sp w [.aa a] H (λv _=>v=.bl L) λ_ _ _=>False)
  (U:∀ (w:v_) (H:Hp) (s:d_) (e:R) (s':d_),CX w [] H s (λ_ _ _=>False) e s'->False) :
  abD q j XP YP l.row.toRowW d [] (λf vs=>V_ f vs):=by
 refine Att.uL hn N λw s₀ z mg mb D o pm cd doc a vs ns G afd ho hd PL Z B y i hg=>?_
 have KX:=hY w _ afd;obtain⟨fd,hb,hF⟩:=F w mg D _ KX G.T.g Z;exact Dx KX G.T.g G.T.b G.T.builtins G.T.nolimit hg B y (Xi i I) hr hF hb (λH hO hS=>S w H a ns i hO hS) λH e s'=>U w H z e s'
noncomputable def WM (s:E_)(j:Nat):Stmt:=match s with
 |.ClassDef _ _ _ d _ _ _ _ _ _ _=>d.getD j (.Pass ⟨0,0,0,0⟩)
 |_=>.Pass ⟨0,0,0,0⟩
noncomputable def ke (s:E_):Arguments:=match s with
 |.FunctionDef _ a _ _ _ _ _ _ _ _=>a
 |_=>{posonlyargs:=[],args:=[],vararg:=O,kwonlyargs:=[],kw_defaults:=[],kwarg:=O,defaults:=[]}
noncomputable def e8 (s:E_):List Stmt:=match s with
 |.FunctionDef _ _ b _ _ _ _ _ _ _=>b
 |_=>[]
noncomputable def a9 (s:E_):Scope:=match s with
 |.FunctionDef _ _ _ _ _ _ d _ _ _=>d
 |_=>{kind:=.function,names:=[],isGenerator:=b_,isCoroutine:=b_}
abbrev qF:z6:=λ_ _ _ _ _ _=>False
abbrev E0:XK:=λ_ _ _=>False
theorem zy {X:Cx}:YJ qF X E0:=λ_ _ _ _ _ _ _ h=>h.elim
structure BS (K:r_)(x qual:M)(st:E_)(f:J)(fd:P'):Prop where
 ex:∃ (oc:R) (od:Option J) (kV doc pm:R) (an:Option J) (Pw ct:R) (Rq:Array (Option R)),
  fd=YN x qual (ke st) (e8 st) (a9 st) .none kV doc pm an Pw ct/\K.lookup f=Y ⟨oc,od,.func fd,Rq⟩/\aaw K Pw qual=L
 kp:Y_ K (.ref f)=L
section
variable {P:y_}{w:v_}{K:r_}{mg:M->Option R}{base:k_}
theorem BS.ok {x i:M}{st:E_}{f:J}{fd:P'}{N ps:List M}{k:Nat}{sp:Sp}(F:BS K x i st f fd)(S:iJ N ps (a9 st))(y:∀ vs H Q E,sp vs H Q E->vs.length=ps.length)
  (n:∀ (j:R) (A:D_) (d:List H_) (s:d_) (H:Hp) (vs:List V) (Q:VK) (E:XK),eQ k (A.deeper (Yp i (a9 st) s.heap.objs.size f j))->sp vs H Q E->
   ∃ t,yG (w6 qF P w K mg base N i (a9 st) f j A d s H E).N2 (e8 st) t/\t {nx:=λ_ H'=>Q .aQ H',rt:=Q} (W_ N vs) H):d3 P w K mg base qF (k+1) f fd ps sp:=by
 obtain⟨Z,od,kV,D,pm,an,j,ct,G,rfl,I,z⟩:=F.ex;refine NG I z S y λA d s H vs Q E U B=>?_
 obtain⟨t,h,q⟩:=n j A d s H vs Q E U B;exact⟨t,h.N2,q⟩
theorem BS.aa {x d:M}{st:E_}{f:J}{fd:P'}{ps:List M}(F:BS K x d st f fd)
  (h:∀ (n i q:R) (y:Option J) (j z:R) (us:List R),us.length=ps.length->Zx (YN x d (ke st) (e8 st) (a9 st) .none n i q y j z) ⟨us,[]⟩=A' (ps.zip us)):S' K fd ps []:=by
 obtain⟨G,I,n,i,q,y,j,z,B,rfl,N,D⟩:=F.ex;exact .aa (h n i q y j z)
theorem C3 {x d:M}{st:E_}{f:J}{D:R}{od q:Option J}{n:Array (Option R)}{y j z i B:R}(l:K.lookup f=Y ⟨D,od,.func (YN x d (ke st) (e8 st) (a9 st) .none y j z q i B),n⟩)
  (c:aaw K i d=L) (k:Y_ K (.ref f)=L):BS K x d st f (YN x d (ke st) (e8 st) (a9 st) .none y j z q i B):=⟨⟨D,od,y,j,z,q,i,B,n,rfl,l,c⟩,k⟩
end
end L2
namespace S
theorem nk {a:Type}{x:a}{P:Prop}(e:(O:Option a)=Y x):P:=nomatch e
open PySem L2
class KF where
 K:r_
def Qp (K:r_)(a:J)(xs:List V):Prop:=∃ (o:s_) (b:Array R) (n:Nat),K.lookup a=Y o/\o.cls=.type "list"/\o.dict=O/\o.data=.seq b n/\b.size<=p'/\x' xs b.toList
def ModT (K:r_)(a:J)(xs:List V):Prop:=∃ (o:s_) (b:Array R) (n:Nat),K.lookup a=Y o/\o.cls=.type "tuple"/\o.data=.seq b n/\b.size<=p'/\x' xs b.toList
variable [kf:KF]
inductive U where
 |aQ | bl (b:Bool) | ab (i:Int) | ae (x:M) | af (xs:List U) | aa (n:Nat)
 |ag (xs:List U)
 |dM (xs:List U) | ir (xs:List U)
inductive MO where
 |aa (xs:List U)
 |dK (kvs:List (j_×U))
 |dT (kvs:List (NK.KD×U))
 |ab (C:J) (fs:List (M×U))
abbrev MH:=List MO
abbrev bu:=List (Option U)
mutual
inductive t_ [kf:KF](ι:List J)(H:Hp):U->V->Prop
 |aQ:t_ ι H .aQ .aQ
 |bl {b:Bool}:t_ ι H (.bl b) (.bl b)
 |aa {i:Int}:t_ ι H (.ab i) (.ab i)
 |ag {x:M}:t_ ι H (.ae x) (.ae x)
 |af {a:J} {us:List U} {vs:List V}:H a=Y (.ab vs)->aY ι H us vs->t_ ι H (.af us) (.aa a)
 |ae {n:Nat} {a:J}:ι[n]?=Y a->t_ ι H (.aa n) (.aa a)
 |ah {a:J} {us:List U} {vs:List V}:a∉ι->H a=Y (.aa vs)->aY ι H us vs->t_ ι H (.ag us) (.aa a)
 |dM {a:J} {us:List U} {vs:List V}:(a∉ι/\∃ o,H a=Y (.ji o (.aa vs)))\/Qp kf.K a vs->aY ι H us vs->t_ ι H (.dM us) (.aa a)
 |ir {a:J} {us:List U} {vs:List V}:ModT kf.K a vs->aY ι H us vs->t_ ι H (.ir us) (.aa a)
inductive aY [kf:KF](ι:List J)(H:Hp):List U->List V->Prop
 |nil:aY ι H [] []
 |ab {u:U} {v:V} {us:List U} {vs:List V}:t_ ι H u v->aY ι H us vs->aY ι H (u::us) (v::vs)
end
inductive uE [kf:KF](ι:List J)(H:Hp):Option U->Option V->Prop
 |ab {o:Option V}:uE ι H O o
 |aa {u:U} {v:V}:t_ ι H u v->uE ι H (Y u) (Y v)
inductive de [kf:KF](ι:List J)(H:Hp):bu->St->Prop
 |nil:de ι H [] []
 |ab {o:Option U} {p:Option V} {r:bu} {q:St}:uE ι H o p->de ι H r q->de ι H (o::r) (p::q)
inductive b9 [kf:KF]{κ:Type}(ι:List J)(H:Hp):List (κ×U)->List (κ×V)->Prop
 |nil:b9 ι H [] []
 |aa {k:κ} {u:U} {v:V} {r:List (κ×U)} {q:List (κ×V)}:t_ ι H u v->b9 ι H r q->b9 ι H ((k,u)::r) ((k,v)::q)
def gC (ι:List J)(H:Hp)(a:J):MO->Prop
 |.aa f=>∃ e,H a=Y (.aa e)/\aY ι H f e
 |.dK c=>∃ b,H a=Y (.dK b)/\b9 ι H c b
 |.dT c=>∃ b,H a=Y (.dT b)/\b9 ι H c b
 |.ab C g=>∃ i d,H a=Y (.ae C i d)/\b9 ι H g d
structure aX (ι:List J)(H:Hp)(h:MH):Prop where
 aa:ι.length=h.length
 nd:ι.Nodup
 ab:∀ (n:Nat) (a:J) (o:MO),ι[n]?=Y a->h[n]?=Y o->gC ι H a o
structure B_ (ι:List J)(H:Hp)(ι':List J)(H':Hp):Prop where
 ag:∃ r,ι'=ι++r
 ae:∀ a o,a∉ι->H a=Y o->H' a=Y o
 af:∀ a,a∈ι'->a∉ι->H a=O
 ji:∀ a o u,H a=Y (.ji o u)->H' a=Y (.ji o u)
theorem B_.ab {ι:List J}{H:Hp}:B_ ι H ι H:=⟨⟨[],by simp⟩,λ_ _ _ h=>h,λa h n=>absurd h n,λ_ _ _ h=>h⟩
theorem B_.aa {ι d f:List J}{H g H2:Hp}(a:B_ ι H d g)(b:B_ d g f H2):B_ ι H f H2:=by
 obtain⟨r,i⟩:=a.ag;obtain⟨q,j⟩:=b.ag;refine⟨⟨r++q,by rw[j,i,XO]⟩,λc o n h=>?_,λc h n=>?_,λc o u h=>b.ji c o u (a.ji c o u h)⟩
 .by_cases m:c∈d
  .rw[a.af c m n]at h;cases h
  .exact b.ae c o m (a.ae c o n h)
 .by_cases m:c∈d
  .exact a.af c m n
  .cases e:H c with
   |none=>rfl
   |some o=>have:=b.af c h m;rw[a.ae c o n e]at this;cases this
theorem B_.at {ι b:List J}{H H':Hp}(e:B_ ι H b H'){n:Nat}{a:J}(h:ι[n]?=Y a):b[n]?=Y a:=by
 obtain⟨r,rfl⟩:=e.ag;rw[W3 (W2.mp h).1];exact h
theorem gC.ab {ι:List J}{H:Hp}{a:J}{o:MO}(h:gC ι H a o):∃ u,H a=Y u/\∀ vs,u≠.ab vs:=by
 cases o with
 |aa c=>obtain⟨vs,e,_⟩:=h;exact⟨_,e,λ_ z=>nomatch z⟩
 |dK b=>obtain⟨vs,e,_⟩:=h;exact⟨_,e,λ_ z=>nomatch z⟩
 |dT b=>obtain⟨vs,e,_⟩:=h;exact⟨_,e,λ_ z=>nomatch z⟩
 |ab C d=>obtain⟨f,vs,e,_⟩:=h;exact⟨_,e,λ_ z=>nomatch z⟩
theorem aX.ah {ι:List J}{H:Hp}{h:MH}(r:aX ι H h){a:J}(m:a∈ι):∃ (n:Nat) (o:MO),ι[n]?=Y a/\h[n]?=Y o/\gC ι H a o:=by
 obtain⟨n,b⟩:=List.mem_iff_getElem?.mp m;have c:n<h.length:=by rw[<-r.aa];exact(W2.mp b).1
 exact⟨n,h[n],b,W6 c,r.ab n a _ b (W6 c)⟩
theorem aX.ai {ι:List J}{H:Hp}{h:MH}(r:aX ι H h){a:J}{vs:List V}(e:H a=Y (.ab vs)):a∉ι:=λm=>by
 obtain⟨n,o,_,_,c⟩:=r.ah m;obtain⟨u,b,d⟩:=c.ab;rw[e]at b;exact d vs (Xe b).symm
theorem aX.xU {ι:List J}{H:Hp}{h:MH}(r:aX ι H h){a:J}(e:H a=O):a∉ι:=λm=>by
 obtain⟨n,o,_,_,c⟩:=r.ah m;obtain⟨u,b,d⟩:=c.ab;rw[e]at b;cases b
structure Kp (ι:List J)(H:Hp)(ι':List J)(H':Hp):Prop where
 ae:∀ {n:Nat}{a:J},ι[n]?=Y a->ι'[n]?=Y a
 ab:∀ {a:J}{vs:List V},H a=Y (.ab vs)->H' a=Y (.ab vs)
 aa:∀ {a:J}{o:HO},a∉ι->H a=Y o->H' a=Y o/\a∉ι'
theorem B_.kp {ι a:List J}{H H':Hp}{h:MH}(e:B_ ι H a H')(r:aX ι H h):Kp ι H a H':=⟨λq=>e.at q,λq=>e.ae _ _ (r.ai q) q,λn q=>⟨e.ae _ _ n q,λm=>by have:=e.af _ m n;rw[q]at this;cases this⟩⟩
theorem aY.ar {ι:List J}{H:Hp}{P:List U->List V->Prop}{u:List U}{v:List V}(q:aY ι H u v)(n:P [] [])(c:∀ {a b u v},t_ ι H a b->P u v->P (a::u) (b::v)):P u v:=
 aY.rec (motive_1:=λ_ _ _=>True) (motive_2:=λu v _=>P u v) ⟨⟩ ⟨⟩ ⟨⟩ ⟨⟩ (λ_ _ _=>⟨⟩) (λ_=>⟨⟩) (λ_ _ _ _=>⟨⟩) (λ_ _ _=>⟨⟩) (λ_ _ _=>⟨⟩) n (λh _ _ i=>c h i) q
theorem t_.ab {ι c:List J}{H H':Hp}(k:Kp ι H c H'){u:U}{v:V}(q:t_ ι H u v):t_ c H' u v:=
 t_.rec (motive_1:=λu v _=>t_ c H' u v) (motive_2:=λu v _=>aY c H' u v) .aQ .bl .aa .ag (λh _ i=>.af (k.ab h) i) (λh=>.ae (k.ae h)) (λn h _ i=>.ah (k.aa n h).2 (k.aa n h).1 i) (λz _ i=>.dM (z.imp (λ⟨n,o,h⟩=>⟨(k.aa n h).2,o,(k.aa n h).1⟩) id) i) (λh _ i=>.ir h i) .nil (λ_ _ a b=>.ab a b) q
theorem aY.af {ι a:List J}{H H':Hp}(k:Kp ι H a H'){us:List U}{vs:List V}(q:aY ι H us vs):aY a H' us vs:=
 q.ar .nil λh i=>.ab (h.ab k) i
theorem uE.ae {ι a:List J}{H H':Hp}(k:Kp ι H a H'):∀ {o:Option U}{p:Option V},uE ι H o p->uE a H' o p
 |_,_,.ab=>.ab
 |_,_,.aa r=>.aa (r.ab k)
theorem de.aa {ι c:List J}{H H':Hp}(k:Kp ι H c H'):∀ {o:bu}{p:St},de ι H o p->de c H' o p
 |_,_,.nil=>.nil
 |_,_,.ab a b=>.ab (a.ae k) (de.aa k b)
theorem b9.ae {d:Type}{ι c:List J}{H H':Hp}(k:Kp ι H c H'):∀ {o:List (d×U)}{p:List (d×V)},b9 ι H o p->b9 c H' o p
 |_,_,.nil=>.nil
 |_,_,.aa a b=>.aa (a.ab k) (b9.ae k b)
theorem gC.aa {ι c:List J}{H H':Hp}{a:J}(k:Kp ι H c H')(e:H' a=H a):∀ {o:MO},gC ι H a o->gC c H' a o
 |.aa _,⟨b,q,r⟩=>⟨b,e.trans q,r.af k⟩
 |.dK _,⟨b,q,r⟩=>⟨b,e.trans q,r.ae k⟩
 |.dT _,⟨b,q,r⟩=>⟨b,e.trans q,r.ae k⟩
 |.ab _ _,⟨d,b,q,r⟩=>⟨d,b,e.trans q,r.ae k⟩
theorem b9.of {c:Type}{ι:List J}{H:Hp}:∀ {o:List (c×U)}{p:List (c×V)},o.map (·.1)=p.map (·.1)->aY ι H (o.map (·.2)) (p.map (·.2))->b9 ι H o p
 |[],[],_,_=>.nil
 |(k,u)::r,(j,v)::q,e,h=>by
  rw[Xq,Xq]at e;injection e with d f;have UI:k=j:=d;subst UI;cases h with
  |ab a b=>exact .aa a (b9.of f b)
 |[],_::_,e,_=>nomatch e
 |_::_,[],e,_=>nomatch e
theorem b9.ab {c:Type}{ι:List J}{H:Hp}:∀ {o:List (c×U)}{p:List (c×V)},b9 ι H o p->o.map (·.1)=p.map (·.1)/\aY ι H (o.map (·.2)) (p.map (·.2))
 |_,_,.nil=>⟨rfl,.nil⟩
 |_,_,.aa a b=>by
  obtain⟨d,e⟩:=b9.ab b;exact⟨by rw[Xq,Xq,d],.ab a e⟩
theorem aY.aa {ι:List J}{H:Hp}:∀ {us:List U}{vs:List V},aY ι H us vs->us.length=vs.length
 |_,_,.nil=>rfl
 |_,_,.ab _ a=>congrArg Y9 a.aa
theorem aY.ae {ι:List J}{H:Hp}:∀ {us ws:List U}{vs xs:List V},aY ι H us vs->aY ι H ws xs->aY ι H (us++ws) (vs++xs)
 |_,_,_,_,.nil,h=>h
 |_,_,_,_,.ab a b,h=>.ab a (b.ae h)
theorem aY.ag {ι:List J}{H:Hp}:∀ {us:List U}{vs:List V}{n:Nat}{u:U},aY ι H us vs->us[n]?=Y u->∃ v,vs[n]?=Y v/\t_ ι H u v
 |_,_,0,_,.ab a _,e=>by simp at e;subst e;exact⟨_,rfl,a⟩
 |_,_,n+1,u,.ab _ b,e=>by
  obtain⟨v,c,d⟩:=aY.ag (n:=n) (u:=u) b (by simpa using e);exact⟨v,by simpa using c,d⟩
theorem aY.aw {ι:List J}{H:Hp}{u:U}{v:V}(r:t_ ι H u v):∀ {us:List U}{vs:List V} (n:Nat),aY ι H us vs->aY ι H (us.set n u) (vs.set n v)
 |_,_,_,.nil=>.nil
 |_,_,0,.ab _ b=>.ab r b
 |_,_,n+1,.ab a b=>.ab a (aY.aw r n b)
theorem aY.take {ι:List J}{H:Hp}:∀ {us:List U}{vs:List V} (n:Nat),aY ι H us vs->aY ι H (us.take n) (vs.take n)
 |_,_,0,_=>.nil
 |_,_,_+1,.nil=>.nil
 |_,_,n+1,.ab a b=>.ab a (aY.take n b)
theorem aY.aj {ι:List J}{H:Hp}:∀ {us:List U}{vs:List V} (n:Nat),aY ι H us vs->aY ι H (us.drop n) (vs.drop n)
 |_,_,0,r=>r
 |_,_,_+1,.nil=>.nil
 |_,_,n+1,.ab _ b=>aY.aj n b
theorem aY.ah {ι:List J}{H:Hp}:∀ {us:List U}{vs:List V},aY ι H us vs->aY ι H us.reverse vs.reverse
 |_,_,.nil=>.nil
 |_,_,.ab a b=>by rw[aaj,aaj];exact b.ah.ae (.ab a .nil)
theorem de.ag {ι:List J}{H:Hp}:∀ {us:bu}{vs:St}{n:Nat}{u:U},de ι H us vs->us[n]?=Y (Y u)->∃ v,vs[n]?=Y (Y v)/\t_ ι H u v
 |_,_,0,_,.ab a _,e=>by simp at e;subst e;cases a with | aa r=>exact⟨_,rfl,r⟩
 |_,_,n+1,u,.ab _ b,e=>by
  obtain⟨v,c,d⟩:=de.ag (n:=n) (u:=u) b (by simpa using e);exact⟨v,by simpa using c,d⟩
theorem de.ah {ι:List J}{H:Hp}{u:Option U}{v:Option V}(r:uE ι H u v):∀ {us:bu}{vs:St} (n:Nat),de ι H us vs->de ι H (us.set n u) (vs.set n v)
 |_,_,_,.nil=>.nil
 |_,_,0,.ab _ b=>.ab r b
 |_,_,n+1,.ab a b=>.ab a (de.ah r n b)
section
variable {ι:List J}{H:Hp}{h:MH}{p:J}
theorem aX.Rm (r:aX ι H h)(b:H p=O)(vs:List V):B_ ι H ι (m_ H p (.ab vs))/\aX ι (m_ H p (.ab vs)) h:=by
 have e:B_ ι H ι (m_ H p (.ab vs)):=⟨⟨[],by simp⟩,λa o _ q=>by rw[ba (bH q b)];exact q,λa m n=>absurd m n,λa o u q=>by rw[ba (bH q b)];exact q⟩;refine⟨e,r.aa,r.nd,λn a o c d=>(r.ab n a o c d).aa (e.kp r) ?_⟩;rw[ba];intro z;exact r.xU b (z▸Xk c)
theorem aX.af (r:aX ι H h)(f:H p=O){u:HO}{o:MO}(s:gC (ι++[p]) (m_ H p u) p o):B_ ι H (ι++[p]) (m_ H p u)/\aX (ι++[p]) (m_ H p u) (h++[o]):=by
 have g:=r.xU f;have e:B_ ι H (ι++[p]) (m_ H p u):=⟨⟨[p],rfl⟩,λa o _ q=>by rw[ba (bH q f)];exact q,λa m n=>by
  rcases XG.mp m with z | z
  .exact absurd z n
  .simp at z;subst z;exact f,λa o u q=>by rw[ba (bH q f)];exact q⟩
 refine⟨e,by simp[r.aa],?_,λn a q c d=>?_⟩
 .rw[aao];exact⟨r.nd,by simp,λa t b i z=>by simp at i;subst i;subst z;exact g t⟩
 .by_cases j:n<ι.length
  .rw[W3 j]at c;rw[W3 (by rw[<-r.aa];exact j)]at d;refine(r.ab n a q c d).aa (e.kp r) ?_;rw[ba];intro z;exact g (z▸Xk c)
  .rw[Xz ⋯]at c;rw[Xz (by rw[<-r.aa];lia)]at d;rw[<-r.aa]at d;cases l:n-ι.length with
   |zero=>rw[l]at c d;simp at c d;subst c;subst d;exact s
   |succ k=>rw[l]at c;simp at c
theorem aX.ag (r:aX ι H h){n:Nat}(c:ι[n]?=Y p){u:HO}{o:MO}(j:∀ vs,H p≠Y (.ab vs))(hz:∀ o u,H p≠Y (.ji o u))(g:gC ι (m_ H p u) p o):B_ ι H ι (m_ H p u)/\aX ι (m_ H p u) (h.set n o):=by
 have i:p∈ι:=Xk c;have e:B_ ι H ι (m_ H p u):=⟨⟨[],by simp⟩,λa o m q=>by rw[ba (show a≠p from λz=>m (by rw[z];exact i))];exact q,λa m n=>absurd m n,λa o u q=>by rw[ba (λz=>by subst z;exact hz _ _ q)];exact q⟩;refine⟨e,by simp[r.aa],r.nd,λk a q b d=>?_⟩;by_cases f:k=n
 .subst f;rw[c]at b;rcases b;rw[XC (by rw[<-r.aa];exact(W2.mp c).1)]at d
  rcases d
  exact g
 .rw[W9 (λz=>f z.symm)]at d;refine(r.ab k a q b d).aa (e.kp r) ?_;rw[ba];intro z;subst z;exact f ((List.getElem?_inj (W2.mp b).1 r.nd).mp (b.trans c.symm))
end
inductive Fl where
 |nx (σ:bu) | bk (σ:bu) | ct (σ:bu) | rt (u:U)
abbrev ME:=bu->MH->Option (U×MH)
abbrev MT:=bu->MH->Option (Bool×MH)
abbrev MA:=bu->MH->Option (List U×MH)
abbrev MS:=bu->MH->Option (Fl×MH)
abbrev MG:=U->bu->MH->Option (bu×MH)
abbrev B1:=List U->bu->MH->Option (bu×MH)
abbrev MF:=List U->MH->Option (U×MH)
abbrev M2:=U->U->MH->Option (U×MH)
abbrev M1:=U->MH->Option (U×MH)
class SE [kf:KF](t:TE)(m:outParam ME):Prop where
 go:∀ {σ:St}{H:Hp}{Q:VK}{σu:bu}{ι:List J}{h:MH}{u:U}{h':MH},de ι H σu σ->aX ι H h->m σu h=Y (u,h')->
  (∀ ι' H' v,B_ ι H ι' H'->aX ι' H' h'->t_ ι' H' u v->Q v H')->t σ H Q
class ST [kf:KF](t:TT)(m:outParam MT):Prop where
 go:∀ {σ:St}{H:Hp}{Q:Bool->Hp->Prop}{σu:bu}{ι:List J}{h:MH}{b:Bool}{h':MH},de ι H σu σ->aX ι H h->m σu h=Y (b,h')->
  (∀ ι' H',B_ ι H ι' H'->aX ι' H' h'->Q b H')->t σ H Q
class SA [kf:KF](t:TA)(m:outParam MA):Prop where
 go:∀ {σ:St}{H:Hp}{Q:List V->Hp->Prop}{σu:bu}{ι:List J}{h:MH}{us:List U}{h':MH},de ι H σu σ->aX ι H h->m σu h=Y (us,h')->
  (∀ ι' H' vs,B_ ι H ι' H'->aX ι' H' h'->aY ι' H' us vs->Q vs H')->t σ H Q
def jo (ι:List J)(H:Hp)(D:YK):Fl->Prop
 |.nx a=>∀ b,de ι H a b->D.nx b H
 |.bk a=>∀ b,de ι H a b->D.bk b H
 |.ct a=>∀ b,de ι H a b->D.ct b H
 |.rt u=>∀ v,t_ ι H u v->D.rt v H
class SS [kf:KF](t:TS)(m:outParam MS):Prop where
 go:∀ {D:YK}{σ:St}{H:Hp}{σu:bu}{ι:List J}{h:MH}{f:Fl}{h':MH},de ι H σu σ->aX ι H h->m σu h=Y (f,h')->
  (∀ ι' H',B_ ι H ι' H'->aX ι' H' h'->jo ι' H' D f)->t D σ H
class SG [kf:KF](t:TG)(m:outParam MG):Prop where
 go:∀ {v:V}{σ:St}{H:Hp}{Q:St->Hp->Prop}{u:U}{σu:bu}{ι:List J}{h:MH}{Pm:bu}{h':MH},de ι H σu σ->aX ι H h->t_ ι H u v->m u σu h=Y (Pm,h')->
  (∀ ι' H' σ',B_ ι H ι' H'->aX ι' H' h'->de ι' H' Pm σ'->Q σ' H')->t v σ H Q
class Nj [kf:KF](t:FO)(m:outParam B1):Prop where
 go:∀ {vs:List V}{σ:St}{H:Hp}{Q:St->Hp->Prop}{us:List U}{σu:bu}{ι:List J}{h:MH}{Pm:bu}{h':MH},de ι H σu σ->aX ι H h->aY ι H us vs->m us σu h=Y (Pm,h')->
  (∀ ι' H' σ',B_ ι H ι' H'->aX ι' H' h'->de ι' H' Pm σ'->Q σ' H')->t vs σ H Q
class SO [kf:KF](r:R2)(g:outParam M2):Prop where
 go:∀ {x y:V}{H:Hp}{Q:VK}{a b:U}{ι:List J}{h:MH}{u:U}{h':MH},aX ι H h->t_ ι H a x->t_ ι H b y->g a b h=Y (u,h')->
  (∀ ι' H' v,B_ ι H ι' H'->aX ι' H' h'->t_ ι' H' u v->Q v H')->r x y H Q
class SU [kf:KF](r:V->Hp->VK->Prop)(g:outParam M1):Prop where
 go:∀ {x:V}{H:Hp}{Q:VK}{a:U}{ι:List J}{h:MH}{u:U}{h':MH},aX ι H h->t_ ι H a x->g a h=Y (u,h')->
  (∀ ι' H' v,B_ ι H ι' H'->aX ι' H' h'->t_ ι' H' u v->Q v H')->r x H Q
class SC [kf:KF](r:List V->Hp->VK->Prop)(g:outParam MF):Prop where
 go:∀ {xs:List V}{H:Hp}{Q:VK}{us:List U}{ι:List J}{h:MH}{u:U}{h':MH},aX ι H h->aY ι H us xs->g us h=Y (u,h')->
  (∀ ι' H' v,B_ ι H ι' H'->aX ι' H' h'->t_ ι' H' u v->Q v H')->r xs H Q
end S
namespace L2
open PySem PySem.Spec PyProof.Rows
theorem lO {env:H_}:∀ (b:List (M×Q')) (a:List (M×J)),(∀ y∈b,y.2=.free->∃ c,env.cells.lookup y.1=Y c)->
  (∀ x c,a.lookup x=Y c->env.cells.lookup x=Y c)->
  ∃ cl,(forIn (m:=U') b a λ(x:M×Q') r=>(if x.2 == .free then(do let c←cellOf env x.1;A' (acF ((x.1,c)::r))) else A' (acF r):U' (ForInStep (List (M×J)))))=A' cl/\
   (∀ x c,cl.lookup x=Y c->env.cells.lookup x=Y c)/\(∀ y∈b,y.2=.free->∃ c,cl.lookup y.1=Y c)/\(∀ x c,a.lookup x=Y c->∃ w,cl.lookup x=Y w)
 |[],a,_,l=>⟨a,rfl,l,(λ_ h=>nomatch h),λx c e=>⟨c,e⟩⟩
 |(n,k)::r,a,h,l=>by
  have u:∀ y∈r,y.2=.free->∃ c,env.cells.lookup y.1=Y c:=λy i=>h y (Xt _ i)
  rw[ac3];by_cases p:k=.free
  .subst p;obtain⟨c,v⟩:=h (n,.free) XI rfl;have UW:∀ x d,((n,c)::a).lookup x=Y d->env.cells.lookup x=Y d:=λx d e=>by
    rw[Xf]at e;cases f:x == n with
    |true=>rw[f]at e;rcases e;rw[Zk f];exact v
    |false=>rw[f]at e;exact l x d e
   obtain⟨cl,e,q,t,j⟩:=lO r ((n,c)::a) u UW;refine⟨cl,?_,q,λy i o=>?_,λx d e=>?_⟩
   .have A:cellOf env n=A' c:=by unfold cellOf;rw[v]
    simp only[beq_self_eq_true,if_true,A,abh];exact e
   .rcases Xj.mp i with z | z
    .subst z;exact j n c (by rw[Xf,beq_self_eq_true])
    .exact t y z o
   .by_cases f:(x == n)=L
    .exact j x c (by rw[Xf,f])
    .exact j x d (by rw[Xf,Zl.mpr f];exact e)
  .obtain⟨cl,e,q,t,j⟩:=lO r a u l;have B:(k == X')=false:=by simpa using p
   refine⟨cl,?_,q,λy i o=>?_,j⟩
   .simp only[B,XX,if_false,abh];exact e
   .rcases Xj.mp i with z | z
    .subst z;exact absurd o p
    .exact t y z o
theorem wY {scope:J'}{env:H_}(h:∀ y∈scope.names,y.2=.free->∃ c,env.cells.lookup y.1=Y c) :
  ∃ cl,ace scope env=A' cl/\(∀ x c,cl.lookup x=Y c->env.cells.lookup x=Y c)/\(∀ y∈scope.names,y.2=.free->∃ c,cl.lookup y.1=Y c):=by
 obtain⟨cl,e,a,b,_⟩:=lO (env:=env) scope.names [] h (λx c e=>by simp at e);refine⟨cl,?_,a,b⟩;unfold ace;have e':=congrArg (λz:U' (List (M×J))=>z >>= λd=>A' d) e;simp only[abh]at e';exact e'
theorem jf {env:H_}:∀ {a:List (M×Q')}{x:M}{k:Q'},(∀ y∈a,y.2≠.cell)->
  (a.map λ(n,k)=>if (k == X'&&env.scope.kind == .function&&env.kindOf n == Y .cell) then(n,aa1) else(n,k)).lookup x=Y k->
  (k=.cell\/k=.free)->a.lookup x=Y .free
 |[],_,_,_,h,_=>by simp at h
 |(n,c)::r,x,k,f,h,hk=>by
  have i:=@jf env r x k (λy j=>f y (Xt _ j));have l:c≠.cell:=f (n,c) XI;rw[Xq]at h;rw[Xf];cases d:x == n with
  |false=>
   refine i ?_ hk;by_cases b:(c == X'&&env.scope.kind == .function&&env.kindOf n == Y .cell)=L
   .simp only[b,if_true,Xf,d]at h;exact h
   .simp only[Zl.mpr b,if_false,Xf,d,XX]at h;exact h
  |true=>
   by_cases b:(c == X'&&env.scope.kind == .function&&env.kindOf n == Y .cell)=L
   .rw[Xn,Xn]at b;have e:c=.free:=by simpa using b.1.1
    rw[e]
   .simp only[Zl.mpr b,if_false,Xf,d,XX]at h
    rcases h
    rcases hk with hk | hk
    .exact absurd hk l
    .rw[hk]
theorem gx {env:H_}:∀ {a:List (M×Q')}{x:M},a.lookup x=Y .free->
  (a.map λ(n,k)=>if (k == X'&&env.scope.kind == .function&&env.kindOf n == Y .cell) then(n,aa1) else(n,k)).lookup x=Y .cell\/
  (a.map λ(n,k)=>if (k == X'&&env.scope.kind == .function&&env.kindOf n == Y .cell) then(n,aa1) else(n,k)).lookup x=Y .free
 |[],_,h=>by simp at h
 |(n,e)::r,x,h=>by
  have d:=@gx env r x;rw[Xq];rw[Xf]at h;cases b:x == n with
  |false=>
   rw[b]at h;by_cases c:(e == X'&&env.scope.kind == .function&&env.kindOf n == Y .cell)=L
   .simp only[c,if_true,Xf,b];exact d h
   .simp only[Zl.mpr c,if_false,Xf,b,XX];exact d h
  |true=>
   rw[b]at h;cases h;by_cases c:(X' == X'&&env.scope.kind == .function&&env.kindOf n == Y .cell)=L
   .simp only[c,if_true,Xf,b];first | exact .inl rfl | exact .inl trivial
   .simp only[Zl.mpr c,if_false,Xf,b,XX];first | exact .inr rfl | exact .inr trivial
noncomputable def Ym (σ:St)(o:Option Nat):Option V:=o.bind λj=>(σ[j]?).join
noncomputable def NV (N N':List M)(scope:J')(ix:List (Option Nat)):Bool:=
 (C_ N'.length).all λi=>match ix[i]?,N'[i]? with
  |some (Y j),Y x=>(match N[j]? with | some y=>y == x | none=>b_)&&(match scope.names.lookup x with | some .free=>L | _=>b_)
  |_,_=>L
structure hU (N:List M)(sc:J')(N':List M)(scope:J')(ix:List (Option Nat)):Prop where
 ab:scope.kind=.function
 aa:∀ y∈scope.names,y.2≠.cell
 ae:∀ y∈scope.names,y.2=.local->scope.names.lookup y.1=Y .local
 af:∀ y∈scope.names,y.2=.free->sc.names.lookup y.1=Y .cell\/sc.names.lookup y.1=Y .free
 ah:ix.length=N'.length
 nd:N'.Nodup
 ag:NV N N' scope ix=L
theorem hU.at {N N':List M}{c scope:J'}{ix:List (Option Nat)}(S:hU N c N' scope ix){i j:Nat}{x:M}(h1:ix[i]?=Y (Y j))(h2:N'[i]?=Y x):N[j]?=Y x/\scope.names.lookup x=Y .free:=by
 have d:i<N'.length:=(W2.mp h2).1;have h:=X0.mp S.ag i (YM.mpr d);rw[h1,h2]at h;simp only[Xn]at h;obtain⟨a,b⟩:=h;constructor
 .cases e:N[j]? with
  |none=>rw[e]at a;cases a
  |some y=>rw[e]at a;rw[Zk a]
 .cases e:scope.names.lookup x with
  |none=>rw[e]at b;cases b
  |some k=>rw[e]at b;cases k<;>first | rfl | cases b
theorem Bk {σ:St}{ix:List (Option Nat)}{i:Nat}{v:V}(h:(ix.map (Ym σ))[i]?=Y (Y v)):∃ j,ix[i]?=Y (Y j)/\σ[j]?=Y (Y v):=by
 rw[Xd]at h;cases e:ix[i]? with
 |none=>rw[e]at h;cases h
 |some o=>
  rw[e]at h;cases o with
  |none=>cases h
  |some j=>
   refine⟨j,rfl,?_⟩;have h':(σ[j]?).join=Y v:=Xe h;cases q:σ[j]? with
   |none=>rw[q]at h';cases h'
   |some z=>rw[q]at h';rw[show z=Y v from h']
def bT (X:Cx)(N':List M)(scope:J')(cl:List (M×J))(C:J)(s:d_)(H:Hp)(ex:List J):Cx where
 ab:=X.ab
 w:=X.w
 K:=X.K
 mg:=X.mg
 ae:=X.ae
 A:=X.A
 N:=N'
 s₀:=s
 H₀:=H
 aa:=compEnvC scope cl C X.aa
 ah:=X.af
 af:=X.af
 ex:=ex
 ag:=X.ag
 fn:=λ_=>b_
 pn:=[]
 xe:=λ_ _=>False
section
variable {X:Cx}{pins:List (J×s_)}{σ:St}{H:Hp}{s:d_}{N':List M}{scope:J'}{ix:List (Option Nat)}{cl:List (M×J)}{fp:List J}
theorem pY (I:f_ X pins σ H s){b:J}(f:jk X pins H b):b∉BU X.af:=λz=>by
 rcases Xj.mp (I.ym b z) with e | e
 .exact f.2.1 e
 .exact f.2.2.1 e
theorem vw {d:k_}(S:hU X.N X.aa.scope N' scope ix)(I:f_ X pins σ H s)(a:∀ x c,cl.lookup x=Y c->X.aa.cells.lookup x=Y c)(C:∀ y∈scope.names,y.2=.free->∃ c,cl.lookup y.1=Y c)
  (D:∀ b∈fp,jk X pins H b) (V:∀ b∈fp,∃ o,s.heap.get? b=Y o) (W:d.Ns s.heap.objs.size (λ_=>O)) (B:∀ b o,s.heap.get? b=Y o->d.get? b=Y o) {t':Nat} :
  f_ (bT X N' scope cl s.heap.objs.size s H fp) [] (ix.map (Ym σ)) H {s with heap:=d,toks:=t'}:=by
 have f:∀ x,scope.names.lookup x=Y .free->∃ c,cl.lookup x=Y c:=λx e=>C (x,.free) (XN e) rfl
 have n:∀ b∈fp,b<s.heap.objs.size:=λb h=>let ⟨o,e⟩:=V b h;Xh e
 have t:∀ x c,cl.lookup x=Y c->c<s.heap.objs.size:=λx c e=>let ⟨v,q⟩:=I.aq x c (a x c e);q.lt
 refine⟨⟨I.ok.af,S.ab,I.ok.ag,I.ok.ao,WY _,λx y c E F=>I.ok.inj x y c (a x c E) (a y c F),λx Z=>?_,λx c G _=>(nomatch (show b_=L from G)),I.ok.hd,I.ok.ae,.inl rfl,
  λb h=>⟨Xs (n b h),λx c e=>(D b h).2.2.2.2.1 x c (a x c e)⟩,I.bs,Xi I.ok.ai I.sz,λb o e h=>?_,λb h=>pY I (D b h),I.aE,I.zP⟩,
  rfl,I.ak,Un.aj B,⟨_,W,λi x v E F h3=>?_⟩,λx c e=>?_,I.aa.aa (WY _),λx c e=>I.ao x c (a x c e),λp hp=>absurd (show p∈([]:List (J×s_)) from hp) nofun,I.aa.ab B,?_⟩
 .have hx':(aaB scope X.aa).names.lookup x=Y .cell\/(aaB scope X.aa).names.lookup x=Y .free:=Z;refine f x ?_;rcases hx' with e | e
  .exact jf S.aa e (.inl rfl)
  .exact jf S.aa e (.inr rfl)
 .rcases(D b h).2.2.2.1 with z | z
  .exact I.ok.ah b o e z
  .exact absurd (Xr (Xh e) (Xi I.ok.ai z)) (Zr _)
 .obtain⟨j,hj,hv⟩:=Bk F;obtain⟨K,w⟩:=S.at hj E;obtain⟨c,T⟩:=f x w;have A:X.aa.scope.names.lookup x=Y .cell\/X.aa.scope.names.lookup x=Y .free:=S.af (x,.free) (XN w) rfl;obtain⟨m,MM,hl⟩:=I.au;obtain⟨u,r,l⟩:=hl j x v K hv (A.elim (λe=>.inr (.inl e)) λe=>.inr (.inr e));refine⟨u,r,.inr ⟨gx w,c,T,?_⟩⟩;rcases l with⟨k,_⟩ | ⟨_,c',U,z⟩
  .have k':X.aa.scope.names.lookup x=Y .local:=k;rcases A with e | e
   .rw[e]at k';cases k'
   .rw[e]at k';cases k'
  .rw[a x c T]at U
   rcases U
   obtain⟨o,P,Q⟩:=z;exact⟨o,B _ _ P,Q⟩
 .obtain⟨v,o,P,Q⟩:=I.aq x c (a x c e);exact⟨v,o,B _ _ P,Q⟩
 .show _=N'.length;rw[Xw,S.ah]
end
theorem tw {prog:y_}{w:v_}{A:D_}{afi:Zf->d_->Prop}{s:d_}{elt a iter:e_}{scope:J'}{pos:u_}{it j:R}{env:H_}(I:Nat->d_->Prop)
  (turn:∀ n s,I n s->g_ (i' prog w) A (Ys it) (λr b=>match r with
   |none=>afi (.ok .next) b
   |some v=>g_ (i' prog w) A (Z7 a it v) (λ_ c=>g_ (i' prog w) A (YF a env v) (λ_ d=>g_ (i' prog w) A (z_ elt env) (λx e=>
     g_ (i' prog w) A (V_ (.builtin "list.append") [j,x]) (λ_ f=>∃ m,m<n/\I m f) (λ_ _=>False) e) (λ_ _=>False) d) (λ_ _=>False) c) (λ_ _=>False) b) (λ_ _=>False) s)
  (n:Nat) (h:I n s):WV (i' prog w) A (.compLoop (.ListComp elt [⟨a,iter,[],0⟩] scope pos) 0 it j env) afi s:=by
 refine codeAny_loop rfl I (λn s q=>?_) n h;show g_ _ _ (aeQ (compTurn (.ListComp elt [⟨a,iter,[],0⟩] scope pos) 0 it j env) (λx=>do noteFrame x env;aeN x)) _ _ s;refine wpAny_noted ?_;rw[compTurn_list1];refine WX (ZY (WX (XM (turn n s q) (λr b i=>?_) λ_ _ z=>M' z)));cases r with
 |none=>exact W8 i
 |some v=>
  refine WX (XM i (λ_ c k=>WX (XM k (λ_ d l=>?_) λ_ _ z=>M' z)) λ_ _ z=>M' z);refine WX (WX (XM l (λx e o=>WX (XM o (λ_ f p=>?_) λ_ _ z=>M' z)) λ_ _ z=>M' z));exact W8 (W8 ⟨rfl,p⟩)
def qX (afg:It)(g:TG)(te:TE)(Q:VK)(D:J)(W:Nat->Nat->St->Hp->Prop):Prop:=
 ∀ i m σ H,W i m σ H->(afg.aa i H/\Q (.aa D) H)\/(afg.go i H/\∃ N:St->Hp->Prop,(∀ a b,N a b->∃ e,e<m/\W (i+1) e a b)/\
  ∀ x b,afg.ab i H x b->g x σ b λc h=>te c h λy f=>∃ d,f D=Y (.aa d)/\d.length<p'/\N c (m_ f D (.aa (d++[y]))))
def we (ix:List (Option Nat))(wi:TI)(g:TG)(te:TE):TE:=λσ H Q=>wi σ H λafg a=>∀ D,a D=O->
 ∃ W:Nat->Nat->St->Hp->Prop,(∃ m,W 0 m (ix.map (Ym σ)) (m_ a D (.aa [])))/\qX afg g te Q D W
section
variable {X:Cx}{pins:List (J×s_)}{σ:St}{N':List M}{scope:J'}{ix:List (Option Nat)}{elt tg iter:e_}{wi:TI}{g:TG}{te:TE}{pos:u_}
theorem rl {s3:d_}{h:Hp}{it D:J}{fp:List J}{tn:Nat->k_->Prop}{afg:It}{Q:VK}{W:Nat->Nat->St->Hp->Prop}{m0:Nat}{cl:List (M×J)}{RR:J->Zf->d_->Prop}{E:R->d_->Prop}
  (hc:X.ag=L) (S:hU X.N X.aa.scope N' scope ix) (B:∀ x c,cl.lookup x=Y c->X.aa.cells.lookup x=Y c) (QO:∀ y∈scope.names,y.2=.free->∃ c,cl.lookup y.1=Y c)
  (hg:∀ cl C s H ex,PG (bT X N' scope cl C s H ex) tg g) (hb:∀ cl C s H ex,PE (bT X N' scope cl C s H ex) elt te)
  (I:f_ X pins σ h s3) (T:Yv X.ab X.w X.K tg afg fp it tn) (st:tn 0 s3.heap) (f:∀ b∈fp,jk X pins h b) (w0:W 0 m0 (ix.map (Ym σ)) h) (turn:qX afg g te Q D W)
  (fin:∀ C s' H' m,s3.heap.objs.size=C->f_ X pins σ H' s'->s'.heap.Ns C m->jk X pins H' C->Q (.aa D) H'->RR C (.ok .next) s') :
  g_ (i' X.ab X.w) X.A (newFunctionEnv scope X.aa.globals cl [] X.aa.qual O .none (Y X.aa)) (λl F=>
   WV (i' X.ab X.w) X.A (.compStart (.ListComp elt [⟨tg,iter,[],0⟩] scope pos) 0 (.ref it) (.ref D) {l with scope:=aaB scope X.aa}) (RR l.locals) F) E s3:=by
 refine aez S.aa (by intro y hy;simp at hy) (λh₁ QV Q0=>?_) S.ab;have hk:∀ b o,s3.heap.get? b=Y o->h₁.get? b=Y o:=λb o e=>(Q0.2 b (Xs (Xh e))).trans (W7 _ e)
 have I1:f_ (bT X N' scope cl s3.heap.objs.size s3 h fp) [] (ix.map (Ym σ)) h {s3 with heap:=h₁,toks:=s3.toks+([]:List (M×R)).length}:=
  vw S I B QO f (λb hb=>let ⟨o,e,_⟩:=T.aa _ _ st b hb;⟨o,e⟩) (by simpa using QV) hk
 have G:tn 0 h₁:=T.ab _ _ _ st λb _ o e=>hk b o e
 have fY:∀ {H':Hp}{pl:List (J×s_)},(∀ b∈fp,H' b=O)->(∀ p∈pl,p.1∉fp)->∀ b∈fp,jk (bT X N' scope cl s3.heap.objs.size s3 h fp) pl H' b:=λ{H' pl} hn hp b hb=>by
  obtain⟨o,e,_⟩:=T.aa _ _ st b hb;exact⟨hn b hb,Xs (Xh e),pY I (f b hb),.inl hb,λx c e=>(f b hb).2.2.2.2.1 x c (B x c e),λp QX z=>hp p (by simpa [bT]using QX) (by rw[z];exact hb)⟩
 have q:WV (i' X.ab X.w) X.A (.compLoop (.ListComp elt [⟨tg,iter,[],0⟩] scope pos) 0 (.ref it) (.ref D) (compEnvC scope cl s3.heap.objs.size X.aa)) (RR s3.heap.objs.size)
   {s3 with heap:=h₁,toks:=s3.toks+([]:List (M×R)).length}:=by
  refine tw (λn s'=>∃ i P H',f_ (bT X N' scope cl s3.heap.objs.size s3 h fp) [] P H' s'/\tn i s'.heap/\(∀ b∈fp,H' b=O)/\W i n P H') ?_ m0 ⟨0,_,h,I1,G,λb hb=>(f b hb).1,w0⟩;rintro n s4 ⟨i,j,U,I4,V,Z,w4⟩;have a:∀ p∈([]:List (J×s_)),p.1∉fp:=λ_ z=>nomatch z
  rcases turn i n j U w4 with⟨stop,qn⟩ | ⟨go,N,hN,step⟩
  .refine b6 (T.ae (bT X N' scope cl s3.heap.objs.size s3 h fp) rfl rfl rfl hc i [] s4 j U _ I4 (fY Z a) V stop) λr s5 ⟨hr,v⟩=>?_
   subst hr;obtain⟨m5,n5,_⟩:=v.au;have IX:f_ X pins σ U s5:=I.ID (ch:=fp) v.os v.ab v.aa v.ak λb hb=>⟨(f b hb).2.2.2.1,(f b hb).2.1,(f b hb).2.2.2.2.1,(f b hb).2.2.2.2.2⟩
   exact fin _ s5 U m5 rfl IX n5 (I.tI (WY _) v.ar) qn
  .refine b6 (T.af (bT X N' scope cl s3.heap.objs.size s3 h fp) rfl rfl rfl hc i [] s4 j U _ I4 (fY Z a) V go) λr s5 ⟨u,hr,h5⟩=>?_
   subst hr;refine b6 h5 λ_ s6 hq=>?_
   obtain⟨x,H6,I6,r6,y6,t,QJ⟩:=hq;have Qn:=I6.ay (fY QJ a) (T.aa _ _ t);refine b6 (hg cl s3.heap.objs.size s3 h fp _ s6 j H6 x u _ Qn r6 (step x H6 y6)) λ_ s7 ⟨k,H7,I7,q7⟩=>?_
   refine b6 (hb cl s3.heap.objs.size s3 h fp _ s7 k H7 _ I7 q7) λv8 s8 hq=>?_
   obtain⟨y8,H8,I8,r8,ys,hD,hz,q8⟩:=hq;refine b6 (nU _ s8 k H8 (.aa D) [y8] (.ref D) [v8] (λ_ H'=>N k H') I8 rfl (.cons r8 .nil) ⟨D,ys,y8,rfl,rfl,hD,hz,q8⟩) λ_ s9 ⟨_,H9,I9,_,q9⟩=>?_
   obtain⟨m',hm,w9⟩:=hN _ _ q9;refine⟨m',hm,i+1,k,H9,I9.j3,T.ab _ _ _ t λb hb o e=>(I9.av (b,o) (Xu _ (Xu _ (fE hb e)))).1,λb hb=>?_,w9⟩;obtain⟨o,e,d⟩:=T.aa _ _ t b hb;exact(I9.av (b,o) (Xu _ (Xu _ (fE hb e)))).2.1
 exact adD q (T.ag X.A 0 _ _ _ G q)
theorem f_.yk {H:Hp}{s:d_}{C:J}{h':k_}(I:f_ X pins σ H s)(f:jk X pins H C)(a:YU C s.heap h'):f_ X pins σ H {s with heap:=h'}:=
 I.ah (t':=s.toks) (λb o c e=>(a.2 b c).trans e) f.1 f.2.1 f.2.2.2.1 f.2.2.2.2.1 f.2.2.2.2.2
theorem tq {H:Hp}{s:d_}(S:hU X.N X.aa.scope N' scope ix)(I:f_ X pins σ H s) :
  ∃ cl,ace scope X.aa=A' cl/\(∀ x c,cl.lookup x=Y c->X.aa.cells.lookup x=Y c)/\(∀ y∈scope.names,y.2=.free->∃ c,cl.lookup y.1=Y c):=
 wY λy a e=>I.ok.ar y.1 (S.af y a e)
theorem zA (n:X.ag=L)(S:hU X.N X.aa.scope N' scope ix)(p:PI X tg iter wi)(q:∀ cl C s H i,PG (bT X N' scope cl C s H i) tg g)(hb:∀ cl C s H i,PE (bT X N' scope cl C s H i) elt te)
  (r:∀ x,Z5 iter X.aa x=A' x:=by intro _;rfl):PE X (.ListComp elt [⟨tg,iter,[],0⟩] scope pos) (we ix wi g te):=by
 intro pins s σ H Q I h;obtain⟨cl,c,t,u⟩:=tq S I;rw[eval_ListComp];refine abQ (use:=O) rfl r c S.ab S.ae (b6 (p pins s σ H _ I h) λxv s1 v=>b6 v λw a j=>?_);obtain⟨it,fp,tn,afg,k,e,l,T,d,y,j⟩:=j;subst e;have z:k a.heap.objs.size=none:=l.aa.aa (WY _);obtain⟨W,⟨m0,A⟩,f⟩:=j _ z;have B:∀ b∈fp,b≠a.heap.objs.size:=λb hb=>let ⟨o,e,_⟩:=T.aa _ _ d b hb;Xs (Xh e)
 have E:f_ X pins σ (m_ k a.heap.objs.size (.aa [])) {a with heap:=a.heap.push {cls:=.type "list",dict:=O,data:=.seq ([]:List R).toArray}}:=
  l.DB (its:=[]) (ys:=[]) (t':=a.toks) .nil (Xl _)
 refine Xx ?_;refine rl (afg:=afg) (D:=a.heap.objs.size) (W:=W) (m0:=m0) (Q:=Q) (fp:=fp) (tn:=tn) n S t u q hb E T (T.ab _ _ _ d λb _ o e=>W7 _ e) (λb hb=>?_) A f (λC s' F m hC G K P U=>?_)
 .obtain⟨V,Z⟩:=y b hb;exact⟨by rw[ba (B b hb)];exact V,Z⟩
 .exact⟨m,K,λh' sb=>⟨.aa a.heap.objs.size,F,G.yk P sb,rfl,U⟩⟩
theorem xZ {i:Nat}{x:M}{c:u_}{d:u_}(hc:X.ag=L)(hN:X.N.Nodup)(t:X.N[i]?=Y x)(P:X.aa.scope.names.lookup x=Y .local)(S:hU X.N X.aa.scope N' scope ix)(hi:PI X tg iter wi)
  (hg:∀ cl C s H u,PG (bT X N' scope cl C s H u) tg g) (hb:∀ cl C s H u,PE (bT X N' scope cl C s H u) elt te) (y:Yh (.ListComp elt [⟨tg,iter,[],0⟩] scope d) (Y (.Name x c)) pos.line X.aa=A' true:=by rfl)
  (hs:∀ x,Z5 iter X.aa x=A' x:=by intro _;rfl):PS X (.Assign [.Name x c] (.ListComp elt [⟨tg,iter,[],0⟩] scope d) pos) (wc (we ix wi g te) (mJ i)):=by
 intro pins s σ H U I h;obtain⟨cl,l,h1,h2⟩:=tq S I;rw[exec_Assign_Name_used _ _ _ _ y];refine WX (ZY (WX ?_));show g_ _ X.A (do let _←comprehension (.ListComp elt [⟨tg,iter,[],0⟩] scope d) scope X.aa _ (newList []) b_ (z_ iter X.aa) (Y (YF (.Name x c) X.aa))) _ _ s;refine WX (XM (abQ (use:=Y (YF (.Name x c) X.aa)) (Q:=λ_ B=>∃ k f,f_ X pins f k B/\U.nx f k) rfl hs l S.ab S.ae
  (b6 (hi pins s σ H _ I h) λxv s1 k1=>b6 k1 λVd j E=>?_)) (λ_ B hq=>W8 (W8 (let ⟨k,f,F,q⟩:=hq;⟨f,k,F,q⟩))) λ_ _ e=>e)
 obtain⟨it,fp,tn,afg,V,e,Z,T,n,f2,E⟩:=E;subst e;have hD:V j.heap.objs.size=none:=Z.aa.aa (WY _);obtain⟨W,⟨m0,w0⟩,p⟩:=E _ hD;have ne:∀ b∈fp,b≠j.heap.objs.size:=λb hb=>let ⟨o,e,_⟩:=T.aa _ _ n b hb;Xs (Xh e)
 have I3:f_ X pins σ (m_ V j.heap.objs.size (.aa [])) {j with heap:=j.heap.push {cls:=.type "list",dict:=O,data:=.seq ([]:List R).toArray}}:=
  Z.DB (its:=[]) (ys:=[]) (t':=j.toks) .nil (Xl _)
 refine Xx ?_;refine rl (afg:=afg) (D:=j.heap.objs.size) (W:=W) (m0:=m0) (Q:=λv k=>U.nx (σ.set i (Y v)) k) (fp:=fp) (tn:=tn) hc S h1 h2 hg hb I3 T (T.ab _ _ _ n λb _ o e=>W7 _ e) (λb hb=>?_) w0 p
  (λC B k m hC F n' r q'=>?_)
 .obtain⟨g0,g1⟩:=f2 b hb;exact⟨by rw[ba (ne b hb)];exact g0,g1⟩
 .show g_ _ X.A (YF (.Name x c) X.aa (.ref j.heap.objs.size)) _ _ _;refine aeA (sy (v:=.aa j.heap.objs.size) F hN t (.inl P) rfl (λs4 I4 ch=>?_) (.inr P));obtain⟨a,sb,ha⟩:=ch;have G:C≠a:=by
   rcases ha with z | z
   .rw[z];exact r.2.1
   .exact λw=>r.2.2.2.2.1 x a z w.symm
  refine⟨m,n'.sameBut sb G,λh' K=>⟨k,_,I4.yk ⟨r.1,r.2⟩ K,q'⟩⟩
end
def Kn (P:y_)(w:v_)(K:r_)(a:M->Option R)(base:k_)(k:Nat)(x:M)(ps:List M)(sp:Sp):Prop:=
 ∃ (f:J) (b:P'),d3 P w K a base qF k f b ps sp/\S' K b ps []/\Y_ K (.ref f)=L/\a x=Y (.ref f)
section
variable {X:Cx}{k:Nat}{x:M}{ps:List M}{sp:Sp}{p pos:u_}{e:e_}{es:List e_}{t:TA}
theorem N9 (G:Kn X.ab X.w X.K X.mg X.ae k x ps sp)(c:eQ k X.A)(d:PA X (e::es) t)(g:Gl X x:=by rfl)(a:(x == ("__debug__":M))=false:=by decide)
  (h:D' (e::es) X.aa=(b_,z_ e X.aa)::D' es X.aa:=by rfl) (b:(P_ pos (D' es X.aa)).any (·.1)=false:=by rfl):PE X (.Call (.Name x p) (e::es) [] pos) (zR sp [] E0 t):=by
 obtain⟨f,m,F,i,j,l⟩:=G;exact G1 F c g l j i .nil zy d a h b
end
def Jn (X:Cx)(r:V->Option Int->Option Int->Option Int->Hp->VK->Prop):Prop:=
 ∀ (a:List (J×s_)) (s:d_) (b:St) (H:Hp) (x:V) (v c d f:R) (lo hi st:Option Int) (g:J) (Q:VK),f_ X a b H s->x_ x v->s.heap.IsSliceOf g c d f->U_ c lo->U_ d hi->U_ f st->r x lo hi st H Q->
  ∃ T h,Zz (.type T) "__getitem__" = A' (Y (.builtin h))/\s.TypeIs v T/\g_ (i' X.ab X.w) X.A (Yi v (.ref g)) (EP X a b Q) X.xe s
def Fp (r:V->Option Int->Option Int->Option Int->Hp->VK->Prop)(te:TE)(tl th ts:TO):TE:=λa H Q=>te a H λx b=>tl a b λl d=>th a d λu f=>ts a f λc g=>r x l u c g Q
section
variable {X:Cx}{e st:e_}{te:TE}{lo hi:Option e_}{tl th ts:TO}{pos p2:u_}
theorem r9 {r:V->Option Int->Option Int->Option Int->Hp->VK->Prop}(n:Jn X r)(o:PE X e te)(y:PO X lo tl)(z:PO X hi th)(B:PO X (Y st) ts):PE X (.Subscript e (.Slice lo hi (Y st) p2) pos) (Fp r te tl th ts):=by
 intro a s f H Q I h;refine aaQ (b6 (o a s f H _ I h) λv C ⟨x,D,F,G,K⟩=>?_);refine wpAny_Slice (b6 (y a C f D _ F K) λg N ⟨l,P,S,U,W⟩=>b6 (z a N f P _ S W) λi Z ⟨u,H3,I3,pu,q3⟩=>b6 (B a Z f H3 _ I3 q3) λj d ⟨c,m,I4,pc,q4⟩=>?_);have I5:f_ X a f m {d with heap:=d.heap.push {cls:=.type "slice",data:=.fields #[g,i,j]}}:=I4.ai (t':=d.toks) λb ob q=>W7 _ q
 obtain⟨T,id,hT,ht,hg⟩:=n a {d with heap:=d.heap.push {cls:=.type "slice",data:=.fields #[g,i,j]}} f m x v g i j l u c d.heap.objs.size Q I5 G (aeC ..) U pu pc q4;show g_ (i' X.ab X.w) X.A (aaR e (.Slice lo hi (Y st) p2) v (.ref d.heap.objs.size)) (EP X a f Q) X.xe {d with heap:=d.heap.push {cls:=.type "slice",data:=.fields #[g,i,j]}};exact tail_any (ops:=[v,.ref d.heap.objs.size]) ht hT hg (by with_unfolding_all rfl)
end
noncomputable def O' {α:Type}(xs:List α)(c:Int):List α:=if c=1 then xs else xs.reverse
theorem lJ {a:Type}(xs:List a)(c:Int):(O' xs c).length=xs.length:=by
 unfold O';split<;>simp
theorem x'.ak {xs:List V}{us:List R}(r:x' xs us)(c:Int):x' (L2.O' xs c) (L2.O' us c):=by
 unfold L2.O';split
 .exact r
 .exact r.ag
theorem iZ {b c:Type}{f g:b->Option c}:∀ {l:List b},(∀ x∈l,f x=g x)->l.filterMap f=l.filterMap g
 |[],_=>rfl
 |a::r,h=>by
  rw[Zo,Zo,h a XI,iZ λx d=>h x (Xt _ d)]
theorem ra {a:Type}(xs:List a):(C_ xs.length).filterMap (λ(k:Nat)=>xs[xs.length-1-k]?)=xs.reverse:=by
 have e:∀ k∈C_ xs.length,xs[xs.length-1-k]?=xs.reverse[k]?:=λk b=>by
  have Dg:=YM.mp b;rw[acV Dg]
 have c:(C_ xs.length).filterMap (λ(k:Nat)=>xs[xs.length-1-k]?)=(C_ xs.reverse.length).filterMap (λ(k:Nat)=>xs.reverse[k]?):=by
  rw[ZK];exact iZ e
 rw[c];have d:∀ ys:List a,(C_ ys.length).filterMap (λ(k:Nat)=>ys[k]?)=ys:=λys=>by
  induction ys with
  |nil=>rfl
  |cons y r f=>
   rw[Xa,ac9,Zo];simp only[Xm,abp];have:((λ(k:Nat)=>(y::r)[k]?)∘Y9)=λk=>r[k]?:=by funext k;simp
   rw[this,f]
 exact d _
theorem oW (n:Nat):acd ((n:Int)-1) (-1) (-1)=(C_ n).map λ(k:Nat)=>((n:Int)-1 + -1*(k:Int)).toNat:=by
 unfold acd;have h:(if (-1:Int)>0 then(if (n:Int)-1 < -1 then(-1-((n:Int)-1) + -1-1) / -1 else 0) else(if (n:Int)-1 > -1 then((n:Int)-1 - -1 - -1-1)/(- -1) else 0)).toNat=n:=by
  rw[W5 ∅];split
  .have a:(n:Int)-1 - -1 - -1-1=n:=by lia
   have b:(- -1:Int)=1:=by decide
   rw[a,b,abk];simp
  .lia
 simp only[h]
theorem nZ (its:List R)(c:Int)(a:c=1\/c=-1):Z0 its.toArray O O (Y c)=(O' its c).toArray:=by
 unfold Z0;rcases a with e | e
 .subst e;have:=lH its O O;unfold Z0 at this;rw[show Yg O O (Y 1) its.toArray.size=Yg O O O its.toArray.size from rfl,this];unfold O';rw[W0 rfl];simp[HT.eT]
 .subst e;unfold O';rw[W5 ∅];congr 1;rw[<-ra its];have b:Yg O O (Y (-1)) its.toArray.size=((its.length:Int)-1,-1,-1):=by
   simp[Yg]
  rw[b];show List.filterMap _ (acd ((its.length:Int)-1) (-1) (-1))=_;rw[oW];rw[abp];refine iZ λk d=>?_
  have Dg:=YM.mp d;show its.toArray[((its.length:Int)-1 + -1*(k:Int)).toNat]?=its[its.length-1-k]?;have f:((its.length:Int)-1 + -1*(k:Int)).toNat=its.length-1-k:=by lia
  rw[f];simp
def yc (K:r_):V->Option Int->Option Int->Option Int->Hp->VK->Prop:=λx lo hi st H Q=>∃ a b c,x=.aa a/\lo=O/\hi=O/\st=Y c/\(c=1\/c=-1)/\gm K H a b/\∀ p,H p=O->Q (.aa p) (m_ H p (.aa (O' b c)))
section
variable {X:Cx}
theorem EV:Jn X (yc X.K):=by
 intro f s D H x v F G N lo hi st P Q I l m n u y h;obtain⟨a,B,c,rfl,rfl,rfl,rfl,g,C,q⟩:=h;cases l;obtain⟨d,r,i,hz⟩:=I.aj C;have j:=r.aa;refine⟨"list",_,abZ.lookup,i.isList.typeIs,?_⟩;refine aeD i.isList m n u y (by intro z;cases z;rcases g with z | z<;>cases z) ?_ (by rw[Xc]<;>lia);rw[nZ d c g];refine⟨.aa s.heap.objs.size,_,I.ag (t':=s.toks) (o:=.aa (O' B c)) (λb S q=>W7 _ q) (WY _) ?_,rfl,q _ (I.aa.aa (WY _))⟩;exact⟨by rw[lJ];exact hz,_,0,r.ak c,Xo _ rfl⟩
end
end L2
namespace HT
open PySem PyProof.Rows
section
variable {prog:y_}{w:v_}{A:D_}{E:R->d_->Prop}{s:d_}
theorem mY {f:J}{c d vs:R}{n:Nat}{Q:Int×Int×Nat->d_->Prop}(g:s.heap.IsSliceOf f c d vs)(pl:U_ c O)(i:U_ d O)(j:U_ vs (Y (-1)))
  (h:Q ((n:Int)-1,-1,n) s):g_ (i' prog w) A (aaZ (.ref f) (A' (n:Int))) Q E s:=by
 obtain⟨r,a,l,b⟩:=id g;unfold aaZ aeK;refine WX (WX (X2 a b (x:=c) rfl (WX (X2 a b (x:=d) rfl (WX (X2 a b (x:=vs) rfl (W8 ?_)))))));refine WX (gS j ?_);show g_ _ _ (if ((-1:Int) == 0)=L then _ else _) _ _ s;rw[W5 ∅];refine WX (gS pl (WX (gS i (WX (W8 ?_)))));show g_ _ _ (match Z2 O O (-1) (n:Int) with | (lo,hi)=>A' (lo,(-1:Int),YX lo hi (-1))) _ _ s;have e:Z2 O O (-1) (n:Int)=((n:Int)-1,-1):=rfl;rw[e];have m:YX ((n:Int)-1) (-1) (-1)=n:=by
  unfold YX;rw[W5 ∅];split
  .have o:(n:Int)-1 - -1-1=(n:Int)-1:=by lia
   have q:(- -1:Int)=1:=by decide
   rw[o,q,abk];lia
  .lia
 show g_ _ _ (A' ((n:Int)-1,(-1:Int),YX ((n:Int)-1) (-1) (-1))) _ _ s;rw[m];exact W8 h
theorem lP {t c:J}{items:Array R}{l n vs:R}{Q:R->d_->Prop}(b:Yq s.heap t items)(o:s.heap.IsSliceOf c l n vs)(pl:U_ l O)(r:U_ n O)(u:U_ vs (Y (-1)))
  (h:Q (.ref s.heap.objs.size) {s with heap:=s.heap.push {cls:=.type "tuple",data:=.seq items.toList.reverse.toArray}})
  (d:items.size<=p'):g_ (i' prog w) A (Yi (.ref t) (.ref c)) Q E s:=by
 have a:sizeOk (.seq items.toList.reverse.toArray):=by
  show items.toList.reverse.toArray.size<=p';rw[Xc,ZK,ZF];exact d
 obtain⟨v,f,g,y⟩:=id o;have i:s.TypeIs (.ref c) "slice":=⟨v,f,g⟩;unfold Yi
 try with_reducible refine YV ?_
 first | refine WX (W8 ?_) | skip
 refine WX (aee b.typeIs ∅ ?_);refine WX (Z1 (name:=i_ "__getitem__") b.typeIs XB
  (X8 XB b.typeIs aeq ?_ (aep _ _)))
 show g_ _ _ (acb (.ref t) >>= _) _ _ s;refine WX (tupleItemsOf_ b ?_);refine WX (aaU i ?_);rw[W0 ∅];refine WX (mY o pl r u ?_);have j:¬ ((((items.size:Int)-1) == 0&&(-1:Int) == 1&&items.size == items.size)=L):=by
  intro q;rw[Xn,Xn]at q;exact absurd (Zk q.1.2) ∅
 show g_ _ _ (if (((items.size:Int)-1) == 0&&(-1:Int) == 1&&items.size == items.size)=L then _ else _) _ _ s;have z:((C_ items.size).filterMap λ(k:Nat)=>items[((items.size:Int)-1+(k:Int) * -1).toNat]?)=items.toList.reverse:=by
  rw[<-L2.ra items.toList,ZF];refine L2.iZ λk B=>?_
  have Dg:=YM.mp B;have C:((items.size:Int)-1+(k:Int) * -1).toNat=items.size-1-k:=by lia
  rw[C];simp
 rw[W5 j,z]
 first
  |exact WX (m:=aeM _) (Xx (W8 ⟨_,rfl,W8 h⟩) a)
  |exact WX (m:=Builtin.Tuple.tupleExact _) (Xx (WX (W8 (W8 ⟨_,rfl,W8 h⟩))) a)
  |exact WX (WX (m:=Builtin.Tuple.tupleExact _) (Xx (W8 (W8 ⟨_,rfl,W8 h⟩)) a))
  |exact WX (WX (m:=Builtin.Tuple.tupleExact _) (Xx (W8 ⟨_,rfl,W8 h⟩) a))
end
end HT
namespace L2
open PySem PySem.Spec PyProof.Rows
def x9 (K:r_):V->Option Int->Option Int->Option Int->Hp->VK->Prop:=λx lo hi st H Q=>∃ a b,x=.aa a/\lo=O/\hi=O/\st=Y (-1)/\eV K H a b/\∀ p,H p=O->Q (.aa p) (m_ H p (.ab b.reverse))
section
variable {X:Cx}
theorem EU:Jn X (x9 X.K):=by
 intro f s z H x v B C D lo hi st F Q I j l m n u h;obtain⟨a,g,rfl,rfl,rfl,rfl,y,q⟩:=h;cases j;obtain⟨d,r,i,hz⟩:=I.ae y;have c:d.toArray.size=g.length:=by rw[Xc];exact r.aa.symm
 refine⟨"tuple",_,XB.lookup,i.typeIs,?_⟩;refine HT.lP i l m n u ?_ (by rw[c];exact hz);refine⟨.aa s.heap.objs.size,_,I.ag (t':=s.toks) (o:=.ab g.reverse) (λb G q=>W7 _ q) (WY _) ?_,rfl,q _ (I.aa.aa (WY _))⟩;exact⟨by rw[ZK];exact hz,_,r.ag,gf.ab _ _⟩
def Ov:V->Option Int->Option Int->Hp->VK->Prop:=λx lo hi H Q=>∃ z,x=.ae z/\z.length<=p'/\Q (.ae (WW z lo hi)) H
theorem LR:FZ X Ov:=by
 intro b s y H x v G K lo hi N Q I B C D m h;obtain⟨z,rfl,hz,q⟩:=h;obtain⟨t,rfl⟩:=B;refine⟨"str",_,PySem.F.slot_str_getitem.lookup,ab5 _ _ _,?_⟩;have a:∀ (n:WG) (k:Nat),EP X b y Q (.str (WW z lo hi) n) {s with toks:=k}:=λn k=>⟨.ae (WW z lo hi),H,I.af k,⟨_,rfl⟩,q⟩
 obtain⟨o,c,d,f⟩:=C;cases D with
 |none=>
  cases m with
  |none=>exact aaT (l:=O) (u:=O) (st:=O) ⟨o,c,d,f⟩ rfl (aaV ⟨Xi (aaW z _ _) hz,a⟩)
  |int j g=>exact aaT (l:=O) (u:=Y (j,g)) (st:=O) ⟨o,c,d,f⟩ rfl (aaV ⟨Xi (aaW z _ _) hz,a⟩)
 |int i r=>
  cases m with
  |none=>exact aaT (l:=Y (i,r)) (u:=O) (st:=O) ⟨o,c,d,f⟩ rfl (aaV ⟨Xi (aaW z _ _) hz,a⟩)
  |int j g=>exact aaT (l:=Y (i,r)) (u:=Y (j,g)) (st:=O) ⟨o,c,d,f⟩ rfl (aaV ⟨Xi (aaW z _ _) hz,a⟩)
end
end L2
namespace RV
open PySem PyProof.Rows
theorem Bu:Slot "reversed" "__init__" "object.__init__":=
 .of (owner:="object") (n:="__init__") (by rw[Zv,Zu];kernel_rfl) (by decide +kernel) (by decide +kernel) (by decide +kernel) (by first | exact .inl (by decide +kernel) | exact .inr (by decide +kernel)) (by rw[aaL];kernel_rfl)
theorem Zi:Slot "reversed" "__next__" "reversed.__next__":=
 .of (owner:="reversed") (n:="__next__") (by rw[Zv,Zu];kernel_rfl) (by decide +kernel) (by decide +kernel) (by decide +kernel) (by first | exact .inl (by decide +kernel) | exact .inr (by decide +kernel)) (by rw[aaL];kernel_rfl)
theorem sv:Slot "reversed" "__iter__" "reversed.__iter__":=
 .of (owner:="reversed") (n:="__iter__") (by rw[Zv,Zu];kernel_rfl) (by decide +kernel) (by decide +kernel) (by decide +kernel) (by first | exact .inl (by decide +kernel) | exact .inr (by decide +kernel)) (by rw[aaL];kernel_rfl)
theorem acy:TypeCalled "reversed" "reversed.__new__" "object.__init__":=⟨by decide +kernel,by decide +kernel,⟨_,_,F.mro_reversed⟩,F.made_reversed,by decide +kernel,F.sub_reversed_self,Bu⟩
theorem aa3:entryFor table "reversed.__next__" = Y Builtin.«reversed.__next__»:=aea (by kernel_rfl)
theorem xl:entryFor table "reversed.__iter__" = Y Builtin.«dict_keyiterator.__iter__»:=
 entryFor_alias (id':="dict_keyiterator.__iter__") (by kernel_rfl) (by first | rfl | decide +kernel | (unfold String.splitOn;simp +decide [String.splitOnAux])) (by decide +kernel) (by kernel_rfl)
theorem aa5 (a:R):argsOk "reversed.__next__" ⟨[a],[]⟩:=by unfold argsOk;kernel_rfl
theorem z9 (a:R):argsOk "reversed.__iter__" ⟨[a],[]⟩:=by unfold argsOk;kernel_rfl
theorem N1:Zz (.type "tuple") "__reversed__" = A' none:=by rw[Zv,Zu];kernel_rfl
theorem acu:isSubtype (.type "tuple") (.type "dict")=A' false:=by rw[aaL];kernel_rfl
noncomputable def obj (t:J)(i:Int):Obj:={cls:=.type "reversed",data:=.fields #[.ref t,V' i]}
def Is (h:k_)(a t:J)(i:Int):Prop:=∃ o,h.get? a=Y o/\o.cls=.type "reversed"/\o.data=.fields #[.ref t,V' i]
theorem Is.aa {s:d_}{a t:J}{i:Int}(x:Is s.heap a t i):s.TypeIs (.ref a) "reversed":=let ⟨o,ho,hc,_⟩:=x;⟨o,ho,hc⟩
section
variable {prog:y_}{w:v_}{A:D_}{E:R->d_->Prop}{s:d_}
theorem AM {items:Array R}{t:J}{Q:Bool->d_->Prop}(a:Yq s.heap t items)(h:Q L s):g_ (i' prog w) A (isInstance (.ref t) (.type "dict") >>= λb=>if b=L then A' b_ else(specialOf (.ref t) "__getitem__" >>= λo=>match o with
  |none=>A' b_
  |some (.builtin c)=>if ["tuple.__getitem__","str.__getitem__","bytes.__getitem__","bytearray.__getitem__","memoryview.__getitem__","numpy.ndarray.__getitem__","sqlite3.Row.__getitem__"].contains c=L then A' L else if (c == "sqlite3.Blob.__getitem__")=L then A' b_ else unsupported "reversed.__new__:is-it-a-sequence"
  |some _=>A' L)) Q E s:=by
 refine WX (ab9 a.typeIs acu ?_);rw[W5 Xb];refine WX (X3 a.typeIs XB.lookup ?_);exact W8 h
theorem Kq (t:J)(items:Array R):MeetsIn prog w (Builtin.«reversed.__new__» ⟨[.type "reversed",.ref t],[]⟩)
  (λA afi s=>Yq s.heap t items/\(items.size:Int)<2 ^ 63/\∀ tk,afi (.ok (.ret (I_ s.heap.objs.size))) {s with heap:=s.heap.push (obj t ((items.size:Int)-1)),toks:=tk}):=
 .of_wp λA afi s h=>by
  obtain⟨b,hz,h⟩:=h;unfold Builtin.«reversed.__new__»;refine WX (YE (newClass_reversed _) ?_)
  try dsimp only
  refine WX (YE (a:=()) (by first | rfl | kernel_rfl) ?_);refine WX (YE (a:=()) (by first | rfl | kernel_rfl) ?_)
  try dsimp only
  refine WX (X3 b.typeIs N1 ?_)
  try dsimp only
  refine WX (AM b ?_)
  try dsimp only
  refine WX (len_tuple b hz ?_);refine WX (YE (a:=Y (items.size:Int)) (by rfl) ?_)
  try dsimp only
  refine WX (m:=afa (.type "reversed") [.ref t,V' ((items.size:Int)-1)]) ?_;show g_ _ _ (newObj (.type "reversed") (.fields [I_ t,V' ((items.size:Int)-1)].toArray)) _ _ _;exact Xx (W8 ⟨_,rfl,h _⟩)
theorem Cz {t:J}{items:Array R}{Q:R->d_->Prop}(a:Yq s.heap t items)(hz:(items.size:Int)<2 ^ 63)
  (h:∀ tk,Q (.ref s.heap.objs.size) {s with heap:=s.heap.push (obj t ((items.size:Int)-1)),toks:=tk}):g_ (i' prog w) A (V_ (.type "reversed") [.ref t]) Q E s:=
 callType_newIn acy ∅ (F.typeCall_reversed_1 _) (F.newCall_reversed_1 _) (λo=>ad_ o _) F.entry_reversed_new (Kq t items)
  ⟨a,hz,λtk=>⟨⟨_,Xo _ rfl,rfl⟩,h tk⟩⟩
theorem acm {it t:J}{i:Nat}{items:Array R}{x:R}{Q:Option R->d_->Prop}(b:Is s.heap it t (i:Int))(f:Yq s.heap t items)(g:items[i]?=Y x)(h:(i:Int)<2 ^ 63)
  (k:∀ h' tk,Is h' it t ((i:Int)-1)->YU it s.heap h'->Q (Y x) {s with heap:=h',toks:=tk}):g_ (i' prog w) A (Ys (.ref it)) Q E s:=by
 obtain⟨o,d,l,c⟩:=id b;unfold Ys;refine WX (ab1 (Z1 (name:=i_ "__next__") b.aa Zi
  (X8 Zi b.aa aa3 ?_ (aa5 _))))
 unfold Builtin.«reversed.__next__»;refine WX (YE (a:=(I_ it,[])) rfl ?_)
 try dsimp only
 refine WX (X2 d c (x:=.ref t) rfl ?_);refine WX (X2 d c (x:=V' (i:Int)) rfl ?_);show g_ _ _ (if (i:Int)<0 then _ else _) _ _ s;rw[W5 ⋯];refine WX (X3 f.typeIs XB.lookup ?_);show g_ _ _ (mkInt (i:Int) >>= _) _ _ s;refine WX (wpAny_mkInt' ?_);have NM:i<items.size:=(Array.getElem?_eq_some_iff.mp g).1;have e:Z3 (i:Int) items.size=Y i:=by
  rw[aaI ⋯ ⋯];simp
 refine WX (ab1 (aeu (j:=i) f ⋯ h e g ?_))
 try dsimp only
 refine WX (X2 d c (x:=V' (i:Int)) rfl ?_);show g_ _ _ (setField (.ref it) 1 (V' ((i:Int)-1)) >>= _) _ _ _;refine WX (ZQ d c nofun ?_);refine W8 ⟨x,rfl,W8 (k _ _ ?_ (ZX ..))⟩;exact⟨_,aaG _ d (abP (Zt c _)),(adC ..).trans l,by rw[Zt c];simp⟩
theorem aco {it t:J}{Q:Option R->d_->Prop}(h:A.handled=O)(c:Is s.heap it t (-1))
  (j:∀ h',ZW it s.heap h'->Q O {s with heap:=h'}):g_ (i' prog w) A (Ys (.ref it)) Q E s:=by
 obtain⟨o,f,p,d⟩:=id c;unfold Ys;refine WX (ab1 (Z1 (name:=i_ "__next__") c.aa Zi
  (X8 Zi c.aa aa3 ?_ (aa5 _))))
 unfold Builtin.«reversed.__next__»;refine WX (YE (a:=(I_ it,[])) rfl ?_)
 try dsimp only
 refine WX (X2 f d (x:=.ref t) rfl ?_);refine WX (X2 f d (x:=V' (-1)) rfl ?_);show g_ _ _ (if (-1:Int)<0 then _ else _) _ _ s;rw[W0 ∅];refine WX (aaK ?_);refine WX ?_;show g_ _ _ (setField (.ref it) 1 (V' (-1)) >>= λ_=>setField (.ref it) 0 .none) _ _ _;refine WX (ZQ f d nofun ?_);have g:=aaG (Zh (·.setIfInBounds 1 (V' (-1)))) f (abP (Zt d _));refine ZQ g (Zt d _) nofun ?_;refine WX (m:=afb) ?_;show g_ _ _ (newExc (.type "StopIteration") [] >>= _) _ _ _;refine WX ?_;simp only[newExc,newTuple];refine WX (Xx ?_ (by size_fits));refine WX (m:=firstArgMember _ _) (YE (a:=WR) (by first | rfl | (simp only[firstArgMember];rfl)) ?_);refine Xx ?_ (by size_fits);simp only[raiseNew];refine WX (wpAny_handled ?_)
 first | rw[show A.in1.handled=O from h] | rw[h]
 refine WX (W8 (wpAny_throw ?_));refine WX (ab9 (T:="StopIteration") (b:=L) ⟨_,Xo _ rfl,rfl⟩ isSubtype_stop ?_);refine W8 (j _ ?_);have k:ZW it s.heap (s.heap.update it (Zh λx=>x.setIfInBounds 1 (V' (-1)))):=(ZX ..).extBut;have l:ZW it (s.heap.update it (Zh λx=>x.setIfInBounds 1 (V' (-1)))) ((s.heap.update it (Zh λx=>x.setIfInBounds 1 (V' (-1)))).update it (Zh λx=>x.setIfInBounds 0 WR)):=(ZX ..).extBut;have n:ZW it s.heap ((s.heap.update it (Zh λx=>x.setIfInBounds 1 (V' (-1)))).update it (Zh λx=>x.setIfInBounds 0 WR)):=λb q i e=>l b q i (k b q i e)
 exact(n.push _).push _
theorem su {it t:J}{i:Int}{Q:R->d_->Prop}(a:Is s.heap it t i)(h:Q (.ref it) s):g_ (i' prog w) A (Z8 (.ref it)) Q E s:=by
 refine wpAny_pyIter_slot a.aa sv (X8 sv a.aa xl ?_ (z9 _));show g_ _ _ (ret (.ref it)) _ _ s;exact W8 ⟨_,rfl,"reversed",_,a.aa,Zi.lookup,h⟩
end
end RV
namespace L2
open PySem PySem.Spec PyProof.Rows
theorem Fx {P:y_}{w:v_}{K:r_}{tg:e_}(a it:J)(n:Nat):Yv P w K tg ⟨λi H=>∃ xs x,eV K H a xs/\xs.length=n/\xs.reverse[i]?=Y x,λi H x H'=>H'=H/\∀ xs,eV K H a xs->xs.reverse[i]?=Y x,λi H=>∃ xs,eV K H a xs/\xs.length=n/\n<=i⟩ [it] it
  (λi h=>i<=n/\RV.Is h it a ((n:Int)-1-(i:Nat))) where
 ah:=by simp
 aa:=λi h g b m=>by
  have e:b=it:=by simpa using m
  subst e;obtain⟨_,o,e,c,d⟩:=g;exact⟨o,e,λv z=>by rw[d]at z;cases z⟩
 ab:=λi h y g k=>let ⟨l,o,e,r⟩:=g;⟨l,o,k it nofun o e,r⟩
 af:=by
  intro X C D F Z i j s σ H E I B g G;subst C D F;obtain⟨xs,x,N,hn,t⟩:=G;obtain⟨its,rv,p,hz⟩:=I.ae N;obtain⟨Q,S,f2,T,U,V⟩:=B it nofun;have hl:=rv.aa;have hi:i<n:=by
   have:=(W2.mp t).1;rw[ZK]at this;lia
  have hx':xs[n-1-i]?=Y x:=by
   rw[acV ⋯]at t;rw[<-hn];exact t
  obtain⟨u,hu,ru⟩:=rv.ae hx';have f:=g.2;have e:(n:Int)-1-(i:Nat)=((n-1-i:Nat):Int):=by lia
  rw[e]at f;have Wh:=i6;refine RV.acm f p (x:=u) (by simpa using hu) ⋯ λy tk q sb=>?_
  have I1:f_ X j σ H {s with heap:=y,toks:=tk}:=I.ah (λb o m e=>(sb.2 b m).trans e) Q S T U V;have e2:((n-1-i:Nat):Int)-1=(n:Int)-1-((i+1:Nat):Int):=by lia
  rw[e2]at q;obtain⟨o,e,c,d⟩:=id q;exact⟨u,rfl,zb (s:={s with heap:=y,toks:=tk}) e c d ∅ ⟨x,H,I1,ru,⟨rfl,λys hy=>by rw[I.n3 hy N];exact t⟩,⟨hi,q⟩,λb m=>(B b m).1⟩⟩
 ae:=by
  intro X C D F Z i j s σ H E I B g G;subst C D F;obtain⟨xs,N,hn,t⟩:=G;obtain⟨Q,S,f2,T,U,V⟩:=B it nofun;have f:=g.2;have S7:i=n:=Nat.le_antisymm g.1 t;have e:(n:Int)-1-(i:Nat)=-1:=by lia
  rw[e]at f;exact RV.aco (I.ok.hd Z) f λy eb=>⟨rfl,I.ah (t':=s.toks) (λb o m e=>eb b o m e) Q S T U V⟩
 ag:=λ_ _ _ _ _ g h=>RV.su g.2 h
def Dk (K:r_)(ta:TA):TI:=λe H afi=>ta e H λf d=>∃ a b,f=[.aa a]/\eV K d a b/\
 afi ⟨λi H=>∃ c x,eV K H a c/\c.length=b.length/\c.reverse[i]?=Y x,λi H x g=>g=H/\∀ b,eV K H a b->b.reverse[i]?=Y x,λi H=>∃ c,eV K H a c/\c.length=b.length/\b.length<=i⟩ d
theorem G7 {X:Cx}{t a:e_}{ta:TA}{p pos:u_}(v:X.mg "reversed" = O)(x:PA X [a] ta)(y:Gl X "reversed":=by rfl)(z:D' [a] X.aa=[(b_,z_ a X.aa)]:=by rfl) :
  PI X t (.Call (.Name "reversed" p) [a] [] pos) (Dk X.K ta):=by
 intro g s l H afi I h;refine Call_ (jM I y v boot_reversed (X4 (b6 (x pos g s l H _ I h) λus f ⟨vs,m,i,B,C⟩=>?_) z rfl));obtain⟨b,j,e,D,q⟩:=C;subst e;obtain⟨u,rfl,F⟩:=WS B;cases F;obtain⟨d,G,N,hz⟩:=i.ae D;have P:=G.aa;have Q:=i6;have k:(d.toArray.size:Int)=(j.length:Int):=by rw[Xc,P]
 refine RV.Cz N (by rw[k];lia) λn=>?_
 have S:f_ X g l m {f with heap:=f.heap.push (RV.obj b ((d.toArray.size:Int)-1)),toks:=n}:=i.ai λc o e=>W7 _ e
 have r:RV.Is (f.heap.push (RV.obj b ((d.toArray.size:Int)-1))) f.heap.objs.size b ((d.toArray.size:Int)-1):=⟨_,Xo _ rfl,rfl,rfl⟩;refine RV.su (s:={f with heap:=f.heap.push (RV.obj b ((d.toArray.size:Int)-1)),toks:=n}) r ?_;refine⟨f.heap.objs.size,[f.heap.objs.size],_,_,m,rfl,S,Fx b _ j.length,⟨Xl _,?_⟩,λc T=>?_,q⟩
 .obtain⟨o,U,V,Z⟩:=r;have e:(d.toArray.size:Int)-1=(j.length:Int)-1-((0:Nat):Int):=by lia
  exact⟨o,U,V,by rw[Z,e]⟩
 .have e:c=f.heap.objs.size:=by simpa using T
  subst e;exact i.tI (WY _) (i.aa.aa (WY _))
section
variable {X:Cx}
def Ma (b:Bool)(T:String)(c:TE)(K:r_):TE:=λd H Q=>c d H λx a=>V.ty T=.ty T/\(∃ t,lL K a x t/\aav K t (.type T)=Y b)/\Q (.bl b) a
theorem Eb {b:Bool}{T:String}{e:e_}{i:TE}{c:M}{p f pos:u_}(C:PE X e i)(j:X.mg "isinstance" = O)(k:X.mg c=O)(l:WO c=Y (.type T))(m:Gl X "isinstance":=by rfl)(n:Gl X c:=by rfl)
  (o:c≠"__name__":=by decide) (q:(c == ("__debug__":M))=false:=by decide) (A:D' [e,.Name c f] X.aa=(b_,z_ e X.aa)::D' [.Name c f] X.aa:=by rfl) :
  PE X (.Call (.Name "isinstance" p) [e,.Name c f] [] pos) (Ma b T i X.K):=by
 intro d s r H Q I h;refine ZT (jM I m j boot_isinstance ?_ ∅ ∅);have D:PA X [e,.Name c f] (oO (λr H Q=>i r H Q) (oO (tC (.ty T)) uv)):=k7 C (k7 (G0 (v:=.ty T) n k l rfl o q) qq) A;refine aer (b6 (D pos d s r H (λw g=>match w with | [x,y]=>y=.ty T/\(∃ t,lL X.K g x t/\aav X.K t (.type T)=Y b)/\Q (.bl b) g | _=>False) I ?_) λU V ⟨w,g,B,z,a⟩=>?_) A rfl
 .exact h
 .match w,z,a with
  |[x,y],z,a=>
   obtain⟨E,⟨t,F,G⟩,a⟩:=a;subst E;obtain⟨u,Z,rfl,N,P⟩:=aac z;cases P;exact AL B N F G λS=>⟨.bl b,g,B.af S,rfl,a⟩
  |[],_,a=>exact a.elim
  |[_],_,a=>exact a.elim
  |_::_::_::_,_,a=>exact a.elim
end
theorem uY {prog:y_}{w:v_}{A:D_}{afi:Zf->d_->Prop}{s:d_}{elt a iter c:e_}{scope:J'}{pos:u_}{it p:R}{env:H_}(I:Nat->d_->Prop)
  (turn:∀ n s,I n s->g_ (i' prog w) A (Ys it) (λr e=>match r with
   |none=>afi (.ok .next) e
   |some v=>g_ (i' prog w) A (Z7 a it v) (λ_ i=>g_ (i' prog w) A (YF a env v) (λ_ j=>g_ (i' prog w) A (Z6 c env (z_ c env)) (λb f=>
     if b=L then g_ (i' prog w) A (z_ elt env) (λx k=>g_ (i' prog w) A (V_ (.builtin "list.append") [p,x]) (λ_ l=>∃ m,m<n/\I m l) (λ_ _=>False) k) (λ_ _=>False) f
     else ∃ m,m<n/\I m f) (λ_ _=>False) j) (λ_ _=>False) i) (λ_ _=>False) e) (λ_ _=>False) s)
  (n:Nat) (h:I n s):WV (i' prog w) A (.compLoop (.ListComp elt [⟨a,iter,[c],0⟩] scope pos) 0 it p env) afi s:=by
 refine codeAny_loop rfl I (λn s B=>?_) n h;show g_ _ _ (aeQ (compTurn (.ListComp elt [⟨a,iter,[c],0⟩] scope pos) 0 it p env) (λx=>do noteFrame x env;aeN x)) _ _ s;refine wpAny_noted ?_;rw[compTurn_list];refine WX (ZY (WX (XM (turn n s B) (λr e o=>?_) λ_ _ z=>M' z)));cases r with
 |none=>exact W8 o
 |some v=>
  refine WX (XM o (λ_ i q=>WX (XM q (λ_ j t=>?_) λ_ _ z=>M' z)) λ_ _ z=>M' z);show g_ _ _ (forIn [c] L _ >>= _) _ _ _;rw[ac3];refine WX (WX ?_);rw[W0 rfl];refine WX (XM t (λb f d=>?_) λ_ _ z=>M' z);refine W8 ?_;show g_ _ _ (forIn [] b _) _ _ _;rw[List.forIn_nil];refine W8 ?_;cases b with
  |true=>
   rw[W0 rfl]at d;show g_ _ _ (if L=L then _ else _) _ _ _;rw[W0 rfl];refine WX (WX (XM d (λx k u=>WX (XM u (λ_ l y=>?_) λ_ _ z=>M' z)) λ_ _ z=>M' z));exact W8 (W8 ⟨rfl,y⟩)
  |false=>
   rw[W5 Xb]at d;show g_ _ _ (if b_=L then _ else _) _ _ _;rw[W5 Xb];exact W8 ⟨rfl,d⟩
def pD (afg:It)(g:TG)(tc:TT)(te:TE)(Q:VK)(D:J)(W:Nat->Nat->St->Hp->Prop):Prop:=
 ∀ i m σ H,W i m σ H->(afg.aa i H/\Q (.aa D) H)\/(afg.go i H/\∃ N:St->Hp->Prop,(∀ d e,N d e->∃ h,h<m/\W (i+1) h d e)/\
  ∀ x e,afg.ab i H x e->g x σ e λa l=>tc a l λb j=>if b=L then te a j λy k=>∃ f,k D=Y (.aa f)/\f.length<p'/\N a (m_ k D (.aa (f++[y]))) else N a j)
def yp (ix:List (Option Nat))(wi:TI)(g:TG)(tc:TT)(te:TE):TE:=λσ H Q=>wi σ H λafg a=>∀ D,a D=O->
 ∃ W:Nat->Nat->St->Hp->Prop,(∃ m,W 0 m (ix.map (Ym σ)) (m_ a D (.aa [])))/\pD afg g tc te Q D W
section
variable {X:Cx}{pins:List (J×s_)}{σ:St}{N':List M}{scope:J'}{ix:List (Option Nat)}{elt tg iter c:e_}{wi:TI}{g:TG}{tc:TT}{te:TE}{pos:u_}
theorem w5 {s3:d_}{a:Hp}{it D:J}{fp:List J}{tn:Nat->k_->Prop}{afg:It}{Q:VK}{W:Nat->Nat->St->Hp->Prop}{m0:Nat}{cl:List (M×J)}{RR:J->Zf->d_->Prop}{E:R->d_->Prop}
  (hc:X.ag=L) (S:hU X.N X.aa.scope N' scope ix) (G:∀ x c,cl.lookup x=Y c->X.aa.cells.lookup x=Y c) (QO:∀ y∈scope.names,y.2=.free->∃ c,cl.lookup y.1=Y c)
  (hg:∀ cl C s H P,PG (bT X N' scope cl C s H P) tg g) (IQ:∀ cl C s H P,PT (bT X N' scope cl C s H P) c tc) (hb:∀ cl C s H P,PE (bT X N' scope cl C s H P) elt te)
  (I:f_ X pins σ a s3) (T:Yv X.ab X.w X.K tg afg fp it tn) (st:tn 0 s3.heap) (f:∀ b∈fp,jk X pins a b) (w0:W 0 m0 (ix.map (Ym σ)) a) (turn:pD afg g tc te Q D W)
  (fin:∀ C s' H' m,s3.heap.objs.size=C->f_ X pins σ H' s'->s'.heap.Ns C m->jk X pins H' C->Q (.aa D) H'->RR C (.ok .next) s') :
  g_ (i' X.ab X.w) X.A (newFunctionEnv scope X.aa.globals cl [] X.aa.qual O .none (Y X.aa)) (λt U=>
   WV (i' X.ab X.w) X.A (.compStart (.ListComp elt [⟨tg,iter,[c],0⟩] scope pos) 0 (.ref it) (.ref D) {t with scope:=aaB scope X.aa}) (RR t.locals) U) E s3:=by
 refine aez S.aa (by intro y hy;simp at hy) (λh₁ QV Q0=>?_) S.ab;have hk:∀ b o,s3.heap.get? b=Y o->h₁.get? b=Y o:=λb o e=>(Q0.2 b (Xs (Xh e))).trans (W7 _ e)
 have I1:f_ (bT X N' scope cl s3.heap.objs.size s3 a fp) [] (ix.map (Ym σ)) a {s3 with heap:=h₁,toks:=s3.toks+([]:List (M×R)).length}:=
  vw S I G QO f (λb hb=>let ⟨o,e,_⟩:=T.aa _ _ st b hb;⟨o,e⟩) (by simpa using QV) hk
 have V:tn 0 h₁:=T.ab _ _ _ st λb _ o e=>hk b o e
 have fY:∀ {H':Hp}{pl:List (J×s_)},(∀ b∈fp,H' b=O)->(∀ p∈pl,p.1∉fp)->∀ b∈fp,jk (bT X N' scope cl s3.heap.objs.size s3 a fp) pl H' b:=λ{H' pl} hn hp b hb=>by
  obtain⟨o,e,_⟩:=T.aa _ _ st b hb;exact⟨hn b hb,Xs (Xh e),pY I (f b hb),.inl hb,λx c e=>(f b hb).2.2.2.2.1 x c (G x c e),λp QX z=>hp p (by simpa [bT]using QX) (by rw[z];exact hb)⟩
 have v:WV (i' X.ab X.w) X.A (.compLoop (.ListComp elt [⟨tg,iter,[c],0⟩] scope pos) 0 (.ref it) (.ref D) (compEnvC scope cl s3.heap.objs.size X.aa)) (RR s3.heap.objs.size)
   {s3 with heap:=h₁,toks:=s3.toks+([]:List (M×R)).length}:=by
  refine uY (λn s'=>∃ i k H',f_ (bT X N' scope cl s3.heap.objs.size s3 a fp) [] k H' s'/\tn i s'.heap/\(∀ b∈fp,H' b=O)/\W i n k H') ?_ m0 ⟨0,_,a,I1,V,λb hb=>(f b hb).1,w0⟩;rintro n s4 ⟨i,q,Z,I4,Uc,S1,w4⟩;have h:∀ p∈([]:List (J×s_)),p.1∉fp:=λ_ z=>nomatch z
  rcases turn i n q Z w4 with⟨stop,qn⟩ | ⟨go,N,hN,step⟩
  .refine b6 (T.ae (bT X N' scope cl s3.heap.objs.size s3 a fp) rfl rfl rfl hc i [] s4 q Z _ I4 (fY S1 h) Uc stop) λr s5 ⟨hr,F⟩=>?_
   subst hr;obtain⟨m5,n5,_⟩:=F.au;have IX:f_ X pins σ Z s5:=I.ID (ch:=fp) F.os F.ab F.aa F.ak λb hb=>⟨(f b hb).2.2.2.1,(f b hb).2.1,(f b hb).2.2.2.2.1,(f b hb).2.2.2.2.2⟩
   exact fin _ s5 Z m5 rfl IX n5 (I.tI (WY _) F.ar) qn
  .refine b6 (T.af (bT X N' scope cl s3.heap.objs.size s3 a fp) rfl rfl rfl hc i [] s4 q Z _ I4 (fY S1 h) Uc go) λr s5 ⟨u,hr,h5⟩=>?_
   subst hr;refine b6 h5 λ_ s6 hq=>?_
   obtain⟨x,H6,I6,r6,y6,B,QJ⟩:=hq;have Qn:=I6.ay (fY QJ h) (T.aa _ _ B);refine b6 (hg cl s3.heap.objs.size s3 a fp _ s6 q H6 x u _ Qn r6 (step x H6 y6)) λ_ s7 ⟨j,H7,I7,q7⟩=>?_
   refine b6 (IQ cl s3.heap.objs.size s3 a fp _ s7 j H7 _ I7 q7) λb sb ⟨Hb,Ib,qb⟩=>?_
   have l:∀ {s9:d_}{H9:Hp},f_ (bT X N' scope cl s3.heap.objs.size s3 a fp) ([]++qs fp s6.heap) j H9 s9->N j H9->
     ∃ m,m<n/\∃ i k H',f_ (bT X N' scope cl s3.heap.objs.size s3 a fp) [] k H' s9/\tn i s9.heap/\(∀ b∈fp,H' b=O)/\W i m k H':=λ{s9 H9} I9 q9=>by
    obtain⟨m',hm,w9⟩:=hN _ _ q9;refine⟨m',hm,i+1,j,H9,I9.j3,T.ab _ _ _ B λb hb o e=>(I9.av (b,o) (Xu _ (Xu _ (fE hb e)))).1,λb hb=>?_,w9⟩;obtain⟨o,e,d⟩:=T.aa _ _ B b hb;exact(I9.av (b,o) (Xu _ (Xu _ (fE hb e)))).2.1
   cases b with
   |true=>
    rw[W0 rfl]at qb ⊢;refine b6 (hb cl s3.heap.objs.size s3 a fp _ sb j Hb _ Ib qb) λv8 s8 hq=>?_
    obtain⟨y8,H8,I8,r8,ys,hD,hz,q8⟩:=hq;refine b6 (nU _ s8 j H8 (.aa D) [y8] (.ref D) [v8] (λ_ H'=>N j H') I8 rfl (.cons r8 .nil) ⟨D,ys,y8,rfl,rfl,hD,hz,q8⟩) λ_ s9 ⟨_,H9,I9,_,q9⟩=>?_
    exact l I9 q9
   |false=>
    rw[W5 Xb]at qb ⊢;exact l Ib qb
 exact adD v (T.ag X.A 0 _ _ _ V v)
theorem D6 (q:X.ag=L)(S:hU X.N X.aa.scope N' scope ix)(r:PI X tg iter wi)(t:∀ cl C s H f,PG (bT X N' scope cl C s H f) tg g)(k:∀ cl C s H f,PT (bT X N' scope cl C s H f) c tc)(hb:∀ cl C s H f,PE (bT X N' scope cl C s H f) elt te)
  (u:∀ x,Z5 iter X.aa x=A' x:=by intro _;rfl):PE X (.ListComp elt [⟨tg,iter,[c],0⟩] scope pos) (yp ix wi g tc te):=by
 intro pins s σ H Q I h;obtain⟨cl,d,v,w⟩:=tq S I;rw[eval_ListComp];refine abQ (use:=O) rfl u d S.ab S.ae (b6 (r pins s σ H _ I h) λxv s1 y=>b6 y λz a l=>?_);obtain⟨it,fp,tn,afg,n,e,p,T,i,A,l⟩:=l;subst e;have B:n a.heap.objs.size=none:=p.aa.aa (WY _);obtain⟨W,⟨m0,E⟩,j⟩:=l _ B;have F:∀ b∈fp,b≠a.heap.objs.size:=λb hb=>let ⟨o,e,_⟩:=T.aa _ _ i b hb;Xs (Xh e)
 have G:f_ X pins σ (m_ n a.heap.objs.size (.aa [])) {a with heap:=a.heap.push {cls:=.type "list",dict:=O,data:=.seq ([]:List R).toArray}}:=
  p.DB (its:=[]) (ys:=[]) (t':=a.toks) .nil (Xl _)
 refine Xx ?_;refine w5 (afg:=afg) (D:=a.heap.objs.size) (W:=W) (m0:=m0) (Q:=Q) (fp:=fp) (tn:=tn) q S v w t k hb G T (T.ab _ _ _ i λb _ o e=>W7 _ e) (λb hb=>?_) E j (λC s' K m hC P U V Z=>?_)
 .obtain⟨g0,g1⟩:=A b hb;exact⟨by rw[ba (F b hb)];exact g0,g1⟩
 .exact⟨m,U,λh' sb=>⟨.aa a.heap.objs.size,K,P.yk V sb,rfl,Z⟩⟩
end
section
variable {κ:Type}[DecidableEq κ]
noncomputable def oX (kvs:List (κ×V))(k:κ):Option V:=(kvs.find? λb=>j' (b.1=k)).map (·.2)
noncomputable def O_ (kvs:List (κ×V))(k:κ)(v:V):List (κ×V):=
 if (kvs.any λb=>j' (b.1=k))=L then kvs.map (λb=>if b.1=k then(b.1,v) else b) else kvs++[(k,v)]
theorem m7 {p:κ×V}{r:List (κ×V)}{k:κ}(e:p.1=k):oX (p::r) k=Y p.2:=by simp[oX,XR,e]
theorem m6 {p:κ×V}{r:List (κ×V)}{k:κ}(e:¬ p.1=k):oX (p::r) k=oX r k:=by simp[oX,XR,e]
theorem wo (k:κ):∀ kvs:List (κ×V),(kvs.any λkv=>j' (kv.1=k))=(oX kvs k).isSome
 |[]=>rfl
 |p::r=>by
  rw[Yy];by_cases e:p.1=k
  .simp only[m7 e,decide_eq_true e,Bool.true_or,Option.isSome_some]
  .rw[m6 e,XU e,adp];exact wo k r
theorem jN (kvs:List (κ×V))(k:κ)(v:V):(O_ kvs k v).length<=kvs.length+1:=by
 unfold O_;split
 .rw[Xw];lia
 .rw[Xv,Xa,Xy];lia
theorem jl.nM {o:Option V}{u:Option R}(r:jl o u):o.isSome=u.isSome:=by
 cases o with
 |none=>cases u with
  |none=>rfl
  |some _=>exact(show False from r).elim
 |some _=>cases u with
  |none=>exact(show False from r).elim
  |some _=>rfl
theorem jl.ae {o:Option V}{u:Option R}{d:V}{d':R}(r:jl o u)(rd:x_ d d'):x_ (o.getD d) (u.getD d'):=by
 cases o with
 |none=>cases u with
  |none=>exact rd
  |some _=>exact(show False from r).elim
 |some _=>cases u with
  |none=>exact(show False from r).elim
  |some _=>exact r
theorem KV.ae {kvs:List (κ×V)}{vs:List (κ×R)}(r:KV kvs vs)(k:κ):jl (oX kvs k) (Yf vs k):=by
 unfold KV at r
 induction r with
 |nil=>exact WU
 |@cons p q m c h t j=>
  obtain⟨g,l⟩:=h;by_cases e:p.1=k
  .have e':q.1=k:=g.symm.trans e;have b:Yf (q::c) k=Y q.2:=by simp[Yf,XR,e']
   rw[m7 e,b];exact l
  .have e':¬ q.1=k:=λz=>e (g.trans z)
   have b:Yf (q::c) k=Yf c k:=by simp[Yf,XR,e']
   rw[m6 e,b];exact j
theorem KV.ag {kvs:List (κ×V)}{vs:List (κ×R)}(r:KV kvs vs)(k:κ):(kvs.any λkv=>j' (kv.1=k))=vs.any λkv=>j' (kv.1=k):=by
 unfold KV at r
 induction r with
 |nil=>rfl
 |cons h t b=>rw[Yy,Yy,b,h.1]
theorem KV.yg {kvs:List (κ×V)}{vs:List (κ×R)}(r:KV kvs vs)(k:κ){y:V}{u:R}(c:x_ y u) :
  KV (kvs.map λkv=>if kv.1=k then(kv.1,y) else kv) (vs.map λkv=>if kv.1=k then(kv.1,u) else kv):=by
 unfold KV at r ⊢
 induction r with
 |nil=>exact .nil
 |@cons p q l m h t g=>
  rw[Xq,Xq];refine .cons ?_ g;obtain⟨b,j⟩:=h;by_cases e:p.1=k
  .rw[W0 e,W0 (b.symm.trans e)];exact⟨b,c⟩
  .rw[W5 e,W5 (λz=>e (b.trans z))];exact⟨b,j⟩
theorem KV.ab {kvs:List (κ×V)}{vs:List (κ×R)}(r:KV kvs vs)(k:κ){y:V}{u:R}(b:x_ y u):KV (O_ kvs k y) (YB vs k u):=by
 unfold O_ YB;rw[r.ag k];by_cases e:(vs.any λc=>j' (c.1=k))=L
 .rw[W0 e,W0 e];exact r.yg k b
 .rw[W5 e,W5 e];exact adF r ⟨rfl,b⟩
theorem KV.aa {kvs:List (κ×V)}{vs:List (κ×R)}(r:KV kvs vs):kvs.length=vs.length:=ZR r
end
theorem qh {P:y_}{w:v_}{k:j_}{u:R}(r:x_ (kV k) u):(bW P w).is k u=true:=by
 cases k with
 |inl i=>obtain⟨t,e⟩:=(show ∃ t,u=YY i t from r);subst e;exact vH P w i t
 |inr x=>obtain⟨t,e⟩:=(show ∃ t,u=Z_ x t from r);subst e;exact jU P w x t
abbrev KT (H:Hp):List (NK.KD×V)->List (NK.KD×J×R)->Prop:=YT λp q=>p.1=q.1/\FN H q.2.1 p.1/\x_ p.2 q.2.2
theorem KT.aa {H:Hp}{kvs:List (NK.KD×V)}{xs:List (NK.KD×J×R)}(r:KT H kvs xs)(k:NK.KD):jl (oX kvs k) ((YA xs k).map (·.2)):=by
 induction r with
 |nil=>exact WU
 |@cons p q m c h t j=>
  obtain⟨g,_,l⟩:=h;by_cases e:p.1=k
  .have e':q.1=k:=g.symm.trans e;have b:YA (q::c) k=Y q.2:=by simp[YA,XR,e']
   rw[m7 e,b];exact l
  .have e':¬ q.1=k:=λz=>e (g.trans z)
   have b:YA (q::c) k=YA c k:=by simp[YA,XR,e']
   rw[m6 e,b];exact j
theorem KT.yg {H:Hp}{kvs:List (NK.KD×V)}{xs:List (NK.KD×J×R)}(r:KT H kvs xs)(k:NK.KD){y:V}{u:R}(g:x_ y u) :
  KT H (kvs.map λkv=>if kv.1=k then(kv.1,y) else kv) (xs.map (putAt k u)):=by
 induction r with
 |nil=>exact .nil
 |@cons p q m n h t j=>
  rw[Xq,Xq];refine .cons ?_ j;obtain⟨b,c,l⟩:=h;unfold putAt;by_cases e:p.1=k
  .rw[W0 e,W0 (b.symm.trans e)];exact⟨b,c,g⟩
  .rw[W5 e,W5 (λz=>e (b.trans z))];exact⟨b,c,l⟩
theorem KT.ae {H:Hp}{kvs:List (NK.KD×V)}{xs:List (NK.KD×J×R)}(r:KT H kvs xs)(k:NK.KD){b:J}{y:V}{u:R}(hb:FN H b k)(c:x_ y u) :
  KT H (O_ kvs k y) (storedH xs k b u):=by
 have e:(kvs.any λg=>j' (g.1=k))=(YA xs k).isSome:=by
  rw[wo,(r.aa k).nM,adm]
 unfold O_ storedH;rw[e];by_cases q:(YA xs k).isSome=L
 .rw[W0 q,W0 q];exact r.yg k c
 .rw[W5 q,W5 q];exact adF r ⟨rfl,hb,c⟩
theorem KT.ab {H H':Hp}{kvs:List (NK.KD×V)}{xs:List (NK.KD×J×R)}(r:KT H kvs xs)(c:∀ b ys,H b=Y (.ab ys)->H' b=Y (.ab ys)):KT H' kvs xs:=
 Paired.Kl r λ_ _ z=>⟨z.1,z.2.1.aa c,z.2.2⟩
section
variable {P:y_}{w:v_}{H:Hp}{h:k_}{a:J}
theorem Jb {u:HO}(b:f9 P w H h)(e:Rd H a u):dc P w H h a u:=e.ok b
theorem pS {kvs:List (j_×V)}(b:f9 P w H h)(e:Rd H a (.dK kvs)):kvs.length<=p'/\(a == WN)=b_/\∃ vs,KV kvs vs/\h.DictOf (bW P w) a vs:=
 show dc P w H h a (.dK kvs) from Jb b e
theorem IE {kvs:List (j_×V)}(b:f9 P w H h)(e:H a=Y (.dK kvs)):kvs.length<=p'/\(a == WN)=b_/\∃ vs,KV kvs vs/\h.DictOf (bW P w) a vs:=pS b (.inl e)
mutual
theorem wy.NT (b:f9 P w H h):∀ {v:V}{k:NK.KD}{u:R},wy H v k->x_ v u->NK.sJ h u k
 |_,_,_,.aQ,r=>by cases r;exact .aQ
 |_,_,_,.aa,r=>by obtain⟨t,rfl⟩:=r;exact .ab
 |_,_,_,.ab,r=>by obtain⟨t,rfl⟩:=r;exact .ae
 |_,_,_,.ae e q,r=>by
  cases r;obtain⟨_,c,g,z⟩:=b _ _ e;exact .aa z.aa (by simpa using l7.NT b q g)
theorem l7.NT (b:f9 P w H h):∀ {vs:List V}{ks:List NK.KD}{us:List R},l7 H vs ks->x' vs us->NK.gk h us ks
 |_,_,_,.nil,r=>by cases r;exact .nil
 |_,_,_,.aa a q,r=>by cases r with | cons c g=>exact .aa (wy.NT b a c) (l7.NT b q g)
end
theorem qj {ks:NK.KD}(b:f9 P w H h)(e:FN H a ks):(NK.gM P w).is h ks a:=⟨e.2,wy.NT b e.1 rfl⟩
theorem rB {kvs:List (NK.KD×V)}(c:f9 P w H h)(e:Rd H a (.dT kvs)):kvs.length<=p'/\(a == WN)=b_/\
  ∃ xs,KT H kvs xs/\h.DictOfH (NK.gM P w) a xs:=by
 obtain⟨z,y,xs,r,o,j,n,B,C,D,F,G⟩:=(show dc P w H h a (.dT kvs) from Jb c e);refine⟨z,y,xs,r,o,j,n,B,C,D,F,λx hx=>?_,G⟩;have b:∀ {l:List (NK.KD×V)}{m:List (NK.KD×J×R)},KT H l m->∀ x∈m,(NK.gM P w).is h x.1 x.2.1:=by
  intro l m q
  induction q with
  |nil=>intro x hx;exact nomatch hx
  |@cons p q K N g t I=>
   intro x hx;rcases Xj.mp hx with e | hx
   .subst e;exact qj c (by rw[<-g.1];exact g.2.1)
   .exact I x hx
 exact b r x hx
theorem NA {kvs:List (NK.KD×V)}(b:f9 P w H h)(e:H a=Y (.dT kvs)):kvs.length<=p'/\(a == WN)=b_/\
  ∃ xs,KT H kvs xs/\h.DictOfH (NK.gM P w) a xs:=rB b (.inl e)
end
theorem kz {P:y_}{w:v_}{A:D_}(b:A.units+64<K_):(NK.gM P w).room A.in1:=show A.units+1+8<K_ by lia
def uA (H:Hp)(a:J)(y:V)(r:Option V):Prop:=
 (∃ kvs k,Rd H a (.dK kvs)/\y=kV k/\r=oX kvs k)\/∃ kvs k b,Rd H a (.dT kvs)/\y=.aa b/\FN H b k/\r=oX kvs k
def Jh (H:Hp)(a:J)(y v:V)(H':Hp):Prop:=
 (∃ kvs k,H a=Y (.dK kvs)/\y=kV k/\kvs.length<p'/\H'=m_ H a (.dK (O_ kvs k v)))\/
 ∃ kvs k b,H a=Y (.dT kvs)/\y=.aa b/\FN H b k/\kvs.length<p'/\H'=m_ H a (.dT (O_ kvs k v))
section
variable {X:Cx}{pins:List (J×s_)}{σ:St}{H:Hp}{s:d_}{a:J}{y v:V}{u r:R}{o:Option V}{A:D_}{E:R->d_->Prop}
theorem f_.aB (I:f_ X pins σ H s):WN<s.heap.objs.size:=by
 have h:S_<s.heap.objs.size:=(I.aD.ab.keeps I.bk).lt;exact abC ∅ h
theorem Ar {Q:R->d_->Prop}(C:A.units+64<K_)(I:f_ X pins σ H s)(g:uA H a y (Y v))(B:x_ y u)(h:∀ m s',f_ X pins σ H s'->x_ v m->Q m s') :
  g_ (i' X.ab X.w) A (Yi (.ref a) u) Q E s:=by
 rcases g with⟨kvs,k,e,n,l⟩ | ⟨kvs,k,b,e,n,D,l⟩
 .subst n;obtain⟨z,F,G,c,q⟩:=pS I.aa e;obtain⟨m,t,j⟩:=jl.aa (v:=v) (o:=Yf G k) (by rw[l];exact c.ae k);exact adM (qh B) q.mapOf t (h m _ (I.af _) j)
 .subst n;cases(show u=I_ b from B);obtain⟨z,F,K,c,q⟩:=rB I.aa e;obtain⟨m,t,j⟩:=jl.aa (v:=v) (o:=(YA K k).map (·.2)) (by rw[l];exact c.aa k);obtain⟨p,N,x⟩:=XD.mp t;refine wpAny_getItem_heap (kz C) (qj I.aa D) q N ?_;rw[x];exact h m _ (I.af _) j
theorem QB {Q:R->d_->Prop}(t:A.units+64<K_)(I:f_ X pins σ H s)(g:uA H a y o)(p:x_ y u)(h:∀ s',f_ X pins σ H s'->Q (.bool o.isSome) s') :
  g_ (i' X.ab X.w) A (WQ .In u (.ref a)) Q E s:=by
 rcases g with⟨kvs,k,e,j,l⟩ | ⟨kvs,k,b,e,j,x,l⟩
 .subst j;obtain⟨z,m,B,c,n⟩:=pS I.aa e;refine wpAny_in_of (qh p) m n.mapOf ?_;rw[<-(c.ae k).nM,<-l];exact h _ (I.af _)
 .subst j;cases(show u=I_ b from p);obtain⟨z,m,C,c,n⟩:=rB I.aa e;refine wpAny_in_heap (kz t) (qj I.aa x) m n ?_;have q:=(c.aa k).nM;rw[adm]at q;rw[<-q,<-l];exact h _ (I.af _)
theorem tD {h':k_}{t':Nat}{c:HO}(I:f_ X pins σ H s)(j:Nd (H a))(l:YU a s.heap h')(m:∃ q,h'.get? a=Y q)(g:dc X.ab X.w (m_ H a c) h' a c) :
  f_ X pins σ (m_ H a c) {s with heap:=h',toks:=t'}:=
 I.aw (x:=a) (e:=a) j (.inl rfl) (λb q n z=>(l.2 b n).trans z) m g
theorem CN {P:y_}{w:v_}{H':Hp}{h':k_}{kvs:List (j_×V)}{vs:List (j_×R)}(z:kvs.length<=p')(c:(a == WN)=b_)(b:KV kvs vs)(dd:h'.DictOf (bW P w) a vs) :
  dc P w H' h' a (.dK kvs):=⟨z,c,vs,b,dd⟩
theorem As {H':Hp}{Q:Unit->d_->Prop}(T:A.units+64<K_)(I:f_ X pins σ H s)(g:Jh H a y v H')(F:x_ y u)(G:x_ v r)(h:∀ s',f_ X pins σ H' s'->Q () s') :
  g_ (i' X.ab X.w) A (setItem (.ref a) u r) Q E s:=by
 rcases g with⟨kvs,k,e,p,l,t⟩ | ⟨kvs,k,b,e,p,K,l,t⟩
 .subst p t;obtain⟨z,x,U,j,B⟩:=IE I.aa e;have hz:U.length<=sizeLine:=by rw[<-j.aa];exact z
  have C:(O_ kvs k v).length<=sizeLine:=by have:=jN kvs k v;lia
  refine wpAny_setItem_pairs (hsz:=hz) (qh F) B λN m D=>h _ ?_
  have W:∃ q,N.get? a=Y q:=let ⟨q,_,_,n,_⟩:=m;⟨q,n⟩;exact tD I (by rw[e];exact WU) D W (CN C x (j.ab k G) m)
 .subst p t;cases(show u=I_ b from F);obtain⟨z,x,Z,j,B⟩:=NA I.aa e;have hz:Z.length<=sizeLine:=by rw[<-ZR j];exact z
  have C:(O_ kvs k v).length<=sizeLine:=by have:=jN kvs k v;lia
  refine wpAny_setItem_heap (hsz:=hz) (kz T) (qj I.aa K) B λN m D=>h _ ?_
  obtain⟨q,es,ep,n,h2,h3,h4,_,h5⟩:=m;refine tD I (by rw[e];exact WU) D ⟨q,n⟩ ⟨C,x,_,(j.ae k K G).ab λc ys S=>?_,q,es,ep,n,h2,h3,h4,h5⟩;rw[ba (N0 S e (λz=>nomatch z))];exact S
end
section
variable {X:Cx}{pins:List (J×s_)}{σ:St}{H:Hp}{s:d_}{a:J}{kvs:List (j_×V)}{A:D_}{E:R->d_->Prop}
theorem Nu {Q:R->d_->Prop}(I:f_ X pins σ H s)(e:Rd H a (.dK kvs))(h:∀ t s',f_ X pins σ H s'->Q (.int kvs.length t) s'):g_ (i' X.ab X.w) A (V_ (.builtin "len") [.ref a]) Q E s:=by
 obtain⟨z,c,j,b,g⟩:=pS I.aa e;refine call_len_dict c g (by rw[<-b.aa];rw[XJ]at z;lia) ?_;rw[<-b.aa];exact h _ _ (I.af _)
end
def Jk (i:e_):Prop:=∀ b c,aa0 i b_ b c=operate [b,c] (Yi b c)
theorem zQ {prog:y_}{w:v_}{A:D_}{E:R->d_->Prop}{s:d_}{env:H_}{value b:e_}{pos:u_}{T id:String}{Q:R->d_->Prop}
  (q:Zz (.type T) "__getitem__" = A' (Y (.builtin id))) (t:Jk b)
  (h:g_ (i' prog w) A (z_ value env) (λo g=>g_ (i' prog w) A (z_ b env) (λi s₂=>s₂.TypeIs o T/\g_ (i' prog w) A (Yi o i) Q E s₂) E g) E s) :
  g_ (i' prog w) A (z_ (.Subscript value b pos) env) Q E s:=by
 refine aaQ (XM h (λo g m=>XM m (λi s₂ c=>?_) λ_ _ x=>x) λ_ _ x=>x);obtain⟨p,c⟩:=c;unfold aaR;refine WX ?_;rw[getitemInPython_of_ne p.not_modules];refine WX (X3 p q ?_);have l:g_ (i' prog w) A (aa0 b b_ o i) (λr j=>g_ (i' prog w) A (letTemporaryGo value o r >>= λ_=>A' r) Q E j) E s₂:=by
  rw[t o i];exact wpAny_operating (XM c (λr j n=>WX (wpAny_letTemporaryGo (W8 n))) λ_ _ x=>x)
 first
  |exact W8 (WX l)
  |exact WX (W8 (WX l))
  |exact WX l
theorem u5 {X:Cx}{pins:List (J×s_)}{σ:St}{H:Hp}{s:d_}{a:J}{y:V}{o:Option V}(I:f_ X pins σ H s)(g:uA H a y o):s.TypeIs (.ref a) "dict":=by
 rcases g with⟨kvs,k,e,_,_⟩ | ⟨kvs,k,b,e,_,_,_⟩
 .obtain⟨_,_,j,_,c⟩:=pS I.aa e;exact c.typeIs
 .obtain⟨_,_,l,_,c⟩:=rB I.aa e;exact c.typeIs
def Fb (td ty:TE):TE:=λσ H Q=>td σ H λx c=>ty σ c λy b=>∃ a v,x=.aa a/\uA b a y (Y v)/\Q v b
def L7 (ty td:TE):TE:=λσ H Q=>ty σ H λy c=>td σ c λx b=>∃ a o,x=.aa a/\uA b a y o/\Q (.bl o.isSome) b
def EK (td ty tv:TE):TS:=λD σ H=>tv σ H λv c=>td σ c λx g=>ty σ g λy j=>∃ a b,x=.aa a/\Jh j a y v b/\D.nx σ b
section
variable {X:Cx}{o i value:e_}{pos pos':u_}{td ty tv:TE}
theorem G2 (j:X.A.units+64<K_)(l:PE X o td)(m:PE X i ty)(n:Jk i):PE X (.Subscript o i pos) (Fb td ty):=by
 intro pins s σ H Q I h;refine zQ ad1.lookup n (b6 (l pins s σ H _ I h) λu p ⟨x,q,t,z,B⟩=>b6 (m pins p σ q _ t B) λT U C=>?_);obtain⟨y,D,c,G,a,v,K,g,N⟩:=C;subst K;obtain rfl:u=I_ a:=z;exact⟨u5 c g,Ar j c g G λW Z S b=>⟨v,D,S,b,N⟩⟩
theorem D2 (b:X.A.units+64<K_)(c:PE X i ty)(j:PE X o td):PC X .In i o (L7 ty td):=by
 intro pins s σ H Q I h;refine b6 (c pins s σ H _ I h) λN l ⟨y,m,n,p,q⟩=>b6 (j pins l σ m _ n q) λu S t=>?_
 obtain⟨x,z,B,C,a,D,F,g,G⟩:=t;subst F;obtain rfl:u=I_ a:=C;exact QB b B g p λT K=>⟨.bl D.isSome,z,K,rfl,G⟩
theorem Ha (b:X.A.units+64<K_)(c:PE X o td)(j:PE X i ty)(l:PE X value tv)(m:Yh value (Y (.Subscript o i pos')) pos.line X.aa=A' b_) :
  PS X (.Assign [.Subscript o i pos'] value pos) (EK td ty tv):=by
 intro pins s σ H D I h;refine wpAny_Assign_Subscript (b6 (l pins s σ H _ I h) λr n ⟨v,p,q,t,z⟩=>b6 (c pins n σ p _ q z) λu B ⟨x,C,F,G,K⟩=>b6 (j pins B σ C _ F K) λiv s3 N=>?_) m;obtain⟨y,H3,Q,S,a,T,U,g,W⟩:=N;subst U;obtain rfl:u=I_ a:=G;exact As b Q g S t λs4 Z=>⟨σ,T,Z,W⟩
end
theorem u9 {P:y_}{w:v_}{H:Hp}(h:k_)(hb:WN<h.objs.size):dc P w H (h.push {cls:=.type "dict",data:=.dict #[]}) h.objs.size (.dK []):=
 ⟨Xl _,XE.mpr (R' (Xs hb)),[],.nil,adL h⟩
theorem CQ {P:y_}{w:v_}{H:Hp}(h:k_)(hb:WN<h.objs.size):dc P w H (h.push {cls:=.type "dict",data:=.dict #[]}) h.objs.size (.dT []):=
 ⟨Xl _,XE.mpr (R' (Xs hb)),[],.nil,_,#[],0,Xo _ rfl,⟨rfl,rfl,rfl⟩,rfl,rfl,ac6⟩
def yr:TE:=λ_ H Q=>∀ p,H p=O->Q (.aa p) (m_ H p (.dK []))
def yt:TE:=λ_ H Q=>∀ p,H p=O->Q (.aa p) (m_ H p (.dT []))
section
variable {X:Cx}{pos:u_}
theorem D8:PE X (.Dict [] [] pos) yr:=λpins s σ H Q I h=>
 adH ⟨.aa s.heap.objs.size,_,I.ag (a:=s.heap.objs.size) (o:=.dK []) (t':=s.toks) (λ_ _ q=>W7 _ q) (WY _) (u9 s.heap I.aB),rfl,h _ (I.aa.aa (WY _))⟩
theorem D9:PE X (.Dict [] [] pos) yt:=λpins s σ H Q I h=>
 adH ⟨.aa s.heap.objs.size,_,I.ag (a:=s.heap.objs.size) (o:=.dT []) (t':=s.toks) (λ_ _ q=>W7 _ q) (WY _) (CQ s.heap I.aB),rfl,h _ (I.aa.aa (WY _))⟩
end
def uw:List (TE×TE)->St->Hp->(List (V×V)->Hp->Prop)->Prop
 |[],_,H,Q=>Q [] H
 |(b,tv)::r,σ,H,Q=>b σ H λx c=>tv σ c λy g=>uw r σ g λj l=>Q ((x,y)::j) l
abbrev VV:List (V×V)->List (R×R)->Prop:=YT λp q=>x_ p.1 q.1/\x_ p.2 q.2
def Nh (X:Cx)(pos:u_)(c:List (Option e_))(b:List e_)(g:List (TE×TE)):Prop:=
 ∀ (pins:List (J×s_)) (s:d_) (σ:St) (H:Hp) (Q:List (V×V)->Hp->Prop),f_ X pins σ H s->uw g σ H Q->
  g_ (i' X.ab X.w) X.A (evalPairs (pairTrees c b X.aa pos)) (λm n=>∃ j l,f_ X pins σ l n/\VV j m/\Q j l) X.xe s
theorem G9 {X:Cx}{pos:u_}:Nh X pos [] [] []:=λpins s σ H Q I h=>pairTrees_nil_walk ⟨[],H,I,.nil,h⟩
theorem Ei {X:Cx}{pos:u_}{k v:e_}{ks:List (Option e_)}{vs:List e_}{tk tv:TE}{b:List (TE×TE)}(g:PE X k tk)(j:PE X v tv)(l:Nh X pos ks vs b) :
  Nh X pos (Y k::ks) (v::vs) ((tk,tv)::b):=λpins s σ H Q I h=>
 pairTrees_cons_walk (b6 (g pins s σ H _ I h) λu m ⟨x,n,p,q,t⟩=>b6 (j pins m σ n _ p t) λT z ⟨y,B,C,D,F⟩=>
  b6 (l pins z σ B _ C F) λU W ⟨G,K,N,c,S⟩=>⟨(x,y)::G,K,N,.cons ⟨q,D⟩ c,S⟩)
def ej (kvs b:List (j_×V)):List (j_×V):=b.foldl (λc g=>O_ c g.1 g.2) kvs
theorem KV.af:∀ {b:List (j_×V)}{c:List (j_×R)}{kvs:List (j_×V)}{vs:List (j_×R)},KV b c->KV kvs vs->KV (ej kvs b) (merged vs c):=by
 intro b c kvs vs r;unfold KV at r
 induction r generalizing kvs vs with
 |nil=>intro q;exact q
 |@cons p q l m h t g=>
  intro j;have e:KV (O_ kvs p.1 p.2) (YB vs q.1 q.2):=by
   have:=j.ab p.1 h.2;rw[<-h.1];exact this
  exact g e
theorem ly:∀ (b kvs:List (j_×V)),(ej kvs b).length<=kvs.length+b.length
 |[],kvs=>by show kvs.length<=kvs.length+0;lia
 |p::r,kvs=>by
  have c:=ly r (O_ kvs p.1 p.2);have g:=jN kvs p.1 p.2;show(ej (O_ kvs p.1 p.2) r).length<=_;rw[Xa];lia
theorem pM {P:y_}{w:v_}:∀ {kvs:List (j_×V)}{ws:List (R×R)},VV (kvs.map λkv=>(kV kv.1,kv.2)) ws->∃ g,Carries (bW P w) ws g/\KV kvs g
 |[],_,r=>by rw[aai]at r;cases r;exact⟨[],WU,.nil⟩
 |p::kvs,_,r=>by
  rw[Xq]at r;cases r with
  |@cons a b l m h t=>
   obtain⟨g,c,q⟩:=pM (P:=P) (w:=w) t;obtain⟨n,j⟩:=b;exact⟨(p.1,j)::g,⟨qh h.1,rfl,c⟩,.cons ⟨rfl,h.2⟩ q⟩
def Fc (b:List (TE×TE)):TE:=λσ H Q=>∀ p,H p=O->uw b σ (m_ H p (.dK [])) λj c=>c p=Y (.dK [])/\∃ kvs:List (j_×V),j=kvs.map (λg=>(kV g.1,g.2))/\kvs.length<=15/\Q (.aa p) (m_ c p (.dK (ej [] kvs)))
theorem G3 {X:Cx}{pos:u_}{b:List (Option e_)}{g:List e_}{j:List (TE×TE)}(h:Nh X pos b g j)(l:b.all (·.isSome)=L)(B:b.length=g.length)(C:b≠[])
  (n:b.length<=15):PE X (.Dict b g pos) (Fc j):=by
 intro pins s σ H Q I q;have D:=I.aa.aa (WY s.heap.objs.size);have F:=I.ag (a:=s.heap.objs.size) (o:=.dK []) (h':=s.heap.push {cls:=.type "dict",data:=.dict #[]}) (t':=s.toks) (λ_ _ q=>W7 _ q) (WY _) (u9 s.heap I.aB);refine wpAny_Dict_walk (knd:=bW X.ab X.w) l B C n (b6 (h pins _ σ _ _ F (q _ D)) λws s2 p=>?_);obtain⟨ps,H2,x,t,e,kvs,G,lk,K⟩:=p;subst G;obtain⟨N,c,S⟩:=pM (P:=X.ab) (w:=X.w) t;obtain⟨z,T,U,W,Z⟩:=IE x.aa e;cases W;refine⟨N,c,Z,λh' m hs=>⟨.aa s.heap.objs.size,_,?_,rfl,K⟩⟩;have hz:(ej [] kvs).length<=sizeLine:=by
  have h1:=ly kvs [];rw[Xy]at h1;rw[XJ];lia
 have he:∃ q,h'.get? s.heap.objs.size=Y q:=let ⟨q,_,_,p,_⟩:=m;⟨q,p⟩;exact tD x (by rw[e];exact WU) hs he (CN hz T (S.af .nil) m)
structure M2 (X:Cx)(o:e_)(m:M)(apos:u_)(e f:e_)(jE:u_):Prop where
 ab:YG o m X.aa (z_ o X.aa)=z_ o X.aa
 NF:((P_ jE (D' [e,f] X.aa)).all (λx=>!x.1)&&(Zc jE (Zd [] X.aa)).all (λx=>x.1.isSome)
  &&j' (([e,f]:List e_).length+([]:List Yj).length+(if ([]:List Yj).isEmpty then 0 else 1)<30))=L
 ae:(apos.endLine == jE.line)=L
 aa:P_ jE (D' [e,f] X.aa)=[(b_,z_ e X.aa),(b_,z_ f X.aa)]
def Pn (H:Hp)(a:J):Prop:=(∃ kvs,Rd H a (.dK kvs))\/∃ kvs,Rd H a (.dT kvs)
theorem JW {X:Cx}{pins:List (J×s_)}{σ:St}{H:Hp}{s:d_}{a:J}(I:f_ X pins σ H s)(d:Pn H a) :
  s.TypeIs (.ref a) "dict"/\(∀ b,I_ a=.ref b->∃ c,s.heap.get? b=Y c/\c.dict=O)/\(a == WN)=false:=by
 rcases d with⟨kvs,e⟩ | ⟨kvs,e⟩
 .obtain⟨_,j,n,_,g⟩:=pS I.aa e;refine⟨g.typeIs,λb q=>?_,j⟩;cases q;obtain⟨c,_,_,l,m,_⟩:=g;exact⟨c,l,m.2.1⟩
 .obtain⟨_,j,p,_,g⟩:=rB I.aa e;refine⟨g.typeIs,λb q=>?_,j⟩;cases q;obtain⟨c,_,_,l,m,_⟩:=g;exact⟨c,l,m.2.1⟩
section
variable {X:Cx}{pins:List (J×s_)}{σ:St}{H:Hp}{s:d_}{a:J}{y d:V}{u r:R}{o:Option V}{A:D_}{E:R->d_->Prop}
theorem JH {Q:R->d_->Prop}(t:A.units+64<K_)(I:f_ X pins σ H s)(g:uA H a y o)(p:x_ y u)(rd:x_ d r)(h:∀ q s',f_ X pins σ H s'->x_ (o.getD d) q->Q q s') :
  g_ (i' X.ab X.w) A (V_ (.builtin "dict.get") [.ref a,u,r]) Q E s:=by
 rcases g with⟨kvs,k,e,m,l⟩ | ⟨kvs,k,b,e,m,x,l⟩
 .subst m;obtain⟨z,n,C,c,j⟩:=pS I.aa e;refine call_meetsIn abU j.typeIs ad3 (ad2 _ _ _) (meets_dict_get_default (bW X.ab X.w) a (qh p) n r) ⟨_,j.mapOf,h _ _ (I.af _) ?_⟩;rw[l];exact(c.ae k).ae rd
 .subst m;cases(show u=I_ b from p);obtain⟨z,n,B,c,j⟩:=rB I.aa e;refine call_meetsIn abU j.typeIs ad3 (ad2 _ _ _) (meetsH_dict_get_default (NK.gM X.ab X.w) a b n r) ⟨kz t,k,B,qj I.aa x,j,h _ _ (I.af _) ?_⟩;rw[l];exact(c.aa k).ae rd
end
def yq (td ty tx:TE):TE:=λσ H Q=>td σ H λx b=>∃ a,x=.aa a/\Pn b a/\ty σ b λy g=>tx σ g λz c=>∃ o,uA c a y o/\Q (o.getD z) c
section
variable {X:Cx}{o e f:e_}{apos jE:u_}{td ty tx:TE}
theorem D7 (j:X.A.units+64<K_)(l:PE X o td)(n:PE X e ty)(p:PE X f tx)(m:M2 X o "get" apos e f jE):PE X (.Call (.Attribute o "get" apos) [e,f] [] jE) (yq td ty tx):=by
 intro pins s σ H Q I h;refine wpAny_Call_method m.ab m.NF m.ae PySem.F.plainAttrs_dict abU PySem.F.type_dict_get (b6 (l pins s σ H _ I h) λu q t=>?_);obtain⟨x,B,c,C,a,D,d,G⟩:=t;subst D;obtain rfl:u=I_ a:=C;obtain⟨K,N,_⟩:=JW c d;refine⟨K,N,?_⟩;rw[m.aa];refine abL rfl (adz (abM (b6 (n pins q σ B _ c G) λiv S ⟨y,T,U,W,Z⟩=>
  abM (b6 (p pins S σ T _ U Z) λfv s3 ⟨z,H3,I3,rz,ov,g,q3⟩=>adA ?_))))
 exact JH j I3 g W rz λw' s4 I4 b=>⟨_,H3,I4,b,q3⟩
end
section
variable {X:Cx}
theorem Aj:eL X (.builtin "len") (λxs H Q=>∃ a kvs,xs=[V.aa a]/\H a=Y (.dK kvs)/\Q (.ab kvs.length) H):=by
 intro pins s σ H xs j Q I r h;obtain⟨a,kvs,rfl,b,q⟩:=h;obtain⟨u,rfl,c⟩:=WS r;cases c;exact Nu I (.inl b) λt l g=>⟨.ab kvs.length,H,g,⟨t,rfl⟩,q⟩
end
end L2
namespace S
open PySem L2
variable [kf:KF]
noncomputable def bZ (i:Nat):ME:=λa h=>(a[i]?).bind λo=>o.bind λu=>Y (u,h)
noncomputable def mC (u:U):ME:=λ_ h=>Y (u,h)
abbrev ag (x:M):ME:=mC (.ae x)
abbrev aq (i:Int):ME:=mC (.ab i)
instance R1 {i:Nat}:SE (Mh i) (bZ i):=⟨λ{j H Q a c h u k} d f e q=>by
 unfold bZ at e;cases b:a[i]? with
 |none=>rw[b]at e;exact nk e
 |some o=>
  rw[b]at e;cases o with
  |none=>exact nk e
  |some x=>
   rcases e
   obtain⟨v,g,r⟩:=d.ag b;exact⟨v,g,q c H v .ab f r⟩⟩
instance LM:SE (tC .aQ) (mC .aQ):=⟨λb a e q=>by rcases e;exact q _ _ _ .ab a .aQ⟩
instance OL {b:Bool}:SE (tC (.bl b)) (mC (.bl b)):=⟨λc a e q=>by rcases e;exact q _ _ _ .ab a .bl⟩
instance LJ {i:Int}:SE (tC (.ab i)) (mC (.ab i)):=⟨λb a e q=>by rcases e;exact q _ _ _ .ab a .aa⟩
instance LN {x:M}:SE (tC (.ae x)) (mC (.ae x)):=⟨λb a e q=>by rcases e;exact q _ _ _ .ab a .ag⟩
noncomputable def aw (g:M2)(a b:ME):ME:=λc h=>(a c h).bind λp=>(b c p.2).bind λq=>g p.1 q.1 q.2
noncomputable def bU (g:M1)(a:ME):ME:=λb h=>(a b h).bind λp=>g p.1 p.2
theorem c_ {c d:Type}{o:Option c}{f:c->Option d}{b:d}(h:o.bind f=Y b):∃ a,o=Y a/\f a=Y b:=by
 cases o with
 |none=>cases h
 |some a=>exact⟨a,rfl,h⟩
instance EO {r:R2}{g:M2}{ta tb:TE}{ma b:ME}[G:SO r g][A:SE ta ma][B:SE tb b]:SE (Fm r ta tb) (aw g ma b):=⟨λ{E H Q k F h u I} c d e q=>by
 obtain⟨⟨x,K⟩,l,e⟩:=c_ e;obtain⟨⟨y,N⟩,m,e⟩:=c_ e;refine A.go c d l λn P S f i o=>?_
 refine B.go (c.aa (f.kp d)) i m λp T U j s t=>?_
 exact G.go s (o.ab (j.kp i)) t e λa v w z C D=>q a v w ((f.aa j).aa z) C D⟩
instance OO {r:V->Hp->VK->Prop}{g:M1}{ta:TE}{ma:ME}[G:SU r g][A:SE ta ma]:SE (So r ta) (bU g ma):=⟨λ{t H Q b v h u w} c d e q=>by
 obtain⟨⟨x,y⟩,f,e⟩:=c_ e;refine A.go c d f λi z B j k l=>?_
 exact G.go k l e λa m n o p s=>q a m n (j.aa o) p s⟩
noncomputable def oJ (a b:ME):ME:=λc h=>(a c h).bind λp=>match p.1 with | .bl L=>b c p.2 | .bl b_=>Y (.bl b_,p.2) | _=>O
noncomputable def ql (a b:ME):ME:=λc h=>(a c h).bind λp=>match p.1 with | .bl L=>Y (.bl L,p.2) | .bl b_=>b c p.2 | _=>O
noncomputable def DK (a:ME):ME:=λb h=>(a b h).bind λp=>match p.1 with | .bl c=>Y (.bl (!c),p.2) | _=>O
instance PY {ta tb:TE}{ma d:ME}[A:SE ta ma][B:SE tb d]:SE (E9 ta tb) (oJ ma d):=⟨λ{t H Q j v h u w} f g e q=>by
 obtain⟨⟨x,y⟩,k,e⟩:=c_ e;refine A.go f g k λl z C a i m=>?_
 induction m using t_.casesOn with
 |@bl c=>
  refine⟨c,rfl,?_⟩;cases c with
  |true=>exact B.go (f.aa (a.kp g)) i e λb n o p r s=>q b n o (a.aa p) r s
  |false=>rcases e;exact q _ _ _ a i .bl
 |_=>exact nk e⟩
instance RZ {ta tb:TE}{ma d:ME}[A:SE ta ma][B:SE tb d]:SE (Md ta tb) (ql ma d):=⟨λ{t H Q j v h u w} f g e q=>by
 obtain⟨⟨x,y⟩,k,e⟩:=c_ e;refine A.go f g k λl z C a i m=>?_
 induction m using t_.casesOn with
 |@bl c=>
  refine⟨c,rfl,?_⟩;cases c with
  |false=>exact B.go (f.aa (a.kp g)) i e λb n o p r s=>q b n o (a.aa p) r s
  |true=>rcases e;exact q _ _ _ a i .bl
 |_=>exact nk e⟩
instance P5 {ta:TE}{ma:ME}[A:SE ta ma]:SE (Fj ta) (DK ma):=⟨λ{l H Q a m h u n} b d e q=>by
 obtain⟨⟨x,o⟩,f,e⟩:=c_ e;refine A.go b d f λg p r i j k=>?_
 induction k using t_.casesOn with
 |@bl c=>rcases e;exact⟨c,rfl,q _ _ _ i j .bl⟩
 |_=>exact nk e⟩
noncomputable def mB (a:ME):MT:=λb h=>(a b h).bind λp=>match p.1 with | .bl c=>Y (c,p.2) | _=>O
instance Sf {ta:TE}{ma:ME}[A:SE ta ma]:ST (tB ta) (mB ma):=⟨λ{k H Q a l h u m} b c e q=>by
 obtain⟨⟨x,n⟩,d,e⟩:=c_ e;refine A.go b c d λf o p g i j=>?_
 induction j using t_.casesOn with
 |bl=>rcases e;exact⟨_,rfl,q _ _ g i⟩
 |_=>exact nk e⟩
instance HI {ta:TE}{ma:ME}[A:SE ta ma]:ST (Fq ta) (mB ma):=⟨λ{d H Q a f h u g} b c e q=>(Sf (ta:=ta) (ma:=ma)).go b c e q⟩
noncomputable def lq (a b:MT):MT:=λc h=>(a c h).bind λp=>if p.1=L then b c p.2 else Y (b_,p.2)
noncomputable def qS (a b:MT):MT:=λc h=>(a c h).bind λp=>if p.1=L then Y (L,p.2) else b c p.2
noncomputable def mP (a:MT):MT:=λb h=>(a b h).bind λp=>Y (!p.1,p.2)
instance Sg {t u:TT}{a b:MT}[A:ST t a][B:ST u b]:ST (L6 t u) (lq a b):=⟨λ{r H Q k s h c v} g i e q=>by
 obtain⟨⟨x,w⟩,l,e⟩:=c_ e;refine A.go g i l λm y d j=>?_
 dsimp only at e ⊢;cases x with
 |true=>exact B.go (g.aa (d.kp i)) j e λf n o p=>q f n (d.aa o) p
 |false=>rcases e;exact q _ _ d j⟩
instance Ud {t u:TT}{a b:MT}[A:ST t a][B:ST u b]:ST (Sl t u) (qS a b):=⟨λ{r H Q k s h c v} g i e q=>by
 obtain⟨⟨x,w⟩,l,e⟩:=c_ e;refine A.go g i l λm y d j=>?_
 dsimp only at e ⊢;cases x with
 |false=>exact B.go (g.aa (d.kp i)) j e λf n o p=>q f n (d.aa o) p
 |true=>rcases e;exact q _ _ d j⟩
instance Si {t:TT}{a:MT}[A:ST t a]:ST (Mc t) (mP a):=⟨λ{l H Q b m h c n} d f e q=>by
 obtain⟨⟨x,o⟩,g,e⟩:=c_ e
 rcases e
 exact A.go d f g λi p j k=>q _ _ j k⟩
noncomputable def zq (c:MT)(a b:ME):ME:=λd h=>(c d h).bind λp=>if p.1=L then a d p.2 else b d p.2
instance T4 {t:TT}{ta tb:TE}{c:MT}{ma m:ME}[C:ST t c][A:SE ta ma][B:SE tb m]:SE (Sk t ta tb) (zq c ma m):=⟨λ{s H Q o v h u w} d f e q=>by
 obtain⟨⟨x,y⟩,p,e⟩:=c_ e;refine C.go d f p λr z b n=>?_
 dsimp only at e ⊢;cases x with
 |true=>exact A.go (d.aa (b.kp f)) n e λa g i j k l=>q a g i (b.aa j) k l
 |false=>exact B.go (d.aa (b.kp f)) n e λa g i j k l=>q a g i (b.aa j) k l⟩
noncomputable def eS (u:U)(h:MH):Option Bool:=match u with
 |.aQ=>Y b_
 |.bl b=>Y b
 |.ab i=>Y (i != 0)
 |.ae y=>if y.length<=p' then Y ((y.length:Int) != 0) else O
 |.af a=>Y (!a.isEmpty)
 |.ag a=>Y (!a.isEmpty)
 |.dM _=>O
 |.ir _=>O
 |.aa n=>match h[n]? with
  |some (.aa a)=>Y (!a.isEmpty)
  |some (.dK c)=>Y (!c.isEmpty)
  |_=>O
def O3 (K:r_)(ta:TE):TT:=λb H Q=>ta b H λx a=>∃ k,F4 K x a k/\Q k a
def dS (a:ME):MT:=λc h=>(a c h).bind λp=>(eS p.1 p.2).bind λb=>Y (b,p.2)
theorem aY.ai {a:List J}{H:Hp}{us:List U}{vs:List V}(r:aY a H us vs):(!us.isEmpty) = !vs.isEmpty:=by cases r<;>rfl
theorem b9.ah {a:Type}{b:List J}{H:Hp}{us:List (a×U)}{vs:List (a×V)}(r:b9 b H us vs):(!us.isEmpty) = !vs.isEmpty:=by cases r<;>rfl
theorem aX.ae {b:List J}{H:Hp}{h:MH}(r:aX b H h){n:Nat}{a:J}(e:b[n]?=Y a){o:MO}(c:h[n]?=Y o):gC b H a o:=r.ab n a o e c
theorem Mm {j:List J}{H:Hp}{h:MH}{u:U}{v:V}{b:Bool}(m:aX j H h)(k:t_ j H u v)(e:eS u h=Y b):F4 kf.K v H b:=by
 induction k using t_.casesOn with
 |aQ=>rcases e;rfl
 |bl=>rcases e;rfl
 |aa=>rcases e;rfl
 |ag=>
  unfold eS at e;dsimp only at e;split at e
  .rename_i p;rcases e;exact⟨p,rfl⟩
  .exact nk e
 |af c d=>rcases e;exact .inr (.inl ⟨_,eV.of c,d.ai⟩)
 |ah t c d=>rcases e;exact .inl ⟨_,gm.of c,d.ai⟩
 |dM _ _=>exact nk e
 |ir _ _=>exact nk e
 |@ae n a s=>
  unfold eS at e;dsimp only at e;cases f:h[n]? with
  |none=>rw[f]at e;exact nk e
  |some o=>
   rw[f]at e;have l:=m.ae s f;cases o with
   |aa w=>rcases e;obtain⟨g,q,r⟩:=l;exact .inl ⟨g,gm.of q,r.ai⟩
   |dK i=>rcases e;obtain⟨g,q,r⟩:=l;exact .inr (.inr ⟨g,q,r.ah⟩)
   |dT i=>exact nk e
   |ab C x=>exact nk e
instance Sj {ta:TE}{ma:ME}[A:SE ta ma]:ST (O3 kf.K ta) (dS ma):=⟨λ{m H Q c n h u o} d f e q=>by
 obtain⟨⟨x,p⟩,g,e⟩:=c_ e;obtain⟨b,i,e⟩:=c_ e
 rcases e
 refine A.go d f g λj r s k a l=>?_
 exact⟨_,Mm a l i,q _ _ k a⟩⟩
noncomputable def ae:MA:=λ_ h=>Y ([],h)
noncomputable def aa (a:ME)(r:MA):MA:=λb h=>(a b h).bind λp=>(r b p.2).bind λq=>Y (p.1::q.1,q.2)
instance RW:SA uv ae:=⟨λb a e q=>by rcases e;exact q _ _ _ .ab a .nil⟩
instance PX {ta:TE}{b:TA}{ma:ME}{c:MA}[A:SE ta ma][B:SA b c]:SA (oO ta b) (aa ma c):=⟨λ{t H Q k v h u w} d f e q=>by
 obtain⟨⟨x,z⟩,l,e⟩:=c_ e;obtain⟨⟨y,C⟩,m,e⟩:=c_ e
 rcases e
 refine A.go d f l λn D E g i o=>?_
 refine B.go (d.aa (g.kp f)) i m λa p F j r s=>?_
 exact q a p _ (g.aa j) r (.ab (o.ab (j.kp i)) s)⟩
noncomputable def av (a:MA):ME:=λb h=>(a b h).bind λp=>if p.1.length<=p' then Y (.af p.1,p.2) else O
noncomputable def bj (a:MA):ME:=λb h=>(a b h).bind λp=>if p.1.length<=p' then Y (.aa p.2.length,p.2++[.aa p.1]) else O
theorem aD {a:Type}{c:Prop}[Decidable c]{o:Option a}{b:a}(h:(if c then o else O)=Y b):c/\o=Y b:=by
 split at h
 .exact⟨‹_›,h⟩
 .cases h
theorem fm {b:List J}{H:Hp}{h:MH}{us:List U}{vs:List V}{p:J}(d:aX b H h)(c:H p=O)(r:aY b H us vs) :
  B_ b H (b++[p]) (m_ H p (.aa vs))/\aX (b++[p]) (m_ H p (.aa vs)) (h++[.aa us])/\t_ (b++[p]) (m_ H p (.aa vs)) (.aa h.length) (.aa p):=by
 have e:B_ b H (b++[p]) (m_ H p (.aa vs)):=⟨⟨[p],rfl⟩,λa o _ q=>by rw[ba (bH q c)];exact q,λa m n=>by
  rcases XG.mp m with z | z
  .exact absurd z n
  .simp at z;subst z;exact c,λa o u q=>by rw[ba (bH q c)];exact q⟩
 obtain⟨x,y⟩:=d.af c (u:=.aa vs) (o:=.aa us) ⟨vs,cB,r.af (e.kp d)⟩;refine⟨x,y,.ae ?_⟩;rw[<-d.aa];simp
theorem kG {a:List J}{H:Hp}{h:MH}{us:List U}{vs:List V}{p:J}(b:aX a H h)(c:H p=O)(r:aY a H us vs) :
  B_ a H a (m_ H p (.ab vs))/\aX a (m_ H p (.ab vs)) h/\t_ a (m_ H p (.ab vs)) (.af us) (.aa p):=by
 obtain⟨x,y⟩:=b.Rm c vs;exact⟨x,y,.af cB (r.af (x.kp b))⟩
instance R0 {t:TA}{m:MA}[A:SA t m]:SE (Mg t) (av m):=⟨λ{s H Q f v h u w} g i e q=>by
 obtain⟨⟨x,y⟩,j,e⟩:=c_ e;obtain⟨k,e⟩:=aD e
 rcases e
 refine A.go g i j λl z B n o d=>⟨by rw[<-d.aa];exact k,λp r=>?_⟩
 obtain⟨a,b,c⟩:=kG o r d;exact q _ _ _ (n.aa a) b c⟩
instance RY {t:TA}{m:MA}[A:SA t m]:SE (Mb t) (bj m):=⟨λ{s H Q f v h u w} g i e q=>by
 obtain⟨⟨x,y⟩,j,e⟩:=c_ e;obtain⟨k,e⟩:=aD e
 rcases e
 refine A.go g i j λl z B n o d=>⟨by rw[<-d.aa];exact k,λp r=>?_⟩
 obtain⟨a,b,c⟩:=fm o r d;exact q _ _ _ (n.aa a) b c⟩
def nq (n:Nat)(f:MF):Sp:=λd H Q _=>d.length=n/\∃ c e h u g,aX c H h/\aY c H e d/\f e h=Y (u,g)/\∀ a b v,B_ c H a b->aX a b g->t_ a b u v->Q v b
noncomputable def ah (n:Nat)(f:MF)(a:MA):ME:=λb h=>(a b h).bind λp=>if p.1.length=n then f p.1 p.2 else O
instance PZ {n:Nat}{f:MF}{E:XK}{t:TA}{m:MA}[A:SA t m]:SE (zR (nq n f) [] E t) (ah n f m):=⟨λ{B H Q c C h u d} g i e q=>by
 obtain⟨⟨x,j⟩,k,e⟩:=c_ e;obtain⟨l,e⟩:=aD e;refine A.go g i k λa o p r s b=>?_
 show nq n f (p++[]) o Q E;rw[XF];exact⟨by rw[<-b.aa];exact l,a,x,j,u,d,s,b,e,λv D F w y z=>q _ _ _ (r.aa w) y z⟩⟩
noncomputable def cJ (N:Nat)(m:MS):MF:=λa h=>(m (a.map Y++List.replicate (N-a.length) O) h).bind λp=>match p.1 with
 |.nx _=>Y (.aQ,p.2)
 |.rt u=>Y (u,p.2)
 |_=>O
theorem de.af {c:List J}{H:Hp}(k:Nat):∀ {us:List U}{vs:List V},aY c H us vs->de c H (us.map Y++List.replicate k O) (vs.map Y++List.replicate k O)
 |_,_,.nil=>by
  induction k with
  |zero=>exact .nil
  |succ k d=>exact .ab .ab d
 |_,_,.ab a b=>.ab (.aa a) (de.af k b)
theorem C2 {t:TS}{m:MS}[A:SS t m]{N:List M}{n:Nat}{vs:List V}{H:Hp}{Q:VK}{E:XK}(h:nq n (cJ N.length m) vs H Q E):t {nx:=λ_ g=>Q .aQ g,rt:=Q} (L2.W_ N vs) H:=by
 obtain⟨s,w,i,h,u,x,j,r,e,q⟩:=h;obtain⟨⟨f,y⟩,l,e⟩:=c_ e;have a:i.length=vs.length:=r.aa;unfold L2.W_;rw[<-a];refine A.go (de.af _ r) j l λo z b c=>?_
 cases f with
 |nx d=>rcases e;exact λp _=>q _ _ _ b c .aQ
 |rt u=>rcases e;exact λv k=>q _ _ _ b c k
 |bk d=>exact nk e
 |ct d=>exact nk e
noncomputable def ai:MS:=λa h=>Y (.nx a,h)
noncomputable def af (a b:MS):MS:=λd h=>(a d h).bind λp=>match p.1 with | .nx c=>b c p.2 | f=>Y (f,p.2)
noncomputable def aO (a:ME):MS:=λb h=>(a b h).bind λp=>Y (.nx b,p.2)
noncomputable def ax (a:ME):MS:=λb h=>(a b h).bind λp=>Y (.rt p.1,p.2)
noncomputable def zr:MS:=λ_ h=>Y (.rt .aQ,h)
noncomputable def az (c:MT)(a b:MS):MS:=λd h=>(c d h).bind λp=>if p.1=L then a d p.2 else b d p.2
instance Qh:SS Fi ai:=⟨λa b e q=>by rcases e;exact q _ _ .ab b _ a⟩
instance Qi:SS Fo zr:=⟨λb a e q=>by rcases e;exact q _ _ .ab a _ .aQ⟩
instance Sd {t u:TS}{a b:MS}[A:SS t a][B:SS u b]:SS (Mf t u) (af a b):=⟨λ{D w H j x h f y} k l e q=>by
 obtain⟨⟨m,z⟩,n,e⟩:=c_ e;refine A.go (D:={D with nx:=u D}) k l n λo C d g=>?_
 cases m with
 |nx c=>exact λp i=>B.go i g e λr E s v=>q _ _ (d.aa s) v
 |bk c=>rcases e;exact q _ _ d g
 |ct c=>rcases e;exact q _ _ d g
 |rt F=>rcases e;exact q _ _ d g⟩
instance Qg {t:TE}{a:ME}[A:SE t a]:SS (Fd t) (aO a):=⟨λ{D l H g m h f n} b c e q=>by
 obtain⟨⟨x,o⟩,i,e⟩:=c_ e
 rcases e
 exact A.go b c i λj p r d k s=>q _ _ d k _ (b.aa (d.kp c))⟩
instance Sb {t:TE}{a:ME}[A:SE t a]:SS (Me t) (ax a):=⟨λ{D m H b n h f o} c d e q=>by
 obtain⟨⟨x,p⟩,g,e⟩:=c_ e
 rcases e
 exact A.go c d g λi r s j k l=>q _ _ j k _ l⟩
instance Ua {c:TT}{t u:TS}{m:MT}{a b:MS}[C:ST c m][A:SS t a][B:SS u b]:SS (L9 c t u) (az m a b):=⟨λ{D v H o w h f y} g i e q=>by
 obtain⟨⟨x,z⟩,p,e⟩:=c_ e;refine C.go g i p λr E d n=>?_
 dsimp only at e ⊢;cases x with
 |true=>exact A.go (g.aa (d.kp i)) n e λj s k l=>q _ _ (d.aa k) l
 |false=>exact B.go (g.aa (d.kp i)) n e λj s k l=>q _ _ (d.aa k) l⟩
noncomputable def b' (i:Nat):MG:=λu a h=>Y (a.set i (Y u),h)
noncomputable def iB:B1:=λa b h=>match a with | []=>Y (b,h) | _=>O
noncomputable def bt (g:MG)(r:B1):B1:=λa b h=>match a with | u::a=>(g u b h).bind λp=>r a p.1 p.2 | []=>O
noncomputable def iC (n:Nat)(r:B1):MG:=λu b h=>match u with | .af a=>if a.length=n then r a b h else O | _=>O
instance P7 {i:Nat}:SG (mJ i) (b' i):=⟨λa b k e q=>by rcases e;exact q _ _ _ .ab b (a.ah (.aa k) _)⟩
instance P8:Nj JN iB:=⟨λ{f g H Q i b j h a l} c d k e q=>by
 induction k using aY.casesOn with
 |nil=>rcases e;exact⟨rfl,q _ _ _ .ab d c⟩
 |ab _ _=>exact nk e⟩
instance OQ {t:TG}{u:FO}{g:MG}{r:B1}[A:SG t g][B:Nj u r]:Nj (C4 t u) (bt g r):=⟨λ{C D H Q E d F h a G} f b k e q=>by
 induction k using aY.casesOn with
 |nil=>exact nk e
 |ab i j=>
  obtain⟨⟨l,I⟩,m,e⟩:=c_ e;refine⟨_,_,rfl,A.go f b i m λn K o c p s=>?_⟩;exact B.go s p (j.af (c.kp b)) e λv N w x y z=>q _ _ _ (c.aa x) y z⟩
instance R3 {n:Nat}{t:FO}{r:B1}[A:Nj t r]:SG (JO kf.K n t) (iC n r):=⟨λ{v j H Q u a l h b m} d f k e q=>by
 induction k using t_.casesOn with
 |af g c=>
  obtain⟨i,e⟩:=aD (show(if _=n then r _ a h else O)=Y _ from e);exact⟨_,_,rfl,eV.of g,by rw[<-c.aa];exact i,A.go d f c e q⟩
 |_=>exact nk e⟩
noncomputable def au (a:ME)(g:MG):MS:=λb h=>(a b h).bind λp=>(g p.1 b p.2).bind λq=>Y (.nx q.1,q.2)
instance R9 {t:TE}{g:TG}{a:ME}{n:MG}[A:SE t a][G:SG g n]:SS (wc t g) (au a n):=⟨λ{D y H i z h f B} b c e q=>by
 obtain⟨⟨x,C⟩,j,e⟩:=c_ e;obtain⟨⟨k,E⟩,l,e⟩:=c_ e
 rcases e
 refine A.go b c j λm F I d o p=>?_
 exact G.go (b.aa (d.kp c)) o p l λr K s u v w=>q _ _ (d.aa u) v _ w⟩
class SSet [kf:KF](t:F0)(g:outParam (U->U->U->MH->Option MH)):Prop where
 go:∀ {x y z:V}{H:Hp}{Q:Hp->Prop}{a b c:U}{ι:List J}{h h':MH},aX ι H h->t_ ι H a x->t_ ι H b y->t_ ι H c z->g a b c h=Y h'->(∀ ι' H',B_ ι H ι' H'->aX ι' H' h'->Q H')->t x y z H Q
abbrev pF:=Nat->MH->Option (Option U)
abbrev MI:=bu->MH->Option (pF×MH)
theorem IJ:∃ n:Nat,n=1000000000:=⟨_,rfl⟩
noncomputable def FU:Nat:=acE IJ
theorem uC {n:Nat}(h:n<1000000000):n<FU:=by unfold FU;rw[aag IJ];exact h
def wD (d:List J)(H:Hp)(afg:It)(it:pF):Prop:=∀ a b h i,B_ d H a b->aX a b h->
 (it i h=Y O->afg.aa i b)/\∀ x,it i h=Y (Y x)->afg.go i b/\∀ v c,afg.ab i b v c->B_ a b a c/\aX a c h/\t_ a c x v
class SI [kf:KF](wi:TI)(mi:outParam MI):Prop where
 go:∀ {σ:St}{H:Hp}{afi:It->Hp->Prop}{σu:bu}{ι:List J}{h:MH}{it:pF}{h':MH},de ι H σu σ->aX ι H h->mi σu h=Y (it,h')->
  (∀ ι' H' afg,B_ ι H ι' H'->aX ι' H' h'->wD ι' H' afg it->afi afg H')->wi σ H afi
noncomputable def lz (it:pF)(g:MG)(b:MS):Nat->Nat->bu->MH->Option (Fl×MH)
 |0,_,_,_=>O
 |n+1,i,c,h=>(it i h).bind λo=>match o with
  |none=>Y (.nx c,h)
  |some x=>(g x c h).bind λp=>(b p.1 p.2).bind λq=>match q.1 with
   |.nx a=>lz it g b n (i+1) a q.2
   |.ct a=>lz it g b n (i+1) a q.2
   |.bk a=>Y (.nx a,q.2)
   |.rt u=>Y (.rt u,q.2)
def eJ (mi:MI)(g:MG)(b:MS):MS:=λa h=>(mi a h).bind λp=>lz p.1 g b FU 0 a p.2
instance Sa {Q:TI}{g:TG}{tb:TS}{mi:MI}{n:MG}{b:MS}[I:SI Q mi][G:SG g n][B:SS tb b]:SS (L8 Q g tb) (eJ mi n b):=⟨λ{D σ H K ι h f S} T U e q=>by
 obtain⟨⟨V,h1⟩,e1,e⟩:=c_ e;refine I.go T U e1 λj W afg A r1 jr=>?_
 refine⟨λi m p r=>∃ c a k,B_ j W c r/\aX c r k/\de c r a p/\lz V n b m i a k=Y (f,S),⟨FU,j,K,h1,.ab,r1,T.aa (A.kp U),e⟩,?_⟩;rintro i m p r ⟨c,a,k,N,P,X,Z⟩;cases m with
 |zero=>cases Z
 |succ m=>
  obtain⟨o,e3,e4⟩:=c_ Z;obtain⟨j1,j2⟩:=jr c r k i N P;cases o with
  |none=>
   rcases e4
   exact .inl ⟨j1 e3,q _ _ (A.aa N) P _ X⟩
  |some x=>
   obtain⟨go,yl⟩:=j2 x e3;obtain⟨⟨σ5,h5⟩,e5,e6⟩:=c_ e4;obtain⟨⟨f7,h7⟩,e7,C⟩:=c_ e6;refine .inr ⟨go,λs l=>∃ c a k,B_ j W c l/\aX c l k/\de c l a s/\lz V n b m (i+1) a k=Y (f,S),λs l w=>⟨m,Y8 m,w⟩,λv l y=>?_⟩;obtain⟨x3,r3,k3⟩:=yl v l y;refine G.go (X.aa (x3.kp P)) r3 k3 e5 λι4 H4 σ4 x4 r4 s4=>?_
   refine B.go s4 r4 e7 λt H5 x5 E=>?_
   have F:=((N.aa x3).aa x4).aa x5;cases f7 with
   |nx d=>exact λu z=>⟨t,d,h7,F,E,z,C⟩
   |ct d=>exact λu z=>⟨t,d,h7,F,E,z,C⟩
   |bk d=>rcases C;exact λu z=>q _ _ (A.aa F) E _ z
   |rt u8=>rcases C;exact λv9 k9=>q _ _ (A.aa F) E _ k9⟩
noncomputable def lA (c:MT)(b:MS):Nat->bu->MH->Option (Fl×MH)
 |0,_,_=>O
 |n+1,d,h=>(c d h).bind λp=>if p.1=L then(b d p.2).bind λq=>match q.1 with
   |.nx a=>lA c b n a q.2
   |.ct a=>lA c b n a q.2
   |.bk a=>Y (.nx a,q.2)
   |.rt u=>Y (.rt u,q.2)
  else Y (.nx d,p.2)
def t8 (c:MT)(b:MS):MS:=λa h=>lA c b FU a h
instance OX {c:TT}{tb:TS}{p:MT}{b:MS}[C:ST c p][B:SS tb b]:SS (yu c tb) (t8 p b):=⟨λ{D σ H x y h f E} T U e q=>by
 refine⟨λm j r=>∃ d a i,B_ y H d r/\aX d r i/\de d r a j/\lA p b m a i=Y (f,E),⟨FU,y,x,h,.ab,U,T,e⟩,?_⟩;rintro m j r ⟨d,a,i,V,F,G,I⟩;cases m with
 |zero=>cases I
 |succ m=>
  obtain⟨⟨k,h3⟩,W,s⟩:=c_ I;refine C.go G F W λX Z K N=>?_
  dsimp only at s ⊢;have P:=V.aa K;have Q:=G.aa (K.kp F);cases k with
  |false=>rcases s;exact q _ _ P N _ Q
  |true=>
   rw[W0 rfl]at s ⊢;obtain⟨⟨f7,S⟩,e7,t⟩:=c_ s;refine⟨λz A=>∃ d a i,B_ y H d A/\aX d A i/\de d A a z/\lA p b m a i=Y (f,E),λσ3 Z w=>⟨m,Y8 m,w⟩,?_⟩;refine B.go Q N e7 λl H5 x5 u=>?_
   have v:=P.aa x5;cases f7 with
   |nx g=>exact λn o=>⟨l,g,S,v,u,o,t⟩
   |ct g=>exact λn o=>⟨l,g,S,v,u,o,t⟩
   |bk g=>rcases t;exact λn o=>q _ _ v u _ o
   |rt u8=>rcases t;exact λv9 k9=>q _ _ v u _ k9⟩
noncomputable def fW (σ:bu)(o:Option Nat):Option U:=o.bind λj=>(σ[j]?).join
theorem de.ae {b:List J}{H:Hp}{a:bu}{σ:St}(c:de b H a σ):∀ (ix:List (Option Nat)),de b H (ix.map (fW a)) (ix.map (Ym σ))
 |[]=>.nil
 |o::r=>by
  refine .ab ?_ (c.ae r);cases o with
  |none=>exact .ab
  |some j=>
   show uE b H ((a[j]?).join) ((σ[j]?).join);cases e:a[j]? with
   |none=>exact .ab
   |some o=>
    cases o with
    |none=>exact .ab
    |some u=>
     obtain⟨v,d,k⟩:=c.ag e;rw[d];exact .aa k
noncomputable def mz (it:pF)(g:MG)(c:MT)(a:ME)(n:Nat):Nat->Nat->bu->MH->Option MH
 |0,_,_,_=>O
 |m+1,i,d,h=>(it i h).bind λo=>match o with
  |none=>Y h
  |some x=>(g x d h).bind λp=>(c p.1 p.2).bind λk=>if k.1=L
    then(a p.1 k.2).bind λq=>match q.2[n]? with
     |some (.aa b)=>if b.length<p' then mz it g c a n m (i+1) p.1 (q.2.set n (.aa (b++[q.1]))) else O
     |_=>O
    else mz it g c a n m (i+1) p.1 k.2
noncomputable def dB:MT:=λ_ h=>Y (L,h)
def di (ix:List (Option Nat))(mi:MI)(g:MG)(c:MT)(a:ME):ME:=λb h=>(mi b h).bind λp=>(mz p.1 g c a p.2.length FU 0 (ix.map (fW b)) (p.2++[.aa []])).bind λd=>Y (.aa p.2.length,d)
theorem gO {ι:List J}{H:Hp}{h:MH}{p:J}{n:Nat}{vs:List V}{c:List U}{b:List V}(d:aX ι H h)(f:ι[n]?=Y p)(e:H p=Y (.aa vs))(k:aY ι H c b) :
  B_ ι H ι (m_ H p (.aa b))/\aX ι (m_ H p (.aa b)) (h.set n (.aa c)):=by
 have g:p∈ι:=Xk f;have x:B_ ι H ι (m_ H p (.aa b)):=⟨⟨[],by simp⟩,λa o m q=>by rw[ba (show a≠p from λz=>m (by rw[z];exact g))];exact q,λa m n=>absurd m n,λa o u q=>by rw[ba (λz=>by subst z;rw[e]at q;cases q)];exact q⟩;exact d.ag f (λi z=>by rw[e]at z;cases z) (λ_ _ z=>by rw[e]at z;cases z) ⟨b,cB,k.af (x.kp d)⟩
def CW (it:pF)(n:MG)(c:MT)(a:ME)(k:Nat)(e:List J)(j:Hp)(fin:MH)(i m:Nat)(f:St)(g:Hp):Prop:=
 ∃ d b h,B_ e j d g/\aX d g h/\de d g b f/\mz it n c a k m i b h=Y fin
theorem uZ {it:pF}{n:MG}{c:MT}{a:ME}{k:Nat}{f b:List J}{u h:Hp}{D:J}{fin:MH}{i m:Nat}{d:bu}{j:St}{y:U}{v:V}{p:MH}
  (x:B_ f u b h) (z:f[k]?=Y D) (s:aX b h p) (A:t_ b h y v) (B:de b h d j)
  (e:(match p[k]? with | some (.aa g)=>if g.length<p' then mz it n c a k m (i+1) d (p.set k (.aa (g++[y]))) else O | _=>O)=Y fin) :
  ∃ vs,h D=Y (.aa vs)/\vs.length<p'/\CW it n c a k f u fin (i+1) m j (m_ h D (.aa (vs++[v]))):=by
 have l:=x.at z;cases t:p[k]? with
 |none=>rw[t]at e;cases e
 |some o=>
  rw[t]at e;have C:=s.ab k D o l t;cases o with
  |aa g=>
   dsimp only at e;obtain⟨hz,e⟩:=aD e;obtain⟨vs,q,r⟩:=C;obtain⟨w,E⟩:=gO s l q (r.ae (.ab A .nil));exact⟨vs,q,by rw[<-r.aa];exact hz,b,d,_,x.aa w,E,B.aa (w.kp s),e⟩
  |_=>exact nk e
instance P0 {ix:List (Option Nat)}{r:TI}{g:TG}{s:TE}{mi:MI}{n:MG}{a:ME}[I:SI r mi][G:SG g n][A:SE s a]:SE (we ix r g s) (di ix mi n dB a):=⟨λ{σ H Q σu ι h u t} z B e q=>by
 obtain⟨⟨C,d⟩,e1,e⟩:=c_ e;obtain⟨h2,e2,e⟩:=c_ e;cases e;refine I.go z B e1 λb E afg F K jr D hD=>?_
 obtain⟨f,y2,y3⟩:=fm K hD .nil;have N:(b++[D])[d.length]?=Y D:=by rw[<-K.aa];simp
 refine⟨CW C n dB a d.length (b++[D]) (m_ E D (.aa [])) t,⟨FU,_,_,_,.ab,y2,(z.aa ((F.aa f).kp B)).ae ix,e2⟩,?_⟩;rintro i m σ2 H2 ⟨j,P,h3,c,k,s2,S⟩;cases m with
 |zero=>cases S
 |succ m=>
  obtain⟨o,T,U⟩:=c_ S;obtain⟨j1,j2⟩:=jr j H2 h3 i (f.aa c) k;cases o with
  |none=>
   rcases U
   exact .inl ⟨j1 T,q _ _ _ (F.aa (f.aa c)) k (.ae (c.at N))⟩
  |some x=>
   obtain⟨go,yl⟩:=j2 x T;obtain⟨⟨l,h5⟩,e5,e6⟩:=c_ U;obtain⟨⟨k6,h6⟩,e7,p⟩:=c_ e6
   rcases e7
   obtain⟨⟨y,h9⟩,e9,p⟩:=c_ (show(a l h5).bind _=Y _ from p);refine .inr ⟨go,CW C n dB a d.length (b++[D]) (m_ E D (.aa [])) t (i+1) m,λσ3 V w=>⟨m,Y8 m,w⟩,λv V yy=>?_⟩;obtain⟨W,r3,k3⟩:=yl v V yy;refine G.go (s2.aa (W.kp k)) r3 k3 e5 λι4 H4 σ4 x4 X Z=>?_
   refine A.go Z X e9 λι5 H5 v5 x5 r5 k5=>?_
   exact uZ (((c.aa W).aa x4).aa x5) N r5 k5 (Z.aa (x5.kp X)) p⟩
end S
namespace L2
open PySem PySem.Spec PyProof.Rows PySem.SeqAt
mutual
inductive RD (h:k_):R->G_->Prop
 |aQ:RD h .none .none
 |bl (b:Bool):RD h (.bool b) (.bool b)
 |ae (i:Int) (t:WG):RD h (.int i t) (.int i)
 |af (x:M) (t:WG):RD h (.str x t) (.str x)
 |aa {a:J} {vs:Array R} {xs:List G_}:h.IsList a vs->lW h vs.toList xs->RD h (.ref a) (.list xs)
 |ab {a:J} {vs:Array R} {xs:List G_}:h.IsTuple a vs->lW h vs.toList xs->RD h (.ref a) (.tuple xs)
inductive lW (h:k_):List R->List G_->Prop
 |nil:lW h [] []
 |ab {v:R} {d:G_} {vs:List R} {ds:List G_}:RD h v d->lW h vs ds->lW h (v::vs) (d::ds)
end
theorem lW.aa {h:k_}:∀ {vs:List R}{a:List G_},lW h vs a->vs.length=a.length
 |_,_,.nil=>rfl
 |_,_,.ab _ r=>congrArg Y9 r.aa
theorem ze {h:k_}{a:J}{vs ws:Array R}:h.IsList a vs->h.IsList a ws->vs=ws:=λ⟨o,e,_,n,d⟩ ⟨f,b,_,g,c⟩=>by
 rw[e]at b;rcases b;rw[d]at c;cases c;rfl
theorem zh {h:k_}{a:J}{vs ws:Array R}:h.IsTuple a vs->h.IsTuple a ws->vs=ws:=λ⟨o,e,_,n,d⟩ ⟨f,b,_,g,c⟩=>by
 rw[e]at b;rcases b;rw[d]at c;cases c;rfl
theorem zg {h:k_}{a:J}{vs ws:Array R}:h.IsList a vs->h.IsTuple a ws->False:=λ⟨o,e,c,_⟩ ⟨f,b,d,_⟩=>by
 rw[e]at b;rcases b;rw[c]at d;exact absurd d nofun
theorem lW.ag {h:k_}{v:List R}{k j:List G_}(a:lW h v k)(b:lW h v j):k=j:=
 lW.rec (motive_1:=λv k _=>∀ j,RD h v j->k=j) (motive_2:=λv k _=>∀ j,lW h v j->k=j) (λ_ q=>by cases q;rfl) (λ_ _ q=>by cases q;rfl) (λ_ _ _ q=>by cases q;rfl) (λ_ _ _ q=>by cases q;rfl)
  (λp _ i _ q=>by
   cases q with
   |aa q s=>cases ze p q;rw[i _ s]
   |ab q _=>exact(zg p q).elim)
  (λp _ i _ q=>by
   cases q with
   |ab q s=>cases zh p q;rw[i _ s]
   |aa q _=>exact(zg q p).elim) (λ_ q=>by cases q;rfl) (λ_ _ i l _ q=>by cases q with | ab b s=>rw[i _ b,l _ s]) a j b
theorem RD.ai {h:k_}{v:R}{k j:G_}(a:RD h v k)(b:RD h v j):k=j:=(acG (lW.ag (.ab a .nil) (.ab b .nil))).1
mutual
theorem RD.ah {h:k_}:∀ {v:R}{d:G_},RD h v d->F' d d=L
 |_,_,.aQ=>rfl
 |_,_,.bl _=>by simp[F']
 |_,_,.ae _ _=>by simp[F']
 |_,_,.af _ _=>by simp[F']
 |_,_,.aa _ r=>by rw[F'];exact lW.ae r
 |_,_,.ab _ r=>by rw[F'];exact lW.ae r
theorem lW.ae {h:k_}:∀ {vs:List R}{b:List G_},lW h vs b->WK b b=L
 |_,_,.nil=>rfl
 |_,_,.ab a r=>by rw[WK,RD.ah a,lW.ae r];rfl
end
mutual
theorem yZ:∀ (d:G_) {e:G_}{A:D_}{s:d_}{a b:R},RD s.heap a d->RD s.heap b e->A.units+min d.depth e.depth<K_->YC A s a b (F' d e)
 |.none,_,_,_,_,_,f,h,c=>by
  cases f
  induction h using RD.casesOn with
  |aQ=>exact ZU _
  |bl y=>exact EqAt.none_bool y
  |ae y u=>exact adS y u
  |af y u=>exact adT y u
  |aa p r=>exact EqAt.none_list p (A_ c)
  |ab p r=>exact adU p (A_ c)
 |.bool x,_,_,_,_,_,f,h,c=>by
  cases f
  induction h using RD.casesOn with
  |aQ=>exact EqAt.bool_none x
  |bl y=>exact EqAt.bool_bool x y
  |ae y u=>exact EqAt.bool_int x y u
  |af y u=>exact EqAt.bool_str x y u
  |aa p r=>exact EqAt.bool_list x p (A_ c)
  |ab p r=>exact EqAt.bool_tuple x p (A_ c)
 |.int x,_,_,_,_,_,f,h,c=>by
  cases f with
  |ae _ t=>
   induction h using RD.casesOn with
   |aQ=>exact adQ x t
   |bl y=>exact EqAt.int_bool x t y
   |ae y u=>exact adP x t y u
   |af y u=>exact abS x t y u
   |aa p r=>exact EqAt.int_list x t p (A_ c)
   |ab p r=>exact adR x t p (A_ c)
 |.str x,_,_,_,_,_,f,h,c=>by
  cases f with
  |af _ t=>
   induction h using RD.casesOn with
   |aQ=>exact adV x t
   |bl y=>exact EqAt.str_bool x t y
   |ae y u=>exact abT x t y u
   |af y u=>exact adW x t y u
   |aa p r=>exact EqAt.str_list x t p (A_ c)
   |ab p r=>exact adX x t p (A_ c)
 |.list i,_,A,s,_,_,f,h,c=>by
  cases f with
  |@aa l n _ p r=>
   induction h using RD.casesOn with
   |aQ=>exact EqAt.list_none p (A_ c)
   |bl y=>exact EqAt.list_bool y p (A_ c)
   |ae y u=>exact EqAt.list_int y u p (A_ c)
   |af y u=>exact EqAt.list_str y u p (A_ c)
   |ab q z=>exact EqAt.list_tuple p q (A_ c)
   |@aa k o m q z=>
    have v:n.size=i.length:=by simpa using r.aa
    have C:o.size=m.length:=by simpa using z.aa
    show YC A s (.ref l) (.ref k) (WK i m);by_cases g:l=k
    .subst g;cases ze p q;cases lW.ag r z;rw[r.ae];exact ZU _
    .by_cases hz:n.size=o.size
     .rw[<-aeg (show i.length=m.length by lia),<-v];refine aaC g (adN p q hz (A_ c) λj w B=>?_);exact jG i (A:=A.in1) r z (aaM c) j (by simpa using w) (by simpa using B)
     .rw[aef (show i.length≠m.length by lia)];exact aaC g (adO p q (by simpa using hz) (A_ c))
 |.tuple i,_,A,s,_,_,f,h,c=>by
  cases f with
  |@ab l n _ p r=>
   induction h using RD.casesOn with
   |aQ=>exact adZ p (A_ c)
   |bl y=>exact EqAt.tuple_bool y p (A_ c)
   |ae y u=>exact adY y u p (A_ c)
   |af y u=>exact ad0 y u p (A_ c)
   |aa q z=>exact EqAt.tuple_list p q (A_ c)
   |@ab k o m q z=>
    have v:n.size=i.length:=by simpa using r.aa
    have C:o.size=m.length:=by simpa using z.aa
    show YC A s (.ref l) (.ref k) (WK i m);by_cases g:l=k
    .subst g;cases zh p q;cases lW.ag r z;rw[r.ae];exact ZU _
    .rw[<-eqvAll_eq i m,<-v,<-C];refine aaC g (abR p q (A_ c) λj w B=>?_);exact jG i (A:=A.in1) r z (aaM c) j (by simpa using w) (by simpa using B)
 |.dict _,_,_,_,_,_,f,_,_=>nomatch f
theorem jG:∀ (xs:List G_) {ys:List G_}{A:D_}{s:d_}{vs ws:List R},lW s.heap vs xs->lW s.heap ws ys->A.units+min (abO xs) (abO ys)<K_->
  ∀ j (h1:j<vs.length) (h2:j<ws.length),YC A s vs[j] ws[j] (pairEq xs ys j)
 |[],_,_,_,_,_,a,_,_,j,h1,_=>by cases a;exact absurd h1 (Zs _)
 |x::xs,_,A,s,_,_,a,c,b,j,h1,h2=>by
  cases a with
  |ab r d=>
   induction c using lW.casesOn with
   |nil=>exact absurd h2 (Zs _)
   |ab z e=>
    cases j with
    |zero=>exact yZ x r z (room_head b)
    |succ j=>exact jG xs d e (room_tail b) j (aar h1) (aar h2)
end
theorem zI {d e:G_}{A:D_}{s:d_}{a b:R}(C:RD s.heap a d)(m:RD s.heap b e)(c:A.units+min d.depth e.depth<K_):RcAt A s a b (F' d e)/\RcNeAt A s a b (!F' d e):=by
 induction C using RD.casesOn with
 |aQ=>
  induction m using RD.casesOn with
  |aQ=>exact⟨RcAt.none_none,RcNeAt.none_none⟩
  |bl y=>exact⟨RcAt.none_bool y,RcNeAt.none_bool y⟩
  |ae y u=>exact⟨RcAt.none_int y u,RcNeAt.none_int y u⟩
  |af y u=>exact⟨RcAt.none_str y u,RcNeAt.none_str y u⟩
  |aa p r=>exact⟨RcAt.none_list p (A_ c),RcNeAt.none_list p (A_ c)⟩
  |ab p r=>exact⟨RcAt.none_tuple p (A_ c),RcNeAt.none_tuple p (A_ c)⟩
 |bl x=>
  induction m using RD.casesOn with
  |aQ=>exact⟨RcAt.bool_none x,RcNeAt.bool_none x⟩
  |bl y=>exact⟨RcAt.bool_bool x y,RcNeAt.bool_bool x y⟩
  |ae y u=>exact⟨RcAt.bool_int x y u,RcNeAt.bool_int x y u⟩
  |af y u=>exact⟨RcAt.bool_str x y u,RcNeAt.bool_str x y u⟩
  |aa p r=>exact⟨RcAt.bool_list x p (A_ c),RcNeAt.bool_list x p (A_ c)⟩
  |ab p r=>exact⟨RcAt.bool_tuple x p (A_ c),RcNeAt.bool_tuple x p (A_ c)⟩
 |ae x t=>
  induction m using RD.casesOn with
  |aQ=>exact⟨RcAt.int_none x t,RcNeAt.int_none x t⟩
  |bl y=>exact⟨RcAt.int_bool x t y,RcNeAt.int_bool x t y⟩
  |ae y u=>exact⟨RcAt.int_int x t y u,RcNeAt.int_int x t y u⟩
  |af y u=>exact⟨RcAt.int_str x t y u,RcNeAt.int_str x t y u⟩
  |aa p r=>exact⟨RcAt.int_list x t p (A_ c),RcNeAt.int_list x t p (A_ c)⟩
  |ab p r=>exact⟨RcAt.int_tuple x t p (A_ c),RcNeAt.int_tuple x t p (A_ c)⟩
 |af x t=>
  induction m using RD.casesOn with
  |aQ=>exact⟨RcAt.str_none x t,RcNeAt.str_none x t⟩
  |bl y=>exact⟨RcAt.str_bool x t y,RcNeAt.str_bool x t y⟩
  |ae y u=>exact⟨RcAt.str_int x t y u,RcNeAt.str_int x t y u⟩
  |af y u=>exact⟨RcAt.str_str x t y u,RcNeAt.str_str x t y u⟩
  |aa p r=>exact⟨RcAt.str_list x t p (A_ c),RcNeAt.str_list x t p (A_ c)⟩
  |ab p r=>exact⟨RcAt.str_tuple x t p (A_ c),RcNeAt.str_tuple x t p (A_ c)⟩
 |@aa l h f p r=>
  induction m using RD.casesOn with
  |aQ=>exact⟨RcAt.list_none p (A_ c),RcNeAt.list_none p (A_ c)⟩
  |bl y=>exact⟨RcAt.list_bool y p (A_ c),RcNeAt.list_bool y p (A_ c)⟩
  |ae y u=>exact⟨RcAt.list_int y u p (A_ c),RcNeAt.list_int y u p (A_ c)⟩
  |af y u=>exact⟨RcAt.list_str y u p (A_ c),RcNeAt.list_str y u p (A_ c)⟩
  |ab q z=>exact⟨RcAt.list_tuple p q (A_ c),RcNeAt.list_tuple p q (A_ c)⟩
  |@aa k i g q z=>
   have w:h.size=f.length:=by simpa using r.aa
   have B:i.size=g.length:=by simpa using z.aa
   have n:∀ j (o:j<h.size) (v:j<i.size),YC A.in1 s h[j] i[j] (pairEq f g j):=λj o v=>jG f (A:=A.in1) r z (aaM c) j (by simpa using o) (by simpa using v)
   show RcAt A s (.ref l) (.ref k) (WK f g)/\RcNeAt A s (.ref l) (.ref k) (!WK f g);by_cases hz:h.size=i.size
   .rw[<-aeg (show f.length=g.length by lia),<-w];exact⟨adN p q hz (A_ c) n,RcNeAt.lists p q hz (A_ c) n⟩
   .rw[aef (show f.length≠g.length by lia)];exact⟨adO p q (by simpa using hz) (A_ c),RcNeAt.lists_lengths p q (by simpa using hz) (A_ c)⟩
 |@ab l h f p r=>
  induction m using RD.casesOn with
  |aQ=>exact⟨RcAt.tuple_none p (A_ c),RcNeAt.tuple_none p (A_ c)⟩
  |bl y=>exact⟨RcAt.tuple_bool y p (A_ c),RcNeAt.tuple_bool y p (A_ c)⟩
  |ae y u=>exact⟨RcAt.tuple_int y u p (A_ c),RcNeAt.tuple_int y u p (A_ c)⟩
  |af y u=>exact⟨RcAt.tuple_str y u p (A_ c),RcNeAt.tuple_str y u p (A_ c)⟩
  |aa q z=>exact⟨RcAt.tuple_list p q (A_ c),RcNeAt.tuple_list p q (A_ c)⟩
  |@ab k i g q z=>
   have w:h.size=f.length:=by simpa using r.aa
   have B:i.size=g.length:=by simpa using z.aa
   have n:∀ j (o:j<h.size) (v:j<i.size),YC A.in1 s h[j] i[j] (pairEq f g j):=λj o v=>jG f (A:=A.in1) r z (aaM c) j (by simpa using o) (by simpa using v)
   show RcAt A s (.ref l) (.ref k) (WK f g)/\RcNeAt A s (.ref l) (.ref k) (!WK f g);rw[<-eqvAll_eq f g,<-w,<-B];exact⟨abR p q (A_ c) n,RcNeAt.tuples p q (A_ c) n⟩
mutual
inductive DV (H:Hp):V->G_->Prop
 |aQ:DV H .aQ .none
 |bl {b:Bool}:DV H (.bl b) (.bool b)
 |ab {i:Int}:DV H (.ab i) (.int i)
 |ae {x:M}:DV H (.ae x) (.str x)
 |aa {a:J} {vs:List V} {xs:List G_}:Rd H a (.aa vs)->BR H vs xs->DV H (.aa a) (.list xs)
 |af {a:J} {vs:List V} {xs:List G_}:Rd H a (.ab vs)->BR H vs xs->DV H (.aa a) (.tuple xs)
inductive BR (H:Hp):List V->List G_->Prop
 |nil:BR H [] []
 |aa {v:V} {d:G_} {vs:List V} {ds:List G_}:DV H v d->BR H vs ds->BR H (v::vs) (d::ds)
end
mutual
theorem DV.rd {P:y_}{w:v_}{H:Hp}{h:k_}(a:f9 P w H h):∀ {x:V}{d:G_}{u:R},DV H x d->x_ x u->RD h u d
 |_,_,_,.aQ,r=>by cases r;exact .aQ
 |_,_,_,.bl,r=>by cases r;exact .bl _
 |_,_,_,.ab,r=>by obtain⟨t,rfl⟩:=r;exact .ae _ t
 |_,_,_,.ae,r=>by obtain⟨t,rfl⟩:=r;exact .af _ t
 |_,_,_,.aa e k,r=>by
  cases r;obtain⟨_,b,n,c,q⟩:=e.ok a;exact .aa ⟨_,q,rfl,n,rfl⟩ (by simpa using BR.rd a k c)
 |_,_,_,.af e k,r=>by
  cases r;obtain⟨_,b,c,q⟩:=e.ok a;exact .ab q.aa (by simpa using BR.rd a k c)
theorem BR.rd {P:y_}{w:v_}{H:Hp}{h:k_}(c:f9 P w H h):∀ {xs:List V}{d:List G_}{us:List R},BR H xs d->x' xs us->lW h us d
 |_,_,_,.nil,r=>by cases r;exact .nil
 |_,_,_,.aa a b,r=>by cases r with | cons e f=>exact .ab (DV.rd c a e) (BR.rd c b f)
end
noncomputable def Dp:Nat:=40
def Lg (neg:Bool):R2:=λx y H Q=>∃ d e,DV H x d/\DV H y e/\WT d.depth e.depth<=Dp/\Q (.bl (if neg then !F' d e else F' d e)) H
def Hi (neg:Bool):R2:=λx y H Q=>∃ p a d b,y=.aa p/\(Rd H p (.aa a)\/Rd H p (.ab a))/\DV H x d/\BR H a b/\d.depth<=Dp/\
 Q (.bl (if neg then !b.any (λe=>F' e d) else b.any λe=>F' e d)) H
section
variable {X:Cx}
theorem Kw (i:X.A.units+64<K_):j7 X (WQ .Eq) (Lg b_):=by
 intro a s j H x y v u Q I b c h;obtain⟨d,e,f,g,hz,q⟩:=h;have z:=(zI (A:=X.A) (f.rd I.aa b) (g.rd I.aa c) (by unfold Dp at hz;lia)).1;exact z X.ab X.w X.xe _ ⟨.bl _,H,I,rfl,q⟩
theorem KA (i:X.A.units+64<K_):j7 X (WQ .NotEq) (Lg L):=by
 intro a s j H x y v u Q I b c h;obtain⟨d,e,f,g,hz,q⟩:=h;have z:=(zI (A:=X.A) (f.rd I.aa b) (g.rd I.aa c) (by unfold Dp at hz;lia)).2;exact z X.ab X.w X.xe _ ⟨.bl _,H,I,rfl,q⟩
open Classical in
theorem inD {A:D_}{s:d_}{v:R}{d:G_}(rd:RD s.heap v d)(hz:d.depth<=Dp)(g:A.units+64<K_):∀ {us:List R}{b:List G_},lW s.heap us b->
  (∀ y∈us,YC A.in1 s y v (j' (∃ e,RD s.heap y e/\F' e d=L)))/\us.any (λy=>j' (∃ e,RD s.heap y e/\F' e d=L))=b.any λe=>F' e d
 |_,_,.nil=>⟨(λ_ h=>nomatch h),rfl⟩
 |_,_,.ab (v:=y) (d:=e) a r=>by
  obtain⟨i,j⟩:=inD rd hz g r;have c:j' (∃ e,RD s.heap y e/\F' e d=L)=F' e d:=by
   cases k:F' e d with
   |true=>exact decide_eq_true ⟨e,a,k⟩
   |false=>exact XU λ⟨n,l,f⟩=>by rw[RD.ai l a,k]at f;cases f
  refine⟨λz m=>?_,by rw[Yy,Yy,c,j]⟩;rcases Xj.mp m with q | q
  .subst q;rw[c];refine yZ e (A:=A.in1) a rd ?_;have:WT e.depth d.depth<=d.depth:=adk _ _;show A.units+1+min e.depth d.depth<K_;unfold Dp at hz;lia
  .exact i z q
theorem DY (j:X.A.units+64<K_):j7 X (WQ .In) (Hi b_):=by
 intro k s t H x y v u Q I m o h;obtain⟨p,w,d,z,rfl,hp,r,a,hz,q⟩:=h;cases o;have l:=r.rd I.aa m;rcases hp with hp | hp
 .obtain⟨_,b,n,c,e⟩:=hp.ok I.aa;obtain⟨f,g⟩:=inD l hz j (a.rd I.aa c);refine SeqAt.in_listAt _ ⟨_,e,rfl,n,rfl⟩ (λy i=>f y (by simpa using i)) ⟨.bl _,H,I,rfl,?_⟩;rw[acJ,g];exact q
 .obtain⟨_,b,c,e⟩:=hp.ok I.aa;obtain⟨f,g⟩:=inD l hz j (a.rd I.aa c);refine SeqAt.in_tupleAt _ e.aa (λy i=>f y (by simpa using i)) ⟨.bl _,H,I,rfl,?_⟩;rw[acJ,g];exact q
end
end L2
namespace L2
open PySem PySem.Spec PyProof.Rows
section
variable {X:Cx}
def IZ:R2:=λx y H Q=>∃ a b c d,x=.aa a/\y=.aa b/\H a=Y (.ab c)/\H b=Y (.ab d)/\c.length+d.length<=p'/\
 (c=[]->Q (.aa b) H)/\(c≠[]->d=[]->Q (.aa a) H)/\(c≠[]->d≠[]->∀ p,H p=O->Q (.aa p) (m_ H p (.ab (c++d))))
theorem GW:j7 X (WL .Add) IZ:=by
 intro c s r H x y v u Q I j k h;obtain⟨a,b,l,t,rfl,rfl,m,o,hz,w,z,A⟩:=h;by_cases d:l=[]
 .cases j;cases k;obtain⟨f,B,C,_⟩:=I.ae (eV.of (K:=X.K) m);obtain⟨p,W,D,_⟩:=I.ae (eV.of (K:=X.K) o);have E:f=[]:=B.px.mpr d;subst E;obtain⟨⟨Z,G,t1,N⟩,q,P,n,S⟩:=id C;obtain⟨⟨c2,T,t2,U⟩,e,g,V,i⟩:=id D;cases P;cases S;cases g;cases i;exact ab8 ⟨_,q,rfl⟩ ⟨_,e,rfl⟩ ab' aca abX abW (abV _ _) (tuple_addW0 a b _ _ n V G T N U rfl) ⟨q,e,⟨.aa b,H,I,rfl,w d⟩⟩
 .exact GX c s r H _ _ v u Q I j k ⟨a,b,l,t,rfl,rfl,eV.of m,eV.of o,d,hz,z d,A d⟩
def Er:R2:=λx y H Q=>(Et λi j=>.ab (i+j)) x y H Q\/(∃ i j,x=.ae i/\y=.ae j/\i.length+j.length<=p'/\Q (.ae (i++j)) H)\/Oh x y H Q\/IZ x y H Q
theorem GV:j7 X (WL .Add) Er:=Ku.or (xW.or (Kv.or GW))
def Hk (K:r_):V->Option Int->Option Int->Hp->VK->Prop:=λx a b H Q=>Ou K x a b H Q\/Ow K x a b H Q\/Ov x a b H Q
theorem LQ:FZ X (Hk X.K):=HD.or (LS.or LR)
def JU (K:r_)(a:TE):TI:=λb H afi=>IU K a b H afi\/NR K a b H afi
theorem K7 {e l:e_}{b:TE}(c:PE X l b):PI X e l (JU X.K b):=λa s d H afi I h=>h.elim (G6 c a s d H afi I) (K8 c a s d H afi I)
end
end L2
namespace S
open PySem L2
variable [kf:KF]
section
variable {ι:List J}{H:Hp}{h:MH}
noncomputable def cK (h:MH):U->Option (List U)
 |.af a=>Y a
 |.ag a=>Y a
 |.dM a=>Y a
 |.ir a=>Y a
 |.aa n=>match h[n]? with
  |some (.aa a)=>Y a
  |_=>O
 |_=>O
noncomputable def jd:U->Bool
 |.dM _=>b_
 |.ir _=>b_
 |_=>L
noncomputable def abg:U->Bool
 |.af _=>L
 |_=>b_
theorem jJ (i:aX ι H h){u:U}{v:V}{us:List U}(k:t_ ι H u v)(g:jd u=L)(e:cK h u=Y us):∃ p vs,v=.aa p/\aY ι H us vs/\((abg u=L/\u=.af us/\H p=Y (.ab vs))\/(abg u=b_/\H p=Y (.aa vs))):=by
 induction k using t_.casesOn with
 |af b c=>rcases e;exact⟨_,_,rfl,c,.inl ⟨rfl,rfl,b⟩⟩
 |ah m b c=>rcases e;exact⟨_,_,rfl,c,.inr ⟨rfl,b⟩⟩
 |@ae n a j=>
  unfold cK at e;dsimp only at e;cases d:h[n]? with
  |none=>rw[d]at e;exact nk e
  |some o=>
   rw[d]at e;have l:=i.ae j d;cases o with
   |aa s=>rcases e;obtain⟨vs,q,r⟩:=l;exact⟨_,vs,rfl,r,.inr ⟨rfl,q⟩⟩
   |dK f=>exact nk e
   |dT f=>exact nk e
   |ab C t=>exact nk e
 |dM _ _=>cases g
 |ir _ _=>cases g
 |_=>exact nk e
theorem vx (d:aX ι H h){u:U}{v:V}{us:List U}(k:t_ ι H u v)(e:cK h u=Y us):∃ p vs,v=.aa p/\aY ι H us vs/\(gm kf.K H p vs\/eV kf.K H p vs):=by
 by_cases b:jd u=L
 .obtain⟨p,vs,c,r,z⟩:=jJ d k b e;rcases z with⟨_,_,q⟩ | ⟨_,q⟩
  .exact⟨p,vs,c,r,.inr (eV.of q)⟩
  .exact⟨p,vs,c,r,.inl (gm.of q)⟩
 .induction k using t_.casesOn with
  |dM z a=>
   rcases e
   refine⟨_,_,rfl,a,.inl ?_⟩;rcases z with⟨_,o,z⟩ | z
   .exact .inl (.inr ⟨o,z⟩)
   .exact .inr z
  |ir z a=>rcases e;exact⟨_,_,rfl,a,.inr (.inr z)⟩
  |_=>exact absurd rfl b
noncomputable def dy (h:MH):U->Option (List U)
 |.ag a=>Y a
 |.aa n=>match h[n]? with
  |some (.aa a)=>Y a
  |_=>O
 |_=>O
theorem jO (c:aX ι H h){u:U}{v:V}{us:List U}(k:t_ ι H u v)(e:dy h u=Y us):∃ p vs,v=.aa p/\H p=Y (.aa vs)/\aY ι H us vs:=by
 induction k using t_.casesOn with
 |ah j d f=>rcases e;exact⟨_,_,rfl,d,f⟩
 |@ae m a g=>
  unfold dy at e;dsimp only at e;cases b:h[m]? with
  |none=>rw[b]at e;exact nk e
  |some o=>
   rw[b]at e;have i:=c.ae g b;cases o with
   |aa l=>rcases e;obtain⟨vs,q,r⟩:=i;exact⟨a,vs,rfl,q,r⟩
   |_=>exact nk e
 |_=>exact nk e
noncomputable def b7 (h:MH):U->Option (Nat×List U)
 |.aa n=>match h[n]? with
  |some (.aa a)=>Y (n,a)
  |_=>O
 |_=>O
theorem g9 (d:aX ι H h){u:U}{v:V}{n:Nat}{us:List U}(k:t_ ι H u v)(e:b7 h u=Y (n,us)):∃ p vs,u=.aa n/\v=.aa p/\ι[n]?=Y p/\H p=Y (.aa vs)/\aY ι H us vs:=by
 induction k using t_.casesOn with
 |@ae m a c=>
  unfold b7 at e;dsimp only at e;cases b:h[m]? with
  |none=>rw[b]at e;exact nk e
  |some o=>
   rw[b]at e;have f:=d.ae c b;cases o with
   |aa g=>rcases e;obtain⟨vs,q,r⟩:=f;exact⟨a,vs,rfl,rfl,c,q,r⟩
   |_=>exact nk e
 |_=>exact nk e
end
def aI:M2:=λa b h=>match a,b with
 |.ab i,.ab j=>Y (.ab (i+j),h)
 |.ae x,.ae y=>if x.length+y.length<=p' then Y (.ae (x++y),h) else O
 |.af c,.af d=>if c.length+d.length<=p' then Y (.af (c++d),h) else O
 |a,b=>(dy h a).bind λp=>(dy h b).bind λq=>if p.length+q.length<=p' then Y (.aa h.length,h++[.aa (p++q)]) else O
instance LV:SO Er aI:=⟨λ{x y H Q a b ι h u A} d k f e q=>by
 have c:∀ {a b:U}{x y:V},t_ ι H a x->t_ ι H b y->((dy h a).bind λp=>(dy h b).bind λq=>if p.length+q.length<=p' then Y (U.aa h.length,h++[MO.aa (p++q)]) else O)=Y (u,A)->Er x y H Q:=λ{a b x y} k f e=>by
  obtain⟨T,B,e⟩:=c_ e;obtain⟨W,C,e⟩:=c_ e;obtain⟨hz,e⟩:=aD e
  rcases e
  obtain⟨p,D,rfl,E,t⟩:=jO d k B;obtain⟨F,m,rfl,G,v⟩:=jO d f C;refine .inr (.inr (.inl ⟨p,F,D,m,rfl,rfl,E,G,?_,λl I=>?_⟩))
  .rw[<-t.aa,<-v.aa];exact hz
  .obtain⟨o,r,s⟩:=fm d I (t.ae v);exact q _ _ _ o r s
 induction k using t_.casesOn with
 |aa=>
  induction f using t_.casesOn with
  |aa=>rcases e;exact .inl ⟨_,_,rfl,rfl,q _ _ _ .ab d .aa⟩
  |_=>exact nk e
 |ag=>
  induction f using t_.casesOn with
  |ag=>obtain⟨hz,e⟩:=aD (show(if _ then _ else O)=Y _ from e);rcases e;exact .inr (.inl ⟨_,_,rfl,rfl,hz,q _ _ _ .ab d .ag⟩)
  |_=>exact nk e
 |af g i=>
  induction f using t_.casesOn with
  |af w j=>
   obtain⟨hz,e⟩:=aD (show(if _ then _ else O)=Y _ from e)
   rcases e
   refine .inr (.inr (.inr ⟨_,_,_,_,rfl,rfl,g,w,by rw[<-i.aa,<-j.aa];exact hz,λz=>?_,λ_ z=>?_,λ_ _ p K=>?_⟩))
   .subst z;cases i;exact q _ _ _ .ab d (.af w j)
   .subst z;cases j;rw[XF]at q;exact q _ _ _ .ab d (.af g i)
   .obtain⟨o,r,s⟩:=kG d K (i.ae j);exact q _ _ _ o r s
  |_=>exact nk e
 |@ae n p N=>exact c (.ae N) f e
 |ah P g S=>exact c (.ah P g S) f e
 |_=>exact nk e⟩
noncomputable def ii (f:Int->Int->Option U):M2:=λa b h=>match a,b with | .ab i,.ab j=>(f i j).bind λu=>Y (u,h) | _,_=>O
theorem kq {f:Int->Int->Option U}{ι:List J}{H:Hp}{a b u:U}{x y:V}{h h':MH}(c:t_ ι H a x)(d:t_ ι H b y)(e:ii f a b h=Y (u,h')):∃ i j,x=.ab i/\y=.ab j/\f i j=Y u/\h'=h:=by
 induction c using t_.casesOn with
 |aa=>
  induction d using t_.casesOn with
  |aa=>obtain⟨w,g,k⟩:=c_ e;rcases k;exact⟨_,_,rfl,rfl,g,rfl⟩
  |_=>exact nk e
 |_=>exact nk e
instance OT {f:Int->Int->Int}:SO (Et λi j=>.ab (f i j)) (ii λi j=>Y (.ab (f i j))):=⟨λ{x y H Q a b ι h u l} c d g e q=>by
 obtain⟨i,j,rfl,rfl,k,rfl⟩:=kq d g e;rcases k;exact⟨i,j,rfl,rfl,q _ _ _ .ab c .aa⟩⟩
instance zO {f:Int->Int->Bool}:SO (Et λi j=>.bl (f i j)) (ii λi j=>Y (.bl (f i j))):=⟨λ{x y H Q a b ι h u l} c d g e q=>by
 obtain⟨i,j,rfl,rfl,k,rfl⟩:=kq d g e;rcases k;exact⟨i,j,rfl,rfl,q _ _ _ .ab c .bl⟩⟩
instance LY:SO (rI FT λi j=>.ab (i*j)) (ii λi j=>if (-(2 ^ 64)<i/\i<2 ^ 64)\/(-(2 ^ 64)<j/\j<2 ^ 64) then Y (.ab (i*j)) else O):=⟨λ{x y H Q a b ι h u l} c d f e q=>by
 obtain⟨i,j,rfl,rfl,g,rfl⟩:=kq d f e;obtain⟨hz,k⟩:=aD g;rcases k;exact⟨i,j,rfl,rfl,hz,q _ _ _ .ab c .aa⟩⟩
instance LX:SO (rI (λ_ j=>0<j) λi j=>.ab (i%j)) (ii λi j=>if 0<j then Y (.ab (i%j)) else O):=⟨λ{x y H Q a b ι h u l} c d f e q=>by
 obtain⟨i,j,rfl,rfl,g,rfl⟩:=kq d f e;obtain⟨hz,k⟩:=aD g;rcases k;exact⟨i,j,rfl,rfl,hz,q _ _ _ .ab c .aa⟩⟩
instance HE:SO (rI M5 λi j=>.ab (i/j)) (ii λi j=>if 0<j/\j<1073741824 then Y (.ab (i/j)) else O):=⟨λ{x y H Q a b ι h u l} c d f e q=>by
 obtain⟨i,j,rfl,rfl,g,rfl⟩:=kq d f e;obtain⟨hz,k⟩:=aD g;rcases k;exact⟨i,j,rfl,rfl,hz,q _ _ _ .ab c .aa⟩⟩
instance LZ:SO (rI M6 λi j=>.ab (i ^ j.toNat)) (ii λi j=>if 0<=j/\j<=1000000/\i.natAbs<2 ^ 64 then Y (.ab (i ^ j.toNat)) else O):=⟨λ{x y H Q a b ι h u l} c d f e q=>by
 obtain⟨i,j,rfl,rfl,g,rfl⟩:=kq d f e;obtain⟨hz,k⟩:=aD g;rcases k;exact⟨i,j,rfl,rfl,hz,q _ _ _ .ab c .aa⟩⟩
def dO:M2:=ii λi j=>Y (.ab (i-j))
def nV:M2:=ii λi j=>if (-(2 ^ 64)<i/\i<2 ^ 64)\/(-(2 ^ 64)<j/\j<2 ^ 64) then Y (.ab (i*j)) else O
def gX:M2:=ii λi j=>if 0<j then Y (.ab (i%j)) else O
def pX:M2:=ii λi j=>if 0<j/\j<1073741824 then Y (.ab (i/j)) else O
def ue:M2:=ii λi j=>if 0<=j/\j<=1000000/\i.natAbs<2 ^ 64 then Y (.ab (i ^ j.toNat)) else O
def GG:M2:=ii λi j=>Y (.bl (j' (i<j)))
def Tz:M2:=ii λi j=>Y (.bl (j' (i<=j)))
def PJ:M2:=ii λi j=>Y (.bl (j' (j<i)))
def PH:M2:=ii λi j=>Y (.bl (j' (j<=i)))
noncomputable def vI:M1:=λa h=>match a with | .ab i=>Y (.ab (-i),h) | _=>O
instance L4:SU (rU λi=>.ab (-i)) vI:=⟨λ{x H Q a ι h u d} b c e q=>by
 induction c using t_.casesOn with
 |aa=>rcases e;exact⟨_,rfl,q _ _ _ .ab b .aa⟩
 |_=>exact nk e⟩
noncomputable def d8 (neg:Bool):M2:=λa b h=>match b with
 |.aQ=>match a with | .aQ=>Y (.bl (!neg),h) | _=>Y (.bl neg,h)
 |_=>O
instance LW:SO (λx y H Q=>y=.aQ/\Q (.bl (j' (x=.aQ))) H) (d8 b_):=⟨λ{x y H Q a b ι h u g} c d f e q=>by
 induction f using t_.casesOn with
 |aQ=>
  cases d<;>cases e<;>exact⟨rfl,q _ _ _ .ab c .bl⟩
 |_=>exact nk e⟩
instance HG:SO (λx y H Q=>y=.aQ/\Q (.bl (!j' (x=.aQ))) H) (d8 L):=⟨λ{x y H Q a b ι h u g} c d f e q=>by
 induction f using t_.casesOn with
 |aQ=>
  cases d<;>cases e<;>exact⟨rfl,q _ _ _ .ab c .bl⟩
 |_=>exact nk e⟩
noncomputable def eR {c d:Type}(f:c->Option d):List c->Option (List d)
 |[]=>Y []
 |a::r=>(f a).bind λb=>(eR f r).bind λe=>Y (b::e)
noncomputable def aZ (h:MH):Nat->U->Option G_
 |0,u=>match u with
  |.aQ=>Y .none
  |.bl b=>Y (.bool b)
  |.ab i=>Y (.int i)
  |.ae x=>Y (.str x)
  |_=>O
 |n+1,u=>match u with
  |.aQ=>Y .none
  |.bl b=>Y (.bool b)
  |.ab i=>Y (.int i)
  |.ae x=>Y (.str x)
  |.af a=>(eR (aZ h n) a).bind λc=>Y (.tuple c)
  |.ag a=>(eR (aZ h n) a).bind λc=>Y (.list c)
  |.dM _=>O
  |.ir _=>O
  |.aa k=>match h[k]? with
   |some (.aa a)=>(eR (aZ h n) a).bind λc=>Y (.list c)
   |_=>O
theorem pT {ι:List J}{H:Hp}{h:MH}{n:Nat}(f:∀ {u:U}{v:V}{d:G_},t_ ι H u v->aZ h n u=Y d->DV H v d/\d.depth<=n):∀ {us:List U}{vs:List V}{b:List G_},aY ι H us vs->eR (aZ h n) us=Y b->BR H vs b/\abO b<=n
 |_,_,_,.nil,e=>by rcases e;exact⟨.nil,Xl _⟩
 |_,_,_,.ab a r,e=>by
  obtain⟨d,c,e⟩:=c_ e;obtain⟨b,g,e⟩:=c_ e
  rcases e
  obtain⟨i,j⟩:=f a c;obtain⟨k,l⟩:=pT f r g;exact⟨.aa i k,Nat.max_le.mpr ⟨j,l⟩⟩
theorem oo {ι:List J}{H:Hp}{h:MH}(g:aX ι H h):∀ (n:Nat) {u:U}{v:V}{d:G_},t_ ι H u v->aZ h n u=Y d->DV H v d/\d.depth<=n
 |0,_,_,_,k,e=>by
  induction k using t_.casesOn with
  |aQ=>rcases e;exact⟨.aQ,Xl _⟩
  |bl=>rcases e;exact⟨.bl,Xl _⟩
  |aa=>rcases e;exact⟨.ab,Xl _⟩
  |ag=>rcases e;exact⟨.ae,Xl _⟩
  |_=>exact nk e
 |n+1,_,_,_,k,e=>by
  induction k using t_.casesOn with
  |aQ=>rcases e;exact⟨.aQ,Xl _⟩
  |bl=>rcases e;exact⟨.bl,Xl _⟩
  |aa=>rcases e;exact⟨.ab,Xl _⟩
  |ag=>rcases e;exact⟨.ae,Xl _⟩
  |af i j=>
   obtain⟨s,b,e⟩:=c_ (show(eR (aZ h n) _).bind _=Y _ from e)
   rcases e
   obtain⟨c,f⟩:=pT (λk e=>oo g n k e) j b;exact⟨.af (.inl i) c,aau f⟩
  |ah x i j=>
   obtain⟨s,b,e⟩:=c_ (show(eR (aZ h n) _).bind _=Y _ from e)
   rcases e
   obtain⟨c,f⟩:=pT (λk e=>oo g n k e) j b;exact⟨.aa (.inl i) c,aau f⟩
  |dM _ _=>exact nk e
  |ir _ _=>exact nk e
  |@ae m a t=>
   unfold aZ at e;dsimp only at e;cases l:h[m]? with
   |none=>rw[l]at e;exact nk e
   |some o=>
    rw[l]at e;have w:=g.ae t l;cases o with
    |aa y=>
     obtain⟨s,b,e⟩:=c_ e
     rcases e
     obtain⟨z,q,r⟩:=w;obtain⟨c,f⟩:=pT (λk e=>oo g n k e) r b;exact⟨.aa (.inl q) c,aau f⟩
    |dK p=>exact nk e
    |dT p=>exact nk e
    |ab C A=>exact nk e
def bh (neg:Bool):M2:=λa b h=>(aZ h Dp a).bind λd=>(aZ h Dp b).bind λe=>Y (.bl (if neg then !F' d e else F' d e),h)
instance Jd {neg:Bool}:SO (Lg neg) (bh neg):=⟨λ{x y H Q a b ι h u o} c f g e q=>by
 obtain⟨d,i,e⟩:=c_ e;obtain⟨j,k,e⟩:=c_ e
 rcases e
 obtain⟨l,m⟩:=oo c _ f i;obtain⟨n,p⟩:=oo c _ g k;exact⟨d,j,l,n,Xi (Nat.min_le_left _ _) m,q _ _ _ .ab c .bl⟩⟩
def Dn (neg:Bool):M2:=λa b h=>(aZ h Dp a).bind λd=>if jd b=L then(cK h b).bind λf=>(eR (aZ h Dp) f).bind λc=>Y (.bl (if neg then !c.any (λe=>F' e d) else c.any λe=>F' e d),h) else O
instance T7 {neg:Bool}:SO (Hi neg) (Dn neg):=⟨λ{x y H Q a b ι h u w} c f g e q=>by
 obtain⟨d,i,e⟩:=c_ e;obtain⟨j,e⟩:=aD e;obtain⟨A,l,e⟩:=c_ e;obtain⟨m,n,e⟩:=c_ e
 rcases e
 obtain⟨o,s⟩:=oo c _ f i;obtain⟨p,t,rfl,r,z⟩:=jJ c g j l;obtain⟨v,B⟩:=pT (λk e=>oo c _ k e) r n;refine⟨p,t,d,m,rfl,?_,o,v,s,q _ _ _ .ab c .bl⟩;rcases z with⟨_,_,z⟩ | ⟨_,z⟩
 .exact .inr (.inl z)
 .exact .inl (.inl z)⟩
theorem aY.iw {ι:List J}{H:Hp}{us:List U}{vs:List V}{i:Int}{u:U}(r:aY ι H us vs)(e:L2.iw us i=Y u):∃ v,L2.iw vs i=Y v/\t_ ι H u v:=by
 unfold L2.iw at e ⊢;rw[<-r.aa];obtain⟨j,a,b⟩:=c_ e;rw[a];exact r.ag b
def tU:M2:=λa b h=>match b with
 |.ab i=>match a with
  |.ae z=>if z.length<=p' then(L2.iw z.cps.toList i).bind λc=>Y (.ae ⟨#[c]⟩,h) else O
  |a=>(cK h a).bind λd=>(L2.iw d i).bind λu=>Y (u,h)
 |_=>O
instance T8:SO (Oj kf.K) tU:=⟨λ{x y H Q a b ι h u o} f j s e q=>by
 induction s using t_.casesOn with
 |@aa i=>
  have d:((cK h a).bind λk=>(L2.iw k i).bind λu=>Y (u,h))=Y (u,o)->Oj kf.K x (.ab i) H Q:=λe=>by
   obtain⟨k,g,e⟩:=c_ e;obtain⟨w,t,e⟩:=c_ e
   rcases e
   obtain⟨p,l,rfl,r,z⟩:=vx f j g;obtain⟨v,m,n⟩:=r.iw t;rcases z with z | z
   .exact .inl ⟨p,l,i,v,rfl,rfl,z,m,q _ _ _ .ab f n⟩
   .exact .inr (.inl ⟨p,l,i,v,rfl,rfl,z,m,q _ _ _ .ab f n⟩)
  induction j using t_.casesOn with
  |@ag z=>
   obtain⟨hz,e⟩:=aD (show(if z.length<=p' then _ else O)=Y _ from e);obtain⟨c,g,e⟩:=c_ e
   rcases e
   exact .inr (.inr ⟨z,i,c,rfl,rfl,hz,g,q _ _ _ .ab f .ag⟩)
  |_=>exact d e
 |_=>exact nk e⟩
def yj:U->U->U->MH->Option MH:=λa b c h=>match b with
 |.ab k=>(b7 h a).bind λp=>(L2.BV p.2.length k).bind λj=>Y (h.set p.1 (.aa (p.2.set j c)))
 |_=>O
instance Bx:SSet Eu yj:=⟨λ{x y z H Q a b c ι h w} d i l m e q=>by
 induction l using t_.casesOn with
 |@aa k=>
  obtain⟨⟨n,A⟩,o,e⟩:=c_ (show(b7 h a).bind _=Y _ from e);obtain⟨j,r,e⟩:=c_ e
  rcases e
  obtain⟨p,s,rfl,rfl,t,f,g⟩:=g9 d i o;obtain⟨u,v⟩:=gO d t f (aY.aw m j g);exact⟨p,s,k,j,rfl,rfl,f,by rw[<-g.aa];exact r,q _ _ u v⟩
 |_=>exact nk e⟩
noncomputable def qf (n:Nat):pF:=λi h=>match h[n]? with
 |some (.aa a)=>Y a[i]?
 |_=>O
noncomputable def lX (us:List U):pF:=λi _=>Y us[i]?
noncomputable def Q_ (a:Int)(n:Nat):pF:=λi _=>if i<n then Y (Y (.ab (a+i))) else Y O
def cy (a:ME):MI:=λc h=>(a c h).bind λp=>match p.1 with
 |.af b=>Y (lX b,p.2)
 |.ag b=>Y (lX b,p.2)
 |.dM b=>Y (lX b,p.2)
 |.ir b=>Y (lX b,p.2)
 |.aa n=>match p.2[n]? with
  |some (.aa _)=>Y (qf n,p.2)
  |_=>O
 |_=>O
theorem J4 {b:List J}{H:Hp}{h:MH}{a:J}{us:List U}{vs:List V}(c:aX b H h)(e:H a=Y (.ab vs))(r:aY b H us vs):wD b H (Pp kf.K a) (lX us):=by
 intro f m n i x g;have e':=(x.kp c).ab e;have j:=r.af (x.kp c);refine⟨λq=>⟨vs,eV.of e',?_⟩,λu q=>?_⟩
 .have q':us[i]?=none:=Xe q;rw[<-r.aa];exact XA.mp q'
 .have q':us[i]?=Y u:=Xe q;obtain⟨v,d,k⟩:=j.ag q';refine⟨⟨vs,v,eV.of e',d⟩,λo p y=>?_⟩;obtain⟨l,y⟩:=y;subst l;have:=y vs (eV.of e');rw[d]at this;rcases this;exact⟨.ab,g,k⟩
theorem J3 {b:List J}{H:Hp}{h:MH}{a:J}{us:List U}{vs:List V}(d:aX b H h)(g:a∉b)(e:H a=Y (.aa vs))(r:aY b H us vs):wD b H (B0 kf.K a) (lX us):=by
 intro j l t i x m;have e':=((x.kp d).aa g e).1;have n:=r.af (x.kp d);have p:∀ {c:List V},Rd l a (.aa c)->c=vs:=λ{c} z=>by
  rcases z with z | ⟨o,z⟩<;>(rw[e']at z;cases z);rfl
 refine⟨λq=>⟨vs,gm.of e',?_⟩,λu q=>?_⟩
 .have q':us[i]?=none:=Xe q;rw[<-r.aa];exact XA.mp q'
 .have q':us[i]?=Y u:=Xe q;obtain⟨v,f,k⟩:=n.ag q';refine⟨⟨vs,v,gm.of e',f⟩,λw A y=>?_⟩;obtain⟨s,y⟩:=y;subst s;have:=y vs (gm.of e');rw[f]at this;rcases this;exact⟨.ab,m,k⟩
theorem Dt {c:List J}{H:Hp}{h:MH}{a:J}{us:List U}{vs:List V}(e:aX c H h)(st:∀ b H',B_ c H b H'->gm kf.K H' a vs)(r:aY c H us vs):wD c H (B0 kf.K a) (lX us):=by
 intro b H' l i x f;have e':=st _ _ x;have g:=r.af (x.kp e);refine⟨λq=>⟨vs,e',?_⟩,λu q=>?_⟩
 .have q':us[i]?=none:=Xe q;rw[<-r.aa];exact XA.mp q'
 .have q':us[i]?=Y u:=Xe q;obtain⟨v,d,k⟩:=g.ag q';refine⟨⟨vs,v,e',d⟩,λm n y=>?_⟩;obtain⟨j,y⟩:=y;subst j;have:=y vs e';rw[d]at this;rcases this;exact⟨.ab,f,k⟩
theorem Gu {b:List J}{H:Hp}{h:MH}{a:J}{us:List U}{vs:List V}(d:aX b H h)(st:∀ H',eV kf.K H' a vs)(r:aY b H us vs):wD b H (Pp kf.K a) (lX us):=by
 intro e H' l i x f;have e':=st H';have g:=r.af (x.kp d);refine⟨λq=>⟨vs,e',?_⟩,λu q=>?_⟩
 .have q':us[i]?=none:=Xe q;rw[<-r.aa];exact XA.mp q'
 .have q':us[i]?=Y u:=Xe q;obtain⟨v,c,k⟩:=g.ag q';refine⟨⟨vs,v,e',c⟩,λm n y=>?_⟩;obtain⟨j,y⟩:=y;subst j;have:=y vs e';rw[c]at this;rcases this;exact⟨.ab,f,k⟩
theorem Gv {s:List J}{H:Hp}{a:J}{n:Nat}(B:s[n]?=Y a):wD s H (B0 kf.K a) (qf n):=by
 intro c g d i x t;have MM:=x.at B;have j:∀ {us:List U},cK d (.aa n)=Y us->qf n i d=Y us[i]?->(qf n i d=Y O->(B0 kf.K a).aa i g)/\∀ u,qf n i d=Y (Y u)->(B0 kf.K a).go i g/\∀ v f,(B0 kf.K a).ab i g v f->B_ c g c f/\aX c f d/\t_ c f u v:=λ{us} D w=>by
  obtain⟨p,l,E,r,z⟩:=jJ t (.ae MM) rfl D;cases E;rcases z with⟨F,_⟩ | ⟨_,z⟩
  .cases F
  refine⟨λq=>⟨l,gm.of z,?_⟩,λu q=>?_⟩
  .rw[w]at q;rw[<-r.aa];exact XA.mp (Xe q)
  .rw[w]at q;obtain⟨v,A,k⟩:=r.ag (Xe q);refine⟨⟨l,v,gm.of z,A⟩,λN f y=>?_⟩;obtain⟨G,y⟩:=y;subst G;have:=y l (gm.of z);rw[A]at this;rcases this;exact⟨.ab,t,k⟩
 have b:qf n i d=O->(qf n i d=Y O->(B0 kf.K a).aa i g)/\∀ u,qf n i d=Y (Y u)->(B0 kf.K a).go i g/\∀ v f,(B0 kf.K a).ab i g v f->B_ c g c f/\aX c f d/\t_ c f u v:=λe=>⟨λq=>(by rw[e]at q;cases q),λu q=>(by rw[e]at q;cases q)⟩
 cases h:d[n]? with
 |none=>exact b (by unfold qf;rw[h])
 |some o=>
  cases o with
  |aa I=>exact j (us:=I) (by unfold cK;dsimp only;rw[h]) (by unfold qf;rw[h])
  |dK m=>exact b (by unfold qf;rw[h])
  |dT m=>exact b (by unfold qf;rw[h])
  |ab C P=>exact b (by unfold qf;rw[h])
theorem Du {c:List J}{H:Hp}{b:Int}{n:Nat}:wD c H (Nb b n) (Q_ b n):=by
 intro d g h i x f;unfold Q_;by_cases a:i<n
 .rw[W0 a];refine⟨(λq=>nomatch q),λu q=>?_⟩;cases q;refine⟨a,λv j y=>?_⟩;obtain⟨e,y⟩:=y;subst e;subst y;exact⟨.ab,f,.aa⟩
 .rw[W5 a];exact⟨λ_=>ade a,(λu q=>nomatch q)⟩
instance R7 {ta:TE}{ma:ME}[A:SE ta ma]:SI (JU kf.K ta) (cy ma):=⟨λ{G H afi y I h N P} g i e q=>by
 obtain⟨⟨u,B⟩,j,e⟩:=c_ e;dsimp only at e;cases u with
 |af p=>
  rcases e
  refine .inr (A.go g i j λc l m b a d=>?_);cases d with
  |af k f=>exact⟨_,rfl,⟨_,eV.of k⟩,q _ _ _ b a (J4 a k f)⟩
 |ag p=>
  rcases e
  refine .inl (A.go g i j λc l m b a d=>?_);cases d with
  |ah D k f=>exact⟨_,rfl,⟨_,gm.of k⟩,q _ _ _ b a (J3 a D k f)⟩
 |dM p=>rcases e;exact .inl (A.go g i j λc l m b a d=>by
   cases d with
   |dM z f=>
    rcases z with⟨n,o,z⟩ | z
    .exact⟨_,rfl,⟨_,.inl (.inr ⟨o,z⟩)⟩,q _ _ _ b a (Dt a (λr v x=>.inl (.inr ⟨o,x.ae _ _ n z⟩)) f)⟩
    .exact⟨_,rfl,⟨_,.inr z⟩,q _ _ _ b a (Dt a (λr v x=>.inr z) f)⟩)
 |ir p=>rcases e;exact .inr (A.go g i j λc l m b a d=>by
   cases d with
   |ir z f=>exact⟨_,rfl,⟨_,.inr z⟩,q _ _ _ b a (Gu a (λv=>.inr z) f)⟩)
 |aa n=>
  dsimp only at e;refine .inl (A.go g i j λc l m b a d=>?_);cases d with
  |ae w=>
   cases s:B[n]? with
   |none=>rw[s]at e;exact nk e
   |some o=>
    rw[s]at e;have E:=a.ae w s;cases o with
    |aa Q=>rcases e;obtain⟨F,z,_⟩:=E;exact⟨_,rfl,⟨F,gm.of z⟩,q _ _ _ b a (Gv w)⟩
    |dK t=>exact nk e
    |dT t=>exact nk e
    |ab C S=>exact nk e
 |_=>exact nk e⟩
def dz (a:MA):MI:=λb h=>(a b h).bind λp=>match p.1 with
 |[.ab j]=>if -(2 ^ 62)<=j/\j<2 ^ 62 then Y (Q_ 0 j.toNat,p.2) else O
 |_=>O
def rS (a:MA):MI:=λb h=>(a b h).bind λp=>match p.1 with
 |[.ab i,.ab j]=>if -(2 ^ 62)<=i/\i<2 ^ 62/\-(2 ^ 62)<=j/\j<2 ^ 62 then Y (Q_ i (j-i).toNat,p.2) else O
 |_=>O
instance Qc {t:TA}{a:MA}[A:SA t a]:SI (Dl t) (dz a):=⟨λ{p H afi m r h s u} d f e q=>by
 obtain⟨⟨g,v⟩,j,e⟩:=c_ e;refine A.go d f j λn w x k l c=>?_
 dsimp only at e;have o:∃ i,g=[.ab i]:=by
  clear c k l q j d f;rcases g with _ | ⟨a,_ | ⟨b,_⟩⟩
  .exact nk e
  .cases a<;>first | exact nk e | exact⟨_,rfl⟩
  .cases a<;>exact nk e
 obtain⟨i,rfl⟩:=o;obtain _ | ⟨c,_ | _⟩:=c
 cases c;obtain⟨hz,e⟩:=aD e
 rcases e
 exact⟨_,rfl,hz.1,hz.2,q _ _ _ k l Du⟩⟩
instance Qd {t:TA}{a:MA}[A:SA t a]:SI (Dm t) (rS a):=⟨λ{s H afi n u h v w} d f e q=>by
 obtain⟨⟨g,x⟩,k,e⟩:=c_ e;refine A.go d f k λo y z l m c=>?_
 dsimp only at e;have p:∃ i j,g=[.ab i,.ab j]:=by
  clear c l m q k d f;rcases g with _ | ⟨a,_ | ⟨b,_ | ⟨_,_⟩⟩⟩
  .exact nk e
  .cases a<;>exact nk e
  .cases a<;>first | exact nk e | skip
   cases b<;>first | exact nk e | exact⟨_,_,rfl⟩
  .cases a<;>first | exact nk e | (cases b<;>exact nk e)
 obtain⟨i,j,rfl⟩:=p;obtain _ | ⟨c,_ | ⟨r,_ | _⟩⟩:=c
 cases c;cases r;obtain⟨hz,e⟩:=aD e
 rcases e
 exact⟨_,_,rfl,hz,q _ _ _ l m Du⟩⟩
end S
namespace L2
open PySem PySem.Spec PyProof.Rows
theorem E6 {b:Int}:∀ {ns:List Int},(∀ n∈ns,0<=n/\n<=b)->0<=ns.sum/\ns.sum<=ns.length*b
 |[],_=>by simp
 |n::r,h=>by
  have c:=h n XI;have d:=E6 (ns:=r) λx a=>h x (Xt _ a)
  have e:(((r.length+1:Nat):Int))*b=r.length*b+b:=by
   rw[Int.natCast_add,Int.add_mul];simp
  rw[aak,Xa,e];lia
section
variable {X:Cx}
theorem CA (D:X.ag=L):eL X (.builtin "sum") (λxs H Q=>∃ p,∃ ns:List Int,xs=[.aa p]/\gm X.K H p (ns.map V.ab)/\ns.length<=1000/\(∀ n∈ns,0<=n/\n<=1000)/\Q (.ab ns.sum) H):=by
 intro m s W H xs Z Q I r h;obtain⟨p,ns,rfl,E,y,c,q⟩:=h;obtain⟨u,rfl,F⟩:=WS r;cases F;obtain⟨a,B,g,hz⟩:=I.aj E;have G:=B.aa;rw[Xw]at G;refine call_sum_walk (aeB g.isList ?_);have d:p<s.heap.objs.size:=by
  obtain⟨o,e,_⟩:=g.isList;exact Xh e
 refine⟨s.heap.objs.size,_,_,a.toArray.size,_,_,λi=>ns.getD i 0,rfl,Walks.list (show X.A.in1.handled=O from I.ok.hd D) s.heap.objs.size p (Xs d) a.toArray,⟨⟨_,Xo _ rfl,rfl,rfl⟩,?_⟩,?_,?_,?_,?_⟩
 .obtain⟨o,e,z⟩:=g.isList;exact⟨o,W7 _ e,z⟩
 .intro b c;show b<(s.heap.push _).objs.size;rw[aaH];simp only[Xj,ac0,or_false]at c;rcases c with e | e
  .rw[e];exact Y8 _
  .rw[e];exact adf d
 .intro i v N;have Tc:a[i]?=Y v:=by simpa using N
  have hi:i<a.length:=(W2.mp Tc).1;have NM:i<ns.length:=by lia
  obtain⟨w,C,l⟩:=B.ae (i:=i) (x:=V.ab ns[i]) (by rw[Xd,W6 NM];rfl);rw[Tc]at C
  rcases C
  obtain⟨t,e⟩:=l;refine⟨t,?_⟩;show v=YY (ns.getD i 0) t;rw[e,abq,W6 NM];rfl
 .intro j P;rw[aet];have S8:j<ns.length:=by rw[Xc]at P;lia
  have h1:=c (ns.getD j 0) (by rw[abq,W6 S8];exact XY S8);have h2:=E6 (ns:=ns.take (j+1)) (b:=1000) λx S=>c x (List.mem_of_mem_take S)
  have h3:(ns.take (j+1)).length<=1000:=by rw[X1];lia
  have h4:((ns.take (j+1)).length:Int)*1000<=1000000:=by lia
  have T:-(2 ^ 63)<=ns.getD j 0/\ns.getD j 0<2 ^ 63:=⟨by lia,by lia⟩;exact⟨T,⟨by lia,by lia⟩⟩
 .intro h' U t' k;refine⟨.ab ns.sum,H,?_,⟨t',?_⟩,q⟩
  .refine(I.ai (t':=s.toks) (h':=s.heap.push _) λb o e=>W7 _ e).ah (it:=s.heap.objs.size) (h':=h') (t':=U) (λb o c e=>k b o (by simpa using c) e) (I.aa.aa (WY _)) ?_ ?_ ?_ ?_
   all_goals have f:=I.tI (H':=H) (WY s.heap.objs.size) (I.aa.aa (WY _))
   .exact f.2.1
   .exact f.2.2.2.1
   .exact f.2.2.2.2.1
   .exact f.2.2.2.2.2
  .rw[aet,X6 (by rw[Xc];lia)]
end
end L2
namespace S
open PySem L2
variable [kf:KF]
instance OM {ix:List (Option Nat)}{B:TI}{g:TG}{E:TT}{F:TE}{mi:MI}{n:MG}{c:MT}{a:ME}[I:SI B mi][G:SG g n][C:ST E c][A:SE F a]:SE (yp ix B g E F) (di ix mi n c a):=⟨λ{σ H Q σu ι h u K} N P e q=>by
 obtain⟨⟨S,j⟩,e1,e⟩:=c_ e;obtain⟨h2,e2,e⟩:=c_ e;cases e;refine I.go N P e1 λb T afg U V jr D hD=>?_
 obtain⟨k,y2,y3⟩:=fm V hD .nil;have W:(b++[D])[j.length]?=Y D:=by rw[<-V.aa];simp
 refine⟨CW S n c a j.length (b++[D]) (m_ T D (.aa [])) K,⟨FU,_,_,_,.ab,y2,(N.aa ((U.aa k).kp P)).ae ix,e2⟩,?_⟩;rintro i m σ2 H2 ⟨l,X,h3,f,p,s2,Z⟩;cases m with
 |zero=>exact nk Z
 |succ m=>
  obtain⟨o,e3,e4⟩:=c_ Z;obtain⟨j1,j2⟩:=jr l H2 h3 i (k.aa f) p;cases o with
  |none=>
   rcases e4
   exact .inl ⟨j1 e3,q _ _ _ (U.aa (k.aa f)) p (.ae (f.at W))⟩
  |some x=>
   obtain⟨go,yl⟩:=j2 x e3;obtain⟨⟨r,h5⟩,e5,e6⟩:=c_ e4;obtain⟨⟨k6,h6⟩,e7,d⟩:=c_ e6;refine .inr ⟨go,CW S n c a j.length (b++[D]) (m_ T D (.aa [])) K (i+1) m,λσ3 H3 w=>⟨m,Y8 m,w⟩,λv H3 yy=>?_⟩;obtain⟨x3,r3,k3⟩:=yl v H3 yy;refine G.go (s2.aa (x3.kp p)) r3 k3 e5 λι4 H4 σ4 x4 r4 s4=>?_
   refine C.go s4 r4 e7 λs H6 x6 t=>?_
   dsimp only at d ⊢;have z:=s4.aa (x6.kp r4);have xx:=(((f.aa x3).aa x4).aa x6);cases k6 with
   |true=>
    rw[W0 rfl]at d ⊢;obtain⟨⟨y,h9⟩,e9,d⟩:=c_ d;refine A.go z t e9 λι5 H5 v5 x5 r5 k5=>?_
    exact uZ (xx.aa x5) W r5 k5 (z.aa (x5.kp t)) d
   |false=>
    rw[W5 Xb]at d ⊢;exact⟨s,r,h6,xx,t,z,d⟩⟩
abbrev sN:=bu->MH->Option (Option Int×MH)
class Jm (t:TO)(m:outParam sN):Prop where
 go:∀ {σ:St}{H:Hp}{Q:Option Int->Hp->Prop}{σu:bu}{ι:List J}{h:MH}{o:Option Int}{h':MH},de ι H σu σ->aX ι H h->m σu h=Y (o,h')->(∀ ι' H',B_ ι H ι' H'->aX ι' H' h'->Q o H')->t σ H Q
noncomputable def bo:sN:=λ_ h=>Y (O,h)
noncomputable def b8 (a:ME):sN:=λb h=>(a b h).bind λp=>match p.1 with | .ab i=>Y (Y i,p.2) | _=>O
instance OU:Jm fu bo:=⟨λb a e q=>by rcases e;exact q _ _ .ab a⟩
instance OV {t:TE}{a:ME}[A:SE t a]:Jm (wh t) (b8 a):=⟨λ{l H Q b m h o n} c d e q=>by
 obtain⟨⟨x,p⟩,f,e⟩:=c_ e;refine A.go c d f λg r s i j k=>?_
 induction k using t_.casesOn with
 |aa=>rcases e;exact⟨_,rfl,q _ _ i j⟩
 |_=>exact nk e⟩
def u0 (us:List U)(a b:Option Int):List U:=(us.drop (HT.eT us.length 0 a)).take (HT.eT us.length us.length b-HT.eT us.length 0 a)
def BX:U->Option Int->Option Int->MH->Option (U×MH):=λa c d h=>match a with
 |.af b=>if HT.eT b.length 0 c=0/\HT.eT b.length b.length d=b.length then O else Y (.af (u0 b c d),h)
 |.ae z=>if z.length<=p' then Y (.ae (WW z c d),h) else O
 |.ag b=>Y (.aa h.length,h++[.aa (u0 b c d)])
 |.dM _=>O
 |.ir _=>O
 |a=>(cK h a).bind λb=>Y (.aa h.length,h++[.aa (u0 b c d)])
theorem aY.aq {a:List J}{H:Hp}{us:List U}{vs:List V}(r:aY a H us vs)(b c:Option Int):aY a H (u0 us b c) (u2 vs b c):=by
 unfold u0 u2;rw[<-r.aa];exact(r.aj _).take _
theorem OR {m:List J}{H:Hp}{h h':MH}{a u:U}{x:V}{c d:Option Int}{Q:VK}(f:aX m H h)(t:t_ m H a x)(e:BX a c d h=Y (u,h'))(q:∀ b H' v,B_ m H b H'->aX b H' h'->t_ b H' u v->Q v H'):Hk kf.K x c d H Q:=by
 induction t using t_.casesOn with
 |af o l=>
  unfold BX at e;dsimp only at e;split at e
  .exact nk e
  .rename_i s
   rcases e
   refine .inr (.inl ⟨_,_,rfl,eV.of o,by rw[<-l.aa];exact s,λp g=>?_⟩);obtain⟨i,j,k⟩:=kG f g (l.aq c d);exact q _ _ _ i j k
 |@ag z=>
  obtain⟨hz,e⟩:=aD (show(if z.length<=p' then _ else O)=Y _ from e)
  rcases e
  exact .inr (.inr ⟨z,rfl,hz,q _ _ _ .ab f .ag⟩)
 |@ae n a s=>
  obtain⟨C,w,e⟩:=c_ (show(cK h (.aa n)).bind _=Y _ from e)
  rcases e
  obtain⟨p,y,A,r,z⟩:=jJ f (.ae s) rfl w;cases A;rcases z with⟨B,_⟩ | ⟨_,z⟩
  .cases B
  refine .inl ⟨_,y,rfl,gm.of z,λp g=>?_⟩;obtain⟨i,j,k⟩:=fm f g (r.aq c d);exact q _ _ _ i j k
 |ah D o l=>
  rcases e
  refine .inl ⟨_,_,rfl,gm.of o,λp g=>?_⟩;obtain⟨i,j,k⟩:=fm f g (l.aq c d);exact q _ _ _ i j k
 |_=>exact nk e
def lS (a:ME)(c d:sN):ME:=λb h=>(a b h).bind λp=>(c b p.2).bind λl=>(d b l.2).bind λk=>BX p.1 l.1 k.1 k.2
instance T5 {ta:TE}{g i:TO}{a:ME}{j m:sN}[A:SE ta a][B:Jm g j][C:Jm i m]:SE (Sn (Hk kf.K) ta g i) (lS a j m):=⟨λ{P H Q p S h u T} b c e q=>by
 obtain⟨⟨x,U⟩,r,e⟩:=c_ e;obtain⟨⟨l,V⟩,s,e⟩:=c_ e;obtain⟨⟨k,W⟩,t,e⟩:=c_ e;refine A.go b c r λv X Z d n w=>?_
 refine B.go (b.aa (d.kp c)) n s λy H2 f z=>?_
 refine C.go (b.aa ((d.aa f).kp c)) z t λD H3 o E=>?_
 exact OR E (w.ab ((f.aa o).kp n)) e λF H4 v4 G I N=>q _ _ _ (((d.aa f).aa o).aa G) I N⟩
def zV:U->Option Int->MH->Option (U×MH):=λa c h=>match c with
 |some c=>if c=1\/c=-1 then(dy h a).bind λb=>Y (.aa h.length,h++[.aa (O' b c)]) else O
 |none=>O
def zt (a:ME)(st:sN):ME:=λb h=>(a b h).bind λp=>(st b p.2).bind λk=>zV p.1 k.1 k.2
theorem aY.au {a:List J}{H:Hp}{us:List U}{vs:List V}(r:aY a H us vs)(c:Int):aY a H (L2.O' us c) (L2.O' vs c):=by
 unfold L2.O';split
 .exact r
 .exact r.ah
instance P6 {ta:TE}{ts:TO}{a:ME}{st:sN}[A:SE ta a][B:Jm ts st]:SE (Fp (yc kf.K) ta fu fu ts) (zt a st):=⟨λ{k H Q m P h u S} b d e q=>by
 obtain⟨⟨x,T⟩,n,e⟩:=c_ e;obtain⟨⟨l,U⟩,o,e⟩:=c_ e;refine A.go b d n λs t V f g v=>?_
 show ts k t _;refine B.go (b.aa (f.kp d)) g o λw W i j=>?_
 unfold zV at e;dsimp only at e;cases l with
 |none=>exact nk e
 |some c=>
  obtain⟨y,e⟩:=aD e;obtain⟨X,C,e⟩:=c_ e
  rcases e
  obtain⟨p,D,E,z,r⟩:=jO j (v.ab (i.kp g)) C;subst E;refine⟨_,D,c,rfl,rfl,rfl,rfl,y,gm.of z,λp F=>?_⟩;obtain⟨G,I,N⟩:=fm j F (r.au c);exact q _ _ _ ((f.aa i).aa G) I N⟩
noncomputable def eB (f:MF)(a:MA):ME:=λb h=>(a b h).bind λp=>f p.1 p.2
instance Jc {r:List V->Hp->VK->Prop}{f:MF}{t:TA}{m:MA}[F:SC r f][A:SA t m]:SE (OZ r t) (eB f m):=⟨λ{s H Q a v h u w} b c e q=>by
 obtain⟨⟨x,y⟩,d,e⟩:=c_ e;refine A.go b c d λg z B i j k=>?_
 exact F.go j k e λl C D n o p=>q _ _ _ (i.aa n) o p⟩
def Oq (K:r_):List V->Hp->VK->Prop:=λb H Q=>(∃ p c,b=[.aa p]/\(gm K H p c\/eV K H p c)/\Q (.ab c.length) H)\/(∃ z,b=[.ae z]/\z.length<=p'/\Q (.ab z.length) H)\/(∃ d a,b=[.aa d]/\H d=Y (.dK a)/\Q (.ab a.length) H)
noncomputable def fj:MF:=λc h=>match c with
 |[.ae z]=>if z.length<=p' then Y (.ab z.length,h) else O
 |[.aa n]=>match h[n]? with
  |some (.dK b)=>Y (.ab b.length,h)
  |some (.aa a)=>Y (.ab a.length,h)
  |_=>O
 |[.af a]=>Y (.ab a.length,h)
 |[.ag a]=>Y (.ab a.length,h)
 |[.dM a]=>Y (.ab a.length,h)
 |[.ir a]=>Y (.ab a.length,h)
 |_=>O
theorem b9.af {a:Type}{b:List J}{H:Hp}:∀ {us:List (a×U)}{vs:List (a×V)},b9 b H us vs->us.length=vs.length
 |_,_,.nil=>rfl
 |_,_,.aa _ r=>congrArg Y9 r.af
instance LA:SC (Oq kf.K) fj:=⟨λ{s H Q d t h u v} b k e q=>by
 rcases d with _ | ⟨j,_ | ⟨w,_⟩⟩
 .exact nk e
 rotate_left
 .cases j<;>exact nk e
 obtain _ | ⟨m,_ | _⟩:=k
 induction m using t_.casesOn with
 |@ag z=>obtain⟨hz,e⟩:=aD (show(if z.length<=p' then _ else O)=Y _ from e);rcases e;exact .inr (.inl ⟨z,rfl,hz,q _ _ _ .ab b .aa⟩)
 |af f c=>rcases e;refine .inl ⟨_,_,rfl,.inr (eV.of f),?_⟩;rw[<-c.aa];exact q _ _ _ .ab b .aa
 |ah x f c=>rcases e;refine .inl ⟨_,_,rfl,.inl (gm.of f),?_⟩;rw[<-c.aa];exact q _ _ _ .ab b .aa
 |@dM a _ vs z c=>
  rcases e
  have sq:gm kf.K H a vs:=by
   rcases z with⟨_,o,z⟩ | z
   .exact .inl (.inr ⟨o,z⟩)
   .exact .inr z
  refine .inl ⟨_,_,rfl,.inl sq,?_⟩;rw[<-c.aa];exact q _ _ _ .ab b .aa
 |ir z c=>rcases e;refine .inl ⟨_,_,rfl,.inr (.inr z),?_⟩;rw[<-c.aa];exact q _ _ _ .ab b .aa
 |@ae n _ p=>
  unfold fj at e;dsimp only at e;cases g:h[n]? with
  |none=>rw[g]at e;exact nk e
  |some o=>
   rw[g]at e;have l:=b.ae p g;cases o with
   |aa d=>rcases e;obtain⟨vs,z,r⟩:=l;refine .inl ⟨_,_,rfl,.inl (gm.of z),?_⟩;rw[<-r.aa];exact q _ _ _ .ab b .aa
   |dK i=>rcases e;obtain⟨vs,z,r⟩:=l;refine .inr (.inr ⟨_,_,rfl,z,?_⟩);rw[<-r.af];exact q _ _ _ .ab b .aa
   |dT i=>exact nk e
   |ab C y=>exact nk e
 |_=>exact nk e⟩
def Hj (K:r_):List V->Hp->VK->Prop:=λb H Q=>∃ p a,b=[.aa p]/\(gm K H p a\/eV K H p a)/\∀ l,H l=O->Q (.aa l) (m_ H l (.aa a))
def g8:MF:=λb h=>match b with
 |[a]=>(cK h a).bind λc=>Y (.aa h.length,h++[.aa c])
 |_=>O
instance Hr:SC (Hj kf.K) g8:=⟨λ{o H Q c s h u t} b k e q=>by
 match c,k,e with
 |[a],.ab d .nil,e=>
  obtain⟨v,f,e⟩:=c_ (show(cK h a).bind _=Y _ from e)
  rcases e
  obtain⟨p,g,rfl,r,z⟩:=vx b d f;refine⟨p,g,rfl,z,λl i=>?_⟩;obtain⟨j,m,n⟩:=fm b i r;exact q _ _ _ j m n⟩
def Li (K:r_):List V->Hp->VK->Prop:=λb H Q=>∃ p a,b=[.aa p]/\((gm K H p a/\∀ l,H l=O->Q (.aa l) (m_ H l (.ab a)))\/(eV K H p a/\Q (.aa p) H))
def fH:MF:=λb h=>match b with
 |[a]=>if jd a=L then(cK h a).bind λc=>Y (.af c,h) else O
 |_=>O
instance LF:SC (Li kf.K) fH:=⟨λ{t H Q f v h u w} b k e q=>by
 match f,k,e with
 |[a],.ab c .nil,e=>
  obtain⟨g,e⟩:=aD (show(if jd a=L then _ else O)=Y _ from e);obtain⟨x,i,e⟩:=c_ e
  rcases e
  obtain⟨p,d,rfl,r,z⟩:=jJ b c g i;rcases z with⟨_,j,z⟩ | ⟨_,z⟩
  .subst j;exact⟨p,d,rfl,.inr ⟨eV.of z,q _ _ _ .ab b c⟩⟩
  .refine⟨p,d,rfl,.inl ⟨gm.of z,λl m=>?_⟩⟩;obtain⟨n,o,s⟩:=kG b m r;exact q _ _ _ n o s⟩
section
variable {κ:Type}[DecidableEq κ]
noncomputable def bx (kvs:List (κ×U))(k:κ):Option U:=(kvs.find? λa=>j' (a.1=k)).map (·.2)
noncomputable def c7 (kvs:List (κ×U))(k:κ)(v:U):List (κ×U):=if (kvs.any λa=>j' (a.1=k))=L then kvs.map λa=>if a.1=k then(a.1,v) else a else kvs++[(k,v)]
theorem b9.ao {d:List J}{H:Hp}(k:κ):∀ {kvs:List (κ×U)}{c:List (κ×V)},b9 d H kvs c->(bx kvs k=O->oX c k=O)/\∀ u,bx kvs k=Y u->∃ v,oX c k=Y v/\t_ d H u v
 |_,_,.nil=>⟨λ_=>rfl,λ_ e=>nomatch e⟩
 |(j,u)::r,(_,v)::q,.aa a b=>by
  obtain⟨f,g⟩:=b9.ao k b;by_cases e:j=k
  .have z:bx ((j,u)::r) k=Y u:=by simp[bx,XR,e]
   rw[z,m7 e];exact⟨(λy=>nomatch y),λw y=>⟨v,rfl,by rcases y;exact a⟩⟩
  .have z:bx ((j,u)::r) k=bx r k:=by simp[bx,XR,e]
   rw[z,m6 e];exact⟨f,g⟩
theorem b9.aq {c:List J}{H:Hp}(k:κ):∀ {kvs:List (κ×U)}{a:List (κ×V)},b9 c H kvs a->(kvs.any λkv=>j' (kv.1=k))=(a.any λkv=>j' (kv.1=k))
 |_,_,.nil=>rfl
 |_,_,.aa _ b=>by rw[Yy,Yy,b9.aq k b]
theorem b9.yg {d:List J}{H:Hp}(k:κ){u:U}{v:V}(a:t_ d H u v):∀ {kvs:List (κ×U)}{c:List (κ×V)},b9 d H kvs c->b9 d H (kvs.map λkv=>if kv.1=k then(kv.1,u) else kv) (c.map λkv=>if kv.1=k then(kv.1,v) else kv)
 |_,_,.nil=>.nil
 |(j,_)::_,_,.aa b r=>by
  rw[Xq,Xq];by_cases e:j=k
  .rw[W0 e,W0 e];exact .aa a (b9.yg k a r)
  .rw[W5 e,W5 e];exact .aa b (b9.yg k a r)
theorem b9.ak {d:List J}{H:Hp}{k:κ}{u:U}{v:V}(a:t_ d H u v):∀ {kvs:List (κ×U)}{c:List (κ×V)},b9 d H kvs c->b9 d H (kvs++[(k,u)]) (c++[(k,v)])
 |_,_,.nil=>.aa a .nil
 |_,_,.aa b r=>.aa b (b9.ak a r)
theorem b9.aj {c:List J}{H:Hp}(k:κ){u:U}{v:V}(a:t_ c H u v){kvs:List (κ×U)}{b:List (κ×V)}(r:b9 c H kvs b):b9 c H (c7 kvs k u) (O_ b k v):=by
 unfold c7 O_;rw[r.aq k];split
 .exact r.yg k a
 .exact r.ak a
end
mutual
def uy:U->Option NK.KD
 |.aQ=>Y .aQ
 |.ab i=>Y (.ab i)
 |.ae x=>Y (.ae x)
 |.af a=>(lI a).bind λb=>Y (.aa b)
 |_=>O
def lI:List U->Option (List NK.KD)
 |[]=>Y []
 |u::a=>(uy u).bind λk=>(lI a).bind λb=>Y (k::b)
end
theorem HS {d:List J}{H:Hp}{u:U}{v:V}{k:NK.KD}(q:t_ d H u v)(e:uy u=Y k):wy H v k:=
 t_.rec (motive_1:=λu v _=>∀ k,uy u=Y k->wy H v k) (motive_2:=λu v _=>∀ k,lI u=Y k->l7 H v k) (λ_ e=>by rcases e;exact .aQ) (λ_ e=>nk e) (λ_ e=>by rcases e;exact .aa) (λ_ e=>by rcases e;exact .ab)
  (λf _ i _ e=>by
   unfold uy at e;obtain⟨g,c,e⟩:=c_ e
   rcases e
   exact .ae f (i _ c)) (λ_ _ e=>nk e) (λ_ _ _ _ _ e=>nk e) (λ_ _ _ _ e=>nk e) (λ_ _ _ _ e=>nk e)
  (λ_ e=>by unfold lI at e;rcases e;exact .nil)
  (λ_ _ a b _ e=>by
   unfold lI at e;obtain⟨j,c,e⟩:=c_ e;obtain⟨g,h,e⟩:=c_ e
   rcases e
   exact .aa (a _ c) (b _ h)) q k e
noncomputable def lR:U->Option j_
 |.ab i=>Y (.inl i)
 |.ae x=>Y (.inr x)
 |_=>O
def AQ (u:U):Option NK.KD:=match u with
 |.af _=>(uy u).bind λk=>if k.lo 8=L then Y k else O
 |_=>O
theorem pj {a:List J}{H:Hp}{u:U}{v:V}{k:j_}(r:t_ a H u v)(e:lR u=Y k):v=kV k:=by
 induction r using t_.casesOn with
 |aa=>rcases e;rfl
 |ag=>rcases e;rfl
 |_=>first | exact nk e | exact nk e
theorem zk {a:List J}{H:Hp}{u:U}{v:V}{k:NK.KD}(r:t_ a H u v)(e:AQ u=Y k):∃ b,v=.aa b/\FN H b k:=by
 induction r using t_.casesOn with
 |af c d=>
  obtain⟨j,f,g⟩:=c_ (show(uy _).bind _=Y _ from e);obtain⟨h,i⟩:=aD g
  rcases i
  exact⟨_,rfl,HS (.af c d) f,h⟩
 |_=>first | exact nk e | exact nk e
def bS (h:MH)(d y:U):Option (Option U):=match d with
 |.aa n=>match h[n]? with
  |some (.dK a)=>(lR y).bind λk=>Y (bx a k)
  |some (.dT a)=>(AQ y).bind λk=>Y (bx a k)
  |_=>O
 |_=>O
theorem tE {f:List J}{H:Hp}{h:MH}{d y:U}{x z:V}{o:Option U}(B:aX f H h)(D:t_ f H d x)(w:t_ f H y z)(e:bS h d y=Y o) :
  ∃ a p,x=.aa a/\uA H a z p/\Pn H a/\(o=O->p=O)/\∀ u,o=Y u->∃ v,p=Y v/\t_ f H u v:=by
 induction D using t_.casesOn with
 |@ae n a E=>
  unfold bS at e;dsimp only at e;cases g:h[n]? with
  |none=>rw[g]at e;exact nk e
  |some F=>
   rw[g]at e;have A:=B.ae E g;cases F with
   |dK i=>
    obtain⟨k,j,l⟩:=c_ e
    rcases l
    obtain⟨c,q,r⟩:=A;obtain⟨m,s⟩:=r.ao k;have t:=pj w j;subst t;exact⟨a,_,rfl,.inl ⟨c,k,.inl q,rfl,rfl⟩,.inl ⟨c,.inl q⟩,m,s⟩
   |dT i=>
    obtain⟨k,j,l⟩:=c_ e
    rcases l
    obtain⟨c,q,r⟩:=A;obtain⟨m,s⟩:=r.ao k;obtain⟨b,t,G⟩:=zk w j;subst t;exact⟨a,_,rfl,.inr ⟨c,k,b,.inl q,rfl,G,rfl⟩,.inr ⟨c,.inl q⟩,m,s⟩
   |aa I=>exact nk e
   |ab C K=>exact nk e
 |_=>first | exact nk e | exact nk e
def eN (h:MH)(d y v:U):Option MH:=match d with
 |.aa n=>match h[n]? with
  |some (.dK a)=>(lR y).bind λk=>if a.length<p' then Y (h.set n (.dK (c7 a k v))) else O
  |some (.dT a)=>(AQ y).bind λk=>if a.length<p' then Y (h.set n (.dT (c7 a k v))) else O
  |_=>O
 |_=>O
theorem mF {ι:List J}{H:Hp}{p:J}{n:Nat}(b:ι[n]?=Y p)(hz:∀ o u,H p≠Y (.ji o u))(u:HO):B_ ι H ι (m_ H p u):=by
 have c:p∈ι:=Xk b;exact⟨⟨[],by simp⟩,λa o m q=>by rw[ba (show a≠p from λz=>m (by rw[z];exact c))];exact q,λa m n=>absurd m n,λa o u q=>by rw[ba (λz=>by subst z;exact hz _ _ q)];exact q⟩
theorem Gj {f:List J}{H:Hp}{h h':MH}{d y v:U}{x z w:V}(g:aX f H h)(E:t_ f H d x)(B:t_ f H y z)(kv:t_ f H v w)(e:eN h d y v=Y h') :
  ∃ a H',x=.aa a/\Jh H a z w H'/\B_ f H f H'/\aX f H' h':=by
 induction E using t_.casesOn with
 |@ae n a m=>
  unfold eN at e;dsimp only at e;cases p:h[n]? with
  |none=>rw[p]at e;exact nk e
  |some F=>
   rw[p]at e;have D:=g.ae m p;cases F with
   |dK i=>
    obtain⟨k,s,j⟩:=c_ e;obtain⟨t,j⟩:=aD j
    rcases j
    obtain⟨c,q,r⟩:=D;have A:=pj B s;subst A;have x:=mF (H:=H) m (λ_ _ z=>by rw[q]at z;cases z) (.dK (O_ c k w));obtain⟨_,l⟩:=g.ag m (u:=.dK (O_ c k w)) (o:=.dK (c7 i k v)) (λG y=>by rw[q]at y;cases y) (λ_ _ y=>by rw[q]at y;cases y) ⟨_,cB,(r.ae (x.kp g)).aj k (kv.ab (x.kp g))⟩;exact⟨a,_,rfl,.inl ⟨c,k,q,rfl,by rw[<-r.af];exact t,rfl⟩,x,l⟩
   |dT i=>
    obtain⟨k,s,j⟩:=c_ e;obtain⟨t,j⟩:=aD j
    rcases j
    obtain⟨c,q,r⟩:=D;obtain⟨b,A,I⟩:=zk B s;subst A;have x:=mF (H:=H) m (λ_ _ z=>by rw[q]at z;cases z) (.dT (O_ c k w));obtain⟨_,l⟩:=g.ag m (u:=.dT (O_ c k w)) (o:=.dT (c7 i k v)) (λG y=>by rw[q]at y;cases y) (λ_ _ y=>by rw[q]at y;cases y) ⟨_,cB,(r.ae (x.kp g)).aj k (kv.ab (x.kp g))⟩;exact⟨a,_,rfl,.inr ⟨c,k,b,q,rfl,I,by rw[<-r.af];exact t,rfl⟩,x,l⟩
   |aa K=>exact nk e
   |ab C N=>exact nk e
 |_=>first | exact nk e | exact nk e
def DH (d y:ME):ME:=λa h=>(d a h).bind λp=>(y a p.2).bind λq=>(bS q.2 p.1 q.1).bind λo=>o.bind λu=>Y (u,q.2)
instance Hu {td ty:TE}{d y:ME}[A:SE td d][B:SE ty y]:SE (Fb td ty) (DH d y):=⟨λ{K H Q l N h u P} b c e q=>by
 obtain⟨⟨x,S⟩,m,e⟩:=c_ e;obtain⟨⟨z,T⟩,n,e⟩:=c_ e;obtain⟨o,r,e⟩:=c_ e;obtain⟨w,s,e⟩:=c_ e
 rcases e
 refine A.go b c m λt U V f i C=>?_
 refine B.go (b.aa (f.kp c)) i n λD W X j k E=>?_
 obtain⟨a,p,F,g,_,_,G⟩:=tE k (C.ab (j.kp i)) E r;obtain⟨v,rfl,I⟩:=G _ s;exact⟨a,v,F,g,q _ _ _ (f.aa j) k I⟩⟩
def Kk (neg:Bool)(y d:ME):ME:=λa h=>(y a h).bind λp=>(d a p.2).bind λq=>(bS q.2 q.1 p.1).bind λo=>Y (.bl (if neg then !o.isSome else o.isSome),q.2)
theorem xX {a:List J}{H:Hp}{o:Option U}{p:Option V}(b:o=O->p=O)(c:∀ u,o=Y u->∃ v,p=Y v/\t_ a H u v):p.isSome=o.isSome:=by
 cases o with
 |none=>rw[b rfl];rfl
 |some u=>obtain⟨v,e,_⟩:=c u rfl;rw[e];rfl
instance LG {td ty:TE}{d y:ME}[A:SE ty y][B:SE td d]:SE (L7 ty td) (Kk b_ y d):=⟨λ{F H Q l G h u I} b c e q=>by
 obtain⟨⟨x,K⟩,m,e⟩:=c_ e;obtain⟨⟨z,N⟩,n,e⟩:=c_ e;obtain⟨o,r,e⟩:=c_ e
 rcases e
 refine A.go b c m λs P S f i t=>?_
 refine B.go (b.aa (f.kp c)) i n λv T U j k w=>?_
 obtain⟨a,p,C,g,_,D,E⟩:=tE k w (t.ab (j.kp i)) r;exact⟨a,p,C,g,by rw[xX D E];exact q _ _ _ (f.aa j) k .bl⟩⟩
def DI (d y v:ME):MS:=λa h=>(v a h).bind λp=>(d a p.2).bind λq=>(y a q.2).bind λr=>(eN r.2 q.1 r.1 p.1).bind λb=>Y (.nx a,b)
instance HH {td ty tv:TE}{d y v:ME}[A:SE tv v][B:SE td d][C:SE ty y]:SS (EK td ty tv) (DI d y v):=⟨λ{D T H o U h f V} b c e q=>by
 obtain⟨⟨x,W⟩,p,e⟩:=c_ e;obtain⟨⟨z,X⟩,r,e⟩:=c_ e;obtain⟨⟨w,Z⟩,s,e⟩:=c_ e;obtain⟨h4,t,e⟩:=c_ e
 rcases e
 refine A.go b c p λu H1 v1 i l E=>?_
 refine B.go (b.aa (i.kp c)) l r λF H2 v2 j m G=>?_
 refine C.go (b.aa ((i.aa j).kp c)) m s λI H3 v3 k K N=>?_
 obtain⟨a,P,Q,g,n,S⟩:=Gj K (G.ab (k.kp m)) N (E.ab ((j.aa k).kp l)) t;exact⟨a,P,Q,g,q _ _ (((i.aa j).aa k).aa n) S _ (b.aa ((((i.aa j).aa k).aa n).kp c))⟩⟩
noncomputable def qk:ME:=λ_ h=>Y (.aa h.length,h++[.dK []])
noncomputable def xJ:ME:=λ_ h=>Y (.aa h.length,h++[.dT []])
instance EL:SE yr qk:=⟨λ{d H Q b f h u g} i a e q=>by
 rcases e
 intro p c;obtain⟨x,r⟩:=a.af c (u:=.dK []) (o:=.dK []) ⟨[],cB,.nil⟩;exact q _ _ _ x r (.ae (by rw[<-a.aa];simp))⟩
instance EM:SE yt xJ:=⟨λ{d H Q b f h u g} i a e q=>by
 rcases e
 intro p c;obtain⟨x,r⟩:=a.af c (u:=.dT []) (o:=.dT []) ⟨[],cB,.nil⟩;exact q _ _ _ x r (.ae (by rw[<-a.aa];simp))⟩
noncomputable def cU (h:MH):U->Bool
 |.aa n=>match h[n]? with | some (.dK _)=>L | some (.dT _)=>L | _=>b_
 |_=>b_
theorem JX {g:List J}{H:Hp}{h:MH}{d:U}{x:V}(j:aX g H h)(k:t_ g H d x)(e:cU h d=L):∃ a,x=.aa a/\Pn H a:=by
 induction k using t_.casesOn with
 |@ae n a l=>
  unfold cU at e;dsimp only at e;cases c:h[n]? with
  |none=>rw[c]at e;cases e
  |some m=>
   rw[c]at e;have i:=j.ae l c;cases m with
   |dK f=>obtain⟨b,q,r⟩:=i;exact⟨a,rfl,.inl ⟨b,.inl q⟩⟩
   |dT f=>obtain⟨b,q,r⟩:=i;exact⟨a,rfl,.inr ⟨b,.inl q⟩⟩
   |_=>first | exact nk e | cases e
 |_=>first | exact nk e | cases e
def fC (d y x:ME):ME:=λa h=>(d a h).bind λp=>if cU p.2 p.1=L then(y a p.2).bind λq=>(x a q.2).bind λr=>(bS r.2 p.1 q.1).bind λo=>Y (o.getD r.1,r.2) else O
instance ON {td ty n:TE}{d y x:ME}[A:SE td d][B:SE ty y][C:SE n x]:SE (yq td ty n) (fC d y x):=⟨λ{σ H Q t ι h u h'} i j e q=>by
 obtain⟨⟨x,h1⟩,D,e⟩:=c_ e;obtain⟨E,e⟩:=aD e;obtain⟨⟨z,h2⟩,F,e⟩:=c_ e;obtain⟨⟨w,h3⟩,G,e⟩:=c_ e;obtain⟨o,I,e⟩:=c_ e
 rcases e
 refine A.go i j D λK H1 v1 b k r=>?_
 obtain⟨a,l,N⟩:=JX k r E;subst l;refine⟨a,rfl,N,B.go (i.aa (b.kp j)) k F λP H2 v2 c s S=>?_⟩;refine C.go (i.aa ((b.aa c).kp j)) s G λT H3 v3 f m U=>?_
 obtain⟨a',p,l,g,_,V,W⟩:=tE m (r.ab ((c.aa f).kp k)) (S.ab (f.kp s)) I;cases l;refine⟨p,g,?_⟩;cases o with
 |none=>rw[V rfl];exact q _ _ _ ((b.aa c).aa f) m U
 |some u=>obtain⟨v,X,Z⟩:=W u rfl;rw[X];exact q _ _ _ ((b.aa c).aa f) m Z⟩
class SM [kf:KF](r:V->List V->Hp->VK->Prop)(g:outParam (U->List U->MH->Option (U×MH))):Prop where
 go:∀ {x:V}{xs:List V}{H:Hp}{Q:VK}{a:U}{us:List U}{ι:List J}{h:MH}{u:U}{h':MH},aX ι H h->t_ ι H a x->aY ι H us xs->g a us h=Y (u,h')->
  (∀ ι' H' v,B_ ι H ι' H'->aX ι' H' h'->t_ ι' H' u v->Q v H')->r x xs H Q
def fy (g:U->List U->MH->Option (U×MH))(o:ME)(a:MA):ME:=λb h=>(o b h).bind λp=>(b7 p.2 p.1).bind λ_=>(a b p.2).bind λq=>g p.1 q.1 q.2
theorem abb {b:List J}{H:Hp}{h:MH}{a:U}{x:V}{z:Nat×List U}(c:aX b H h)(k:t_ b H a x)(e:b7 h a=Y z):Ql kf.K "list" x H:=by
 obtain⟨n,f⟩:=z;obtain⟨p,d,_,rfl,_,q,_⟩:=g9 c k e;exact .inl ⟨rfl,d,gm.of q⟩
instance T3 {r:V->List V->Hp->VK->Prop}{g:U->List U->MH->Option (U×MH)}{c:TE}{t:TA}{o:ME}{a:MA}[G:SM r g][A:SE c o][B:SA t a]:SE (OY kf.K "list" r c t) (fy g o a):=⟨λ{I H Q l N h u P} d f e q=>by
 obtain⟨⟨x,S⟩,m,e⟩:=c_ e;obtain⟨z,n,e⟩:=c_ e;obtain⟨⟨T,W⟩,p,e⟩:=c_ e;refine A.go d f m λs X Z i b j=>⟨abb b j n,?_⟩
 refine B.go (d.aa (i.kp f)) b p λv H2 v2 k w y=>?_
 exact G.go w (j.ab (k.kp b)) y e λC H3 v3 D E F=>q _ _ _ ((i.aa k).aa D) E F⟩
instance RX {r:V->List V->Hp->VK->Prop}{g:U->List U->MH->Option (U×MH)}{a:TE}{o:ME}[G:SM r g][A:SE a o]:SE (HL kf.K "list" r a) (fy g o ae):=⟨λ{v H Q d w h u y} f i e q=>by
 obtain⟨⟨x,B⟩,j,e⟩:=c_ e;obtain⟨z,k,e⟩:=c_ e;refine A.go f i j λl C D m b c=>⟨abb b c k,?_⟩
 exact G.go b c .nil e λn E F p s t=>q _ _ _ (m.aa p) s t⟩
def aL:U->List U->MH->Option (U×MH):=λa b h=>match b with
 |[y]=>(b7 h a).bind λp=>if p.2.length<p' then Y (.aQ,h.set p.1 (.aa (p.2++[y]))) else O
 |_=>O
instance MY:SM ug aL:=⟨λ{x t H Q a f v h u w} b g i e q=>by
 rcases f with _ | ⟨y,_ | ⟨_,_⟩⟩
 .exact nk e
 .obtain _ | ⟨j,_ | _⟩:=i
  obtain⟨⟨n,z⟩,k,e⟩:=c_ (show(b7 h a).bind _=Y _ from e);obtain⟨l,e⟩:=aD e
  rcases e
  obtain⟨p,m,rfl,rfl,o,c,d⟩:=g9 b g k;obtain⟨r,s⟩:=gO b o c (d.ae (.ab j .nil));exact⟨p,m,_,rfl,rfl,c,by rw[<-d.aa];exact l,q _ _ _ r s .aQ⟩
 .exact nk e⟩
def iX:U->List U->MH->Option (U×MH):=λa c h=>match c with
 |[b]=>(b7 h a).bind λp=>(dy h b).bind λr=>if p.2.length+r.length<=p' then Y (.aQ,h.set p.1 (.aa (p.2++r))) else O
 |_=>O
instance MZ:SM uh iX:=⟨λ{x B H Q a j C h u D} c k l e q=>by
 rcases j with _ | ⟨b,_ | ⟨_,_⟩⟩
 .exact nk e
 rotate_left
 .exact nk e
 obtain _ | ⟨m,_ | _⟩:=l
 obtain⟨⟨n,E⟩,o,e⟩:=c_ (show(b7 h a).bind _=Y _ from e);obtain⟨F,r,e⟩:=c_ e;obtain⟨s,e⟩:=aD e
 rcases e
 obtain⟨p,t,rfl,rfl,v,f,g⟩:=g9 c k o;obtain⟨w,d,rfl,y,i⟩:=jO c m r;obtain⟨z,A⟩:=gO c v f (g.ae i);exact⟨p,w,t,d,rfl,rfl,f,y,by rw[<-g.aa,<-i.aa];exact s,q _ _ _ z A .aQ⟩⟩
def Eh:U->List U->MH->Option (U×MH):=λa b h=>match b with
 |[]=>(b7 h a).bind λp=>(p.2[p.2.length-1]?).bind λy=>Y (y,h.set p.1 (.aa p.2.dropLast))
 |_=>O
theorem aY.ak {a:List J}{H:Hp}{us:List U}{vs:List V}(r:aY a H us vs):aY a H us.dropLast vs.dropLast:=by
 rw[ac_,ac_,<-r.aa];exact r.take _
instance R8:SM Lh Eh:=⟨λ{x w H Q a g z h u A} b i j e q=>by
 match g,j,e with
 |[],.nil,e=>
  obtain⟨⟨n,B⟩,k,e⟩:=c_ (show(b7 h a).bind _=Y _ from e);obtain⟨y,l,e⟩:=c_ e
  rcases e
  obtain⟨p,m,rfl,rfl,o,d,c⟩:=g9 b i k;obtain⟨f,r⟩:=gO b o d c.ak;obtain⟨v,s,t⟩:=c.ag l;exact⟨p,m,v,rfl,rfl,d,by rw[<-c.aa];exact s,q _ _ _ f r (t.ab (f.kp b))⟩⟩
def tm:U->List U->MH->Option (U×MH):=λa b h=>match b with
 |[]=>(b7 h a).bind λp=>Y (.aQ,h.set p.1 (.aa []))
 |_=>O
instance OS:SM ya tm:=⟨λ{x o H Q a d r h u s} b f g e q=>by
 match d,g,e with
 |[],.nil,e=>
  obtain⟨⟨n,t⟩,i,e⟩:=c_ (show(b7 h a).bind _=Y _ from e)
  rcases e
  obtain⟨p,j,rfl,rfl,k,c,v⟩:=g9 b f i;obtain⟨l,m⟩:=gO b k c .nil;exact⟨p,j,rfl,rfl,c,q _ _ _ l m .aQ⟩⟩
abbrev MP:=bu->MH->Option (List (U×U)×MH)
noncomputable def eD:MP:=λ_ h=>Y ([],h)
noncomputable def aB (k v:ME)(r:MP):MP:=λd h=>(k d h).bind λa=>(v d a.2).bind λb=>(r d b.2).bind λc=>Y ((a.1,b.1)::c.1,c.2)
inductive Ng [kf:KF](ι:List J)(H:Hp):List (U×U)->List (V×V)->Prop
 |nil:Ng ι H [] []
 |aa {a b:U} {x y:V} {r:List (U×U)} {q:List (V×V)}:t_ ι H a x->t_ ι H b y->Ng ι H r q->Ng ι H ((a,b)::r) ((x,y)::q)
class Nk [kf:KF](t:List (TE×TE))(m:outParam MP):Prop where
 go:∀ {σ:St}{H:Hp}{Q:List (V×V)->Hp->Prop}{σu:bu}{ι:List J}{h:MH}{us:List (U×U)}{h':MH},de ι H σu σ->aX ι H h->m σu h=Y (us,h')->
  (∀ ι' H' vs,B_ ι H ι' H'->aX ι' H' h'->Ng ι' H' us vs->Q vs H')->uw t σ H Q
instance Qf:Nk [] eD:=⟨λb a e q=>by rcases e;exact q _ _ _ .ab a .nil⟩
instance OW {tk tv:TE}{r:List (TE×TE)}{k v:ME}{m:MP}[A:SE tk k][B:SE tv v][C:Nk r m]:Nk ((tk,tv)::r) (aB k v m):=⟨λ{F H Q j G h I K} a b e q=>by
 obtain⟨⟨x,N⟩,l,e⟩:=c_ e;obtain⟨⟨y,P⟩,n,e⟩:=c_ e;obtain⟨⟨z,S⟩,o,e⟩:=c_ e
 rcases e
 refine A.go a b l λp T U c g s=>?_
 refine B.go (a.aa (c.kp b)) g n λt V W d i u=>?_
 refine C.go (a.aa ((c.aa d).kp b)) i o λw X Z f D E=>?_
 exact q _ _ _ ((c.aa d).aa f) D (.aa (s.ab ((d.aa f).kp g)) (u.ab (f.kp i)) E)⟩
noncomputable def lx:List (U×U)->Option (List (j_×U))
 |[]=>Y []
 |(a,b)::r=>(lR a).bind λk=>(lx r).bind λc=>Y ((k,b)::c)
def et (kvs a:List (j_×U)):List (j_×U):=a.foldl (λb c=>c7 b c.1 c.2) kvs
theorem vz {d:List J}{H:Hp}:∀ {us:List (U×U)}{vs:List (V×V)}{ks:List (j_×U)},Ng d H us vs->lx us=Y ks->∃ kvs:List (j_×V),vs=kvs.map (λkv=>(kV kv.1,kv.2))/\b9 d H ks kvs
 |_,_,_,.nil,e=>by rcases e;exact⟨[],rfl,.nil⟩
 |_,_,_,.aa (x:=x) (y:=y) a b c,e=>by
  unfold lx at e;obtain⟨k,f,e⟩:=c_ e;obtain⟨ks,g,e⟩:=c_ e
  rcases e
  obtain⟨kvs,h,i⟩:=vz c g;have:=pj a f;subst this;exact⟨(k,y)::kvs,by rw[h];rfl,.aa b i⟩
theorem nS {f:List J}{H:Hp}:∀ {e:List (j_×U)}{d:List (j_×V)}{kvs:List (j_×U)}{c:List (j_×V)},b9 f H e d->b9 f H kvs c->b9 f H (et kvs e) (ej c d)
 |_,_,_,_,.nil,r=>r
 |(k,u)::g,(_,v)::h,kvs,c,.aa a b,r=>by
  show b9 f H (et (c7 kvs k u) g) (ej (O_ c k v) h);exact nS b (r.aj k a)
def eC (m:MP):ME:=λb h=>(m b (h++[.dK []])).bind λp=>(lx p.1).bind λa=>match p.2[h.length]? with
 |some (.dK [])=>if a.length<=15 then Y (.aa h.length,p.2.set h.length (.dK (et [] a))) else O
 |_=>O
theorem Ko {a:List J}{H:Hp}{h:MH}{p:J}(b:aX a H h)(c:H p=O) :
  B_ a H (a++[p]) (m_ H p (.dK []))/\aX (a++[p]) (m_ H p (.dK [])) (h++[.dK []])/\(a++[p])[h.length]?=Y p:=by
 obtain⟨x,r⟩:=b.af c (u:=.dK []) (o:=.dK []) ⟨[],cB,.nil⟩;exact⟨x,r,by rw[<-b.aa];simp⟩
instance P1 {c:List (TE×TE)}{m:MP}[A:Nk c m]:SE (Fc c) (eC m):=⟨λ{T H Q v U h u V} w k e q=>by
 obtain⟨⟨W,x⟩,y,e⟩:=c_ e;obtain⟨B,C,e⟩:=c_ e;intro p D;obtain⟨l,f,E⟩:=Ko k D;refine A.go (w.aa (l.kp k)) f y λF G I n g K=>?_
 have a:=n.at E;dsimp only at e;cases i:x[h.length]? with
 |none=>rw[i]at e;exact nk e
 |some o=>
  rw[i]at e;have j:=g.ab _ _ _ a i
  match o,e,j with
  |.dK [],e,j=>
   obtain⟨N,e⟩:=aD e
   rcases e
   obtain⟨r,d,f⟩:=j;cases f;obtain⟨b,P,s⟩:=vz K C;have U5:b.length<=15:=by rw[<-s.af];exact N
   refine⟨d,b,P,U5,?_⟩;have t:=mF (H:=G) a (λ_ _ z=>by rw[d]at z;cases z) (.dK (ej [] b));obtain⟨_,S⟩:=g.ag a (u:=.dK (ej [] b)) (o:=.dK (et [] B)) (λI z=>by rw[d]at z;cases z) (λ_ _ z=>by rw[d]at z;cases z) ⟨_,cB,nS (s.ae (t.kp g)) .nil⟩;exact q _ _ _ ((l.aa n).aa t) S (.ae a)⟩
def Rt:List V->Hp->VK->Prop:=λa H Q=>∃ i j,a=[.ab i,.ab j]/\Q (.ab (if j>i then j else i)) H
def Ru:List V->Hp->VK->Prop:=λa H Q=>∃ i j,a=[.ab i,.ab j]/\Q (.ab (if j<i then j else i)) H
def Rr:List V->Hp->VK->Prop:=λa H Q=>(∃ i,a=[.ab i]/\Q (.ab i) H)\/∃ k,a=[.bl k]/\Q (.ab (if k then 1 else 0)) H
noncomputable def qo:MF:=λa h=>match a with | [.ab i,.ab j]=>Y (.ab (if j>i then j else i),h) | _=>O
noncomputable def t9:MF:=λa h=>match a with | [.ab i,.ab j]=>Y (.ab (if j<i then j else i),h) | _=>O
noncomputable def oT:MF:=λa h=>match a with | [.ab i]=>Y (.ab i,h) | [.bl k]=>Y (.ab (if k then 1 else 0),h) | _=>O
instance LB:SC Rt qo:=⟨λ{m H Q c n h u o} d k e q=>by
 have f:∃ i j,c=[.ab i,.ab j]:=by
  clear k q d;rcases c with _ | ⟨a,_ | ⟨b,_ | ⟨_,_⟩⟩⟩
  .exact nk e
  .cases a<;>exact nk e
  .cases a<;>first | exact nk e | skip
   cases b<;>first | exact nk e | exact⟨_,_,rfl⟩
  .cases a<;>first | exact nk e | (cases b<;>exact nk e)
 obtain⟨i,j,rfl⟩:=f;obtain _ | ⟨g,_ | ⟨l,_ | _⟩⟩:=k
 cases g;cases l;rcases e;exact⟨_,_,rfl,q _ _ _ .ab d .aa⟩⟩
instance LC:SC Ru t9:=⟨λ{m H Q c n h u o} d k e q=>by
 have f:∃ i j,c=[.ab i,.ab j]:=by
  clear k q d;rcases c with _ | ⟨a,_ | ⟨b,_ | ⟨_,_⟩⟩⟩
  .exact nk e
  .cases a<;>exact nk e
  .cases a<;>first | exact nk e | skip
   cases b<;>first | exact nk e | exact⟨_,_,rfl⟩
  .cases a<;>first | exact nk e | (cases b<;>exact nk e)
 obtain⟨i,j,rfl⟩:=f;obtain _ | ⟨g,_ | ⟨l,_ | _⟩⟩:=k
 cases g;cases l;rcases e;exact⟨_,_,rfl,q _ _ _ .ab d .aa⟩⟩
instance Lz:SC Rr oT:=⟨λ{g H Q f i h u j} c k e q=>by
 rcases f with _ | ⟨a,_ | ⟨b,_⟩⟩
 .exact nk e
 .obtain _ | ⟨d,_ | _⟩:=k
  cases a<;>first | exact nk e | skip
  .cases d;rcases e;exact .inr ⟨_,rfl,q _ _ _ .ab c .aa⟩
  .cases d;rcases e;exact .inl ⟨_,rfl,q _ _ _ .ab c .aa⟩
 .cases a<;>exact nk e⟩
noncomputable def qc:List U->Option (List Int)
 |[]=>Y []
 |.ab i::r=>(qc r).bind λa=>Y (i::a)
 |_=>O
theorem vu {b:List J}{H:Hp}:∀ {us:List U}{vs:List V}{ns:List Int},aY b H us vs->qc us=Y ns->vs=ns.map V.ab
 |_,_,_,.nil,e=>by rcases e;rfl
 |_,_,_,.ab a r,e=>by
  cases a<;>first | exact nk e | skip
  obtain⟨d,c,e⟩:=c_ (show(qc _).bind _=Y _ from e)
  rcases e
  rw[vu r c];rfl
def Rv (K:r_):List V->Hp->VK->Prop:=λb H Q=>∃ p,∃ a:List Int,b=[.aa p]/\gm K H p (a.map V.ab)/\a.length<=1000/\(∀ n∈a,0<=n/\n<=1000)/\Q (.ab a.sum) H
def HK:MF:=λc h=>match c with
 |[a]=>(dy h a).bind λd=>(qc d).bind λb=>if b.length<=1000/\(∀ n∈b,0<=n/\n<=1000) then Y (.ab b.sum,h) else O
 |_=>O
instance LD:SC (Rv kf.K) HK:=⟨λ{l H Q c m h u n} b k e q=>by
 rcases c with _ | ⟨a,_ | ⟨_,_⟩⟩
 .exact nk e
 .obtain _ | ⟨d,_ | _⟩:=k
  obtain⟨o,f,e⟩:=c_ (show(dy h a).bind _=Y _ from e);obtain⟨g,i,e⟩:=c_ e;obtain⟨hz,e⟩:=aD e
  rcases e
  obtain⟨p,s,rfl,z,r⟩:=jO b d f;have j:=vu r i;subst j;exact⟨_,g,rfl,gm.of z,hz.1,hz.2,q _ _ _ .ab b .aa⟩
 .exact nk e⟩
noncomputable def B9:List U->Option (List Bool)
 |[]=>Y []
 |.bl i::r=>(B9 r).bind λa=>Y (i::a)
 |_=>O
mutual
inductive ip (k:Nat):U->Prop
 |aQ:ip k .aQ
 |bl {b:Bool}:ip k (.bl b)
 |ae {i:Int}:ip k (.ab i)
 |aa {x:M}:ip k (.ae x)
 |ab {us:List U}:cE k us->ip k (.af us)
 |ah {us:List U}:cE k us->ip k (.ag us)
 |ag {n:Nat}:n<k->ip k (.aa n)
 |dM {us:List U}:cE k us->ip k (.dM us)
 |ir {us:List U}:cE k us->ip k (.ir us)
inductive cE (k:Nat):List U->Prop
 |nil:cE k []
 |aa {u:U} {us:List U}:ip k u->cE k us->cE k (u::us)
end
theorem t_.aj {c:List J}{H:Hp}{u:U}{v:V}(q:t_ c H u v):ip c.length u:=
 t_.rec (motive_1:=λu _ _=>ip c.length u) (motive_2:=λu _ _=>cE c.length u) .aQ .bl .ae .aa (λ_ _ i=>.ab i) (λh=>.ag (W2.mp h).1) (λ_ _ _ i=>.ah i) (λ_ _ i=>.dM i) (λ_ _ i=>.ir i) .nil (λ_ _ a b=>.aa a b) q
theorem aY.ao {a:List J}{H:Hp}{us:List U}{vs:List V}(q:aY a H us vs):cE a.length us:=
 q.ar (P:=λu _=>cE a.length u) .nil λh i=>.aa h.aj i
theorem jb {a:J}{ι r:List J}(h:a∉ι++r):a∉ι:=λm=>h (abn _ m)
theorem t_.ai {c r:List J}{H:Hp}{u:U}{v:V}(q:t_ (c++r) H u v):ip c.length u->t_ c H u v:=
 t_.rec (motive_1:=λu v _=>ip c.length u->t_ c H u v) (motive_2:=λu v _=>cE c.length u->aY c H u v) (λ_=>.aQ) (λ_=>.bl) (λ_=>.aa) (λ_=>.ag) (λe _ i l=>by cases l with | ab l=>exact .af e (i l)) (λh l=>by cases l with | ag l=>exact .ae (by rw[W3 l]at h;exact h)) (λn e _ i l=>by cases l with | ah l=>exact .ah (jb n) e (i l)) (λz _ i l=>by cases l with | dM l=>exact .dM (z.imp (λn=>⟨jb n.1,n.2⟩) id) (i l)) (λz _ i l=>by cases l with | ir l=>exact .ir z (i l)) (λ_=>.nil) (λ_ _ a b l=>by cases l with | aa l m=>exact .ab (a l) (b m)) q
theorem aY.Gg {a r:List J}{H:Hp}{us:List U}{vs:List V}(q:aY (a++r) H us vs):cE a.length us->aY a H us vs:=
 q.ar (P:=λu v=>cE a.length u->aY a H u v) (λ_=>.nil) λh i l=>by cases l with | aa l m=>exact .ab (h.ai l) (i m)
noncomputable def ky:MO->List U
 |.aa b=>b
 |.dK a=>a.map (·.2)
 |.dT a=>a.map (·.2)
 |.ab _ c=>c.map (·.2)
theorem gC.af {b:List J}{H:Hp}{a:J}:∀ {o:MO},gC b H a o->cE b.length (ky o)
 |.aa _,⟨_,_,r⟩=>r.ao
 |.dK _,⟨_,_,r⟩=>r.ab.2.ao
 |.dT _,⟨_,_,r⟩=>r.ab.2.ao
 |.ab _ _,⟨_,_,_,r⟩=>r.ab.2.ao
theorem gC.ae {c r:List J}{H:Hp}{a:J}:∀ {o:MO},gC (c++r) H a o->cE c.length (ky o)->gC c H a o
 |.aa _,⟨b,e,q⟩,l=>⟨b,e,q.Gg l⟩
 |.dK _,⟨b,e,q⟩,l=>⟨b,e,.of q.ab.1 (q.ab.2.Gg l)⟩
 |.dT _,⟨b,e,q⟩,l=>⟨b,e,.of q.ab.1 (q.ab.2.Gg l)⟩
 |.ab _ _,⟨d,b,e,q⟩,l=>⟨d,b,e,.of q.ab.1 (q.ab.2.Gg l)⟩
mutual
inductive l0 (k:Nat)(h:MH):U->U->Prop
 |aQ:l0 k h .aQ .aQ
 |bl {b:Bool}:l0 k h (.bl b) (.bl b)
 |ae {i:Int}:l0 k h (.ab i) (.ab i)
 |ah {x:M}:l0 k h (.ae x) (.ae x)
 |aa {us wm:List U}:pE k h us wm->l0 k h (.af us) (.af wm)
 |af {us wm:List U}:pE k h us wm->l0 k h (.ag us) (.ag wm)
 |dM {us wm:List U}:pE k h us wm->l0 k h (.dM us) (.dM wm)
 |ir {us wm:List U}:pE k h us wm->l0 k h (.ir us) (.ir wm)
 |ab {n:Nat}:n<k->l0 k h (.aa n) (.aa n)
 |xT {n:Nat} {us wm:List U}:k<=n->h[n]?=Y (.aa us)->pE k h us wm->l0 k h (.aa n) (.ag wm)
inductive pE (k:Nat)(h:MH):List U->List U->Prop
 |nil:pE k h [] []
 |aa {u u':U} {us wm:List U}:l0 k h u u'->pE k h us wm->pE k h (u::us) (u'::wm)
end
theorem l0.inj {k:Nat}{h:MH}{u a b:U}(r:l0 k h u a):l0 k h u b->a=b:=
 l0.rec (motive_1:=λu a _=>∀ b,l0 k h u b->a=b) (motive_2:=λu a _=>∀ b,pE k h u b->a=b) (λ_ q=>by cases q;rfl) (λ_ q=>by cases q;rfl) (λ_ q=>by cases q;rfl) (λ_ q=>by cases q;rfl)
  (λ_ i _ q=>by cases q with | aa s=>rw[i _ s]) (λ_ i _ q=>by cases q with | af s=>rw[i _ s]) (λ_ i _ q=>by cases q with | dM s=>rw[i _ s]) (λ_ i _ q=>by cases q with | ir s=>rw[i _ s])
  (λl _ q=>by
   cases q with
   |ab _=>rfl
   |xT m _ _=>exact absurd l (Nat.not_lt.mpr m))
  (λm e _ i _ q=>by
   cases q with
   |ab l=>exact absurd l (Nat.not_lt.mpr m)
   |xT _ c s=>rw[e]at c;cases c;rw[i _ s])
  (λ_ q=>by cases q;rfl) (λ_ _ a b _ q=>by cases q with | aa d f=>rw[a _ d,b _ f]) r b
theorem ip.ji {k:Nat}{h:MH}{u:U}(q:ip k u):l0 k h u u:=
 ip.rec (motive_1:=λu _=>l0 k h u u) (motive_2:=λu _=>pE k h u u) .aQ .bl .ae .ah (λ_ i=>.aa i) (λ_ i=>.af i) .ab (λ_ i=>.dM i) (λ_ i=>.ir i) .nil (λ_ _ a b=>.aa a b) q
theorem cE.ji {k:Nat}{h:MH}{us:List U}(q:cE k us):pE k h us us:=by
 cases(ip.ab q).ji (h:=h) with | aa s=>exact s
theorem A9 {ι r:List J}{n:Nat}{a:J}(b:(ι++r).Nodup)(e:(ι++r)[n]?=Y a)(l:ι.length<=n):a∉ι:=λm=>by
 rw[Xz l]at e;have c:a∈r:=Xk e;rw[aao]at b;exact b.2.2 a m a c rfl
theorem l0.ag {c r:List J}{H:Hp}{h:MH}(f:aX (c++r) H h){u d:U}{v:V}(s:l0 c.length h u d):t_ (c++r) H u v->t_ c H d v:=
 l0.rec (motive_1:=λu d _=>∀ v,t_ (c++r) H u v->t_ c H d v) (motive_2:=λu d _=>∀ v,aY (c++r) H u v->aY c H d v) (λ_ q=>by cases q;exact .aQ) (λ_ q=>by cases q;exact .bl) (λ_ q=>by cases q;exact .aa) (λ_ q=>by cases q;exact .ag)
  (λ_ i _ q=>by cases q with | af e x=>exact .af e (i _ x)) (λ_ i _ q=>by cases q with | ah n e x=>exact .ah (jb n) e (i _ x))
  (λ_ i _ q=>by cases q with | dM z x=>exact .dM (z.imp (λn=>⟨jb n.1,n.2⟩) id) (i _ x)) (λ_ i _ q=>by cases q with | ir z x=>exact .ir z (i _ x)) (λl _ q=>by cases q with | ae e=>exact .ae (by rw[W3 l]at e;exact e))
  (λl e _ i _ q=>by
   cases q with
   |ae g=>
    obtain⟨j,z,x⟩:=f.ab _ _ _ g e;exact .ah (A9 f.nd g l) z (i _ x))
  (λ_ q=>by cases q;exact .nil) (λ_ _ a b _ q=>by cases q with | ab x y=>exact .ab (a _ x) (b _ y)) s v
def l9 (h h1:MH):Prop:=h.length<=h1.length/\∀ i,i<h.length->h1[i]?=h[i]?\/∃ o,h1[i]?=Y o/\cE h.length (ky o)
open Classical in
noncomputable def FR (h:MH)(u:U)(h1:MH):Option (U×MH):=
 if hx:∃ a,l0 h.length h1 u a/\l9 h h1 then Y (acE hx,h1.take h.length) else O
theorem tQ {h h1:MH}{u a:U}(f:l0 h.length h1 u a)(o:l9 h h1):FR h u h1=Y (a,h1.take h.length):=by
 unfold FR;have b:∃ a,l0 h.length h1 u a/\l9 h h1:=⟨a,f,o⟩;rw[dif_pos b,(aag b).1.inj f]
theorem C6 {h h1 h':MH}{u a:U}(e:FR h u h1=Y (a,h')):l0 h.length h1 u a/\l9 h h1/\h'=h1.take h.length:=by
 unfold FR at e;split at e
 .rename_i b
  rcases e
  exact⟨(aag b).1,(aag b).2,rfl⟩
 .exact nk e
theorem JQ {b c:List J}{H d:Hp}{h h1 h':MH}{u q:U}{v:V}(g:aX b H h)(x:B_ b H c d)(j:aX c d h1)(k:t_ c d u v)(e:FR h u h1=Y (q,h')) :
  B_ b H b d/\aX b d h'/\t_ b d q v:=by
 obtain⟨f,o,rfl⟩:=C6 e;obtain⟨r,rfl⟩:=x.ag;rw[<-g.aa]at f ⊢;refine⟨⟨⟨[],by simp⟩,x.ae,λa m n=>absurd m n,x.ji⟩,⟨?_,(aao.mp j.nd).1,λn a s l i=>?_⟩,f.ag j k⟩
 .rw[X1,aas];exact g.aa▸o.1
 .have p:n<b.length:=(W2.mp l).1;rw[aaq p]at i;have w:=j.ab n a s (by rw[W3 p];exact l) i;refine w.ae ?_;rcases o.2 n (g.aa▸p) with z | ⟨A,t,y⟩
  .rw[i]at z;exact(g.ab n a s l z.symm).af
  .rw[i]at t;rcases t;rw[g.aa];exact y
def dw (N:Nat)(m:MS):MF:=λa h=>(cJ N m a h).bind λp=>FR h p.1 p.2
theorem Gn {t:TS}{m:MS}[A:SS t m]{N:List M}{n:Nat}{vs:List V}{H:Hp}{Q:VK}{E:XK}(h:nq n (dw N.length m) vs H Q E):t {nx:=λ_ f=>Q .aQ f,rt:=Q} (L2.W_ N vs) H:=by
 obtain⟨g,i,j,h,u,z,d,r,e,q⟩:=h;obtain⟨⟨k,l⟩,o,p⟩:=c_ e;refine C2 (n:=n) (E:=E) ⟨g,i,j,h,k,l,d,r,o,λs B v w x y=>?_⟩;obtain⟨a,b,c⟩:=JQ d w x y p;exact q _ _ _ a b c
theorem l9.aa {h g:MH}:l9 h (h++g):=⟨by simp,λi l=>.inl (W3 l)⟩
theorem mZ {h g:MH}:(h++g).take h.length=h:=List.take_left
theorem iy {N:Nat}{m:MS}{us:List U}{h g:MH}{u a:U}(e:cJ N m us h=Y (u,h++g))(f:l0 h.length (h++g) u a):dw N m us h=Y (a,h):=by
 unfold dw;rw[e];show FR h u (h++g)=_;rw[tQ f .aa,mZ]
theorem Gm {N:Nat}{m:MS}{us:List U}{h g:MH}{u b:U}{t:Nat}{o:MO}(e:cJ N m us h=Y (u,h.set t o++g))(c:cE h.length (ky o))(f:l0 h.length (h.set t o++g) u b):dw N m us h=Y (b,h.set t o):=by
 unfold dw;rw[e];show FR h u (h.set t o++g)=_;have a:(h.set t o).length=h.length:=Y5;have d:l9 h (h.set t o++g):=⟨by rw[Xv,a];lia,λi l=>by
  rw[W3 (by rw[a];exact l)];by_cases z:t=i
  .subst z;exact .inr ⟨o,XC l,c⟩
  .exact .inl (W9 z)⟩
 rw[tQ f d,<-a,mZ]
end S
namespace S
open PySem L2
variable [kf:KF]
noncomputable def dJ (f:M)(v:U):List (M×U)->List (M×U)
 |[]=>[(f,v)]
 |(g,x)::r=>if g=f then(g,v)::r else(g,x)::dJ f v r
theorem b9.fq {h:List J}{H:Hp}(f:M){u:U}{v:V}(a:t_ h H u v):∀ {fs:List (M×U)}{d:List (M×V)},b9 h H fs d->b9 h H (dJ f u fs) (L2.fq f v d)
 |_,_,.nil=>.aa a .nil
 |(g,x)::r,(_,y)::q,.aa b c=>by
  unfold dJ L2.fq;by_cases e:g=f
  .rw[W0 e,W0 e];exact .aa a c
  .rw[W5 e,W5 e];exact .aa b (b9.fq f a c)
theorem b9.ag {d:List J}{H:Hp}(f:M):∀ {fs:List (M×U)}{a:List (M×V)},b9 d H fs a->(fs.lookup f=O->a.lookup f=O)/\∀ u,fs.lookup f=Y u->∃ v,a.lookup f=Y v/\t_ d H u v
 |_,_,.nil=>⟨λ_=>rfl,λ_ e=>nomatch e⟩
 |(g,x)::r,(_,y)::q,.aa b c=>by
  obtain⟨h,i⟩:=b9.ag f c;rw[Xf,Xf];cases e:f == g with
  |true=>exact⟨(λz=>nomatch z),λu z=>⟨y,rfl,by rcases z;exact b⟩⟩
  |false=>exact⟨h,i⟩
abbrev CL:=J->M->Prop
noncomputable def oS (h:MH):U->Option (Nat×J×List (M×U))
 |.aa n=>match h[n]? with
  |some (.ab C a)=>Y (n,C,a)
  |_=>O
 |_=>O
theorem p9 {b:List J}{H:Hp}{h:MH}(g:aX b H h){u:U}{v:V}{n:Nat}{C:J}{fs:List (M×U)}(k:t_ b H u v)(e:oS h u=Y (n,C,fs)) :
  ∃ p d JM,u=.aa n/\v=.aa p/\b[n]?=Y p/\h[n]?=Y (.ab C fs)/\H p=Y (.ae C d JM)/\b9 b H fs JM:=by
 induction k using t_.casesOn with
 |@ae m a f=>
  unfold oS at e;dsimp only at e;cases c:h[m]? with
  |none=>rw[c]at e;exact nk e
  |some o=>
   rw[c]at e;have i:=g.ae f c;cases o with
   |ab s j=>cases e;obtain⟨d,l,q,r⟩:=i;exact⟨a,d,l,rfl,rfl,f,c,q,r⟩
   |_=>first | exact nk e | exact nk e
 |_=>first | exact nk e | exact nk e
open Classical in
def aM (cl:CL)(f:M):M1:=λu h=>(oS h u).bind λp=>if cl p.2.1 f then(p.2.2.lookup f).bind λx=>Y (x,h) else O
structure wz (K:r_)(cl:CL):Prop where
 ok:∀ C f,cl C f->qJ kf.K C/\iQ kf.K C f
theorem LH {cl:CL}(c:wz kf.K cl){ta:TE}{a:ME}(A:SE ta a)(f:M):SE (O0 kf.K ta f) (bU (aM cl f) a):=⟨λ{F H Q i G h u I} j k e q=>by
 obtain⟨⟨x,N⟩,l,e⟩:=c_ e;obtain⟨⟨n,C,P⟩,m,e⟩:=c_ e;dsimp only at e;split at e
 .rename_i d;obtain⟨w,o,e⟩:=c_ e
  rcases e
  refine A.go j k l λr S T s g t=>?_
  obtain⟨p,y,b,rfl,rfl,U,_,z,B⟩:=p9 g t m;obtain⟨v,D,E⟩:=(B.ag f).2 _ o;exact⟨p,C,y,b,v,rfl,z,(c.ok C f d).1,(c.ok C f d).2,D,q _ _ _ s g E⟩
 .exact nk e⟩
open Classical in
def jg (cl:CL)(f:M)(x y:U)(h:MH):Option MH:=(oS h x).bind λp=>if cl p.2.1 f/\p.2.2.length<1000 then Y (h.set p.1 (.ab p.2.1 (dJ f y p.2.2))) else O
theorem b9.ai {a:Type}{b:List J}{H:Hp}:∀ {us:List (a×U)}{vs:List (a×V)},b9 b H us vs->us.length=vs.length
 |_,_,.nil=>rfl
 |_,_,.aa _ r=>congrArg Y9 r.ai
theorem Bq {cl:CL}(l:wz kf.K cl){f:M}{c:List J}{H:Hp}{h h':MH}{x y:U}{m d:V}(g:aX c H h)(s:t_ c H x m)(t:t_ c H y d)(e:jg cl f x y h=Y h') :
  ∃ p C a fs,m=.aa p/\H p=Y (.ae C a fs)/\qJ kf.K C/\iQ kf.K C f/\fs.length<1000/\B_ c H c (m_ H p (.ae C a (L2.fq f d fs)))/\aX c (m_ H p (.ae C a (L2.fq f d fs))) h':=by
 obtain⟨⟨n,C,fs⟩,v,e⟩:=c_ e;dsimp only at e;split at e
 .rename_i j
  rcases e
  obtain⟨p,a,b,rfl,rfl,q,_,i,r⟩:=p9 g s v;have k:=mF (H:=H) q (λ_ _ z=>by rw[i]at z;cases z) (.ae C a (L2.fq f d b));obtain⟨_,w⟩:=g.ag q (u:=.ae C a (L2.fq f d b)) (o:=.ab C (dJ f y fs)) (λA z=>by rw[i]at z;cases z) (λ_ _ z=>by rw[i]at z;cases z) ⟨a,_,cB,(r.ae (k.kp g)).fq f (t.ab (k.kp g))⟩;exact⟨p,C,a,b,rfl,i,(l.ok C f j.1).1,(l.ok C f j.1).2,by rw[<-r.ai];exact j.2,k,w⟩
 .exact nk e
def bM (cl:CL)(f:M)(o v:ME):MS:=λa h=>(v a h).bind λp=>(o a p.2).bind λq=>(jg cl f q.1 p.1 q.2).bind λb=>Y (.nx a,b)
theorem L1 {cl:CL}(k:wz kf.K cl){ta tv:TE}{a v:ME}(A:SE ta a)(B:SE tv v)(f:M):SS (OK kf.K ta tv f) (bM cl f a v):=⟨λ{D Q H l S h T U} b c e q=>by
 obtain⟨⟨y,V⟩,m,e⟩:=c_ e;obtain⟨⟨x,W⟩,n,e⟩:=c_ e;obtain⟨X,o,e⟩:=c_ e
 rcases e
 refine B.go b c m λr Z v1 d i s=>?_
 refine A.go (b.aa (d.kp c)) i n λt H2 v2 g u w=>?_
 obtain⟨p,C,z,E,rfl,F,G,I,N,j,P⟩:=Bq k u w (s.ab (g.kp i)) o;exact⟨p,C,z,E,rfl,F,G,I,N,q _ _ ((d.aa g).aa j) P _ (b.aa (((d.aa g).aa j).kp c))⟩⟩
open Classical in
def i7 (cl:CL)(f:M)(g:Int->Int->Int)(o v:ME):MS:=λc h=>(o c h).bind λp=>(oS p.2 p.1).bind λi=>if cl i.2.1 f then(i.2.2.lookup f).bind λx=>(v c p.2).bind λq=>(oS q.2 p.1).bind λj=>
 if j.2.1=i.2.1/\j.2.2.length<1000 then(match x,q.1 with
  |.ab a,.ab b=>Y (.nx c,q.2.set j.1 (.ab i.2.1 (dJ f (.ab (g a b)) j.2.2)))
  |_,_=>O) else O else O
theorem Bv {cl:CL}(T:wz kf.K cl){ta tv:TE}{a v:ME}{g:Int->Int->Int}{rd:V->V->Hp->VK->Prop}(m:∀ i j H Q,Q (.ab (g i j)) H->rd (.ab i) (.ab j) H Q)(A:SE ta a)(B:SE tv v)(f:M):SS (zL kf.K ta tv rd f) (i7 cl f g a v):=⟨λ{D σ H Z ι h fl h'} r s e q=>by
 obtain⟨⟨x,h1⟩,e1,e⟩:=c_ e;obtain⟨⟨n,C,fs⟩,e4,e⟩:=c_ e;dsimp only at e;split at e
 .rename_i U;obtain⟨w,e6,e⟩:=c_ e;obtain⟨⟨z,h2⟩,e3,e⟩:=c_ e;obtain⟨⟨n',t,y⟩,e7,e⟩:=c_ e;dsimp only at e;split at e
  .rename_i hj;obtain⟨hC,hl⟩:=hj;refine A.go r s e1 λι1 H1 v1 E F W=>?_
   obtain⟨p,dx,G,rfl,rfl,hp,_,q1,d⟩:=p9 F W e4;obtain⟨v,ev,kv⟩:=(d.ag f).2 _ e6;refine⟨p,C,dx,G,v,rfl,q1,(T.ok C f U).1,(T.ok C f U).2,ev,B.go (r.aa (E.kp s)) F e3 λι2 H2 v2 I d k2=>?_⟩;obtain⟨p2,c,b,en,ep,k,_,l,X⟩:=p9 d (W.ab (I.kp F)) e7;cases ep;cases en;subst hC
   induction kv using t_.casesOn with
   |@aa N=>
    induction k2 using t_.casesOn with
    |@aa P=>
     rcases e
     refine m _ _ _ _ ?_;have S:=mF (H:=H2) k (λ_ _ z=>by rw[l]at z;cases z) (.ae t c (L2.fq f (.ab (g N P)) b));obtain⟨_,r4⟩:=d.ag k (u:=.ae t c (L2.fq f (.ab (g N P)) b)) (o:=.ab t (dJ f (.ab (g N P)) y)) (λvs z=>by rw[l]at z;cases z) (λ_ _ z=>by rw[l]at z;cases z) ⟨c,_,cB,(X.ae (S.kp d)).fq f .aa⟩;exact⟨c,b,l,by rw[<-X.ai];exact hl,q _ _ ((E.aa I).aa S) r4 _ (r.aa (((E.aa I).aa S).kp s))⟩
    |_=>first | exact nk e | exact nk e
   |_=>first | exact nk e | exact nk e
  .exact nk e
 .exact nk e⟩
def bX (C:J)(m:M)(n:Nat)(f:MF)(o:ME)(a:MA):ME:=λb h=>(o b h).bind λp=>(oS p.2 p.1).bind λi=>if i.2.1=C/\i.2.2.lookup m=O then(a b p.2).bind λq=>if q.1.length+1=n then f (p.1::q.1) q.2 else O else O
instance P4 {C:J}{m:M}{n:Nat}{f:MF}{E:XK}{ta:TE}{t:TA}{o:ME}{a:MA}[A:SE ta o][B:SA t a]:SE (wg C m (nq n f) [] E ta t) (bX C m n f o a):=⟨λ{σ H Q z ι h u D} i j e q=>by
 obtain⟨⟨x,h1⟩,F,e⟩:=c_ e;obtain⟨⟨k,C',fs⟩,G,I⟩:=c_ e;obtain⟨⟨l,r⟩,K⟩:=aD I;obtain⟨⟨N,P⟩,S,T⟩:=c_ K;obtain⟨U,V⟩:=aD T;refine A.go i j F λW H1 v1 s b v=>?_
 obtain⟨p,X,c,ex,Z,hp,_,q1,d⟩:=p9 b v G;subst Z;dsimp only at l r;subst l;refine⟨p,X,c,rfl,q1,(d.ag m).1 r,B.go (i.aa (s.kp j)) b S λg H2 vs w d y=>?_⟩;show nq n f (.aa p::(vs++[])) H2 Q E;rw[XF];exact⟨by rw[Xa,<-y.aa];exact U,g,x::N,P,u,D,d,.ab (v.ab (w.kp b)) y,V,λι3 H3 v3 x3 r3 k3=>q _ _ _ ((s.aa w).aa x3) r3 k3⟩⟩
noncomputable def rR (C:J)(n:Nat)(f:MF)(a:MA):ME:=λb h=>(a b h).bind λp=>if p.1.length+1=n then(f (.aa p.2.length::p.1) (p.2++[.ab C []])).bind λq=>match q.1 with | .aQ=>Y (.aa p.2.length,q.2) | _=>O else O
instance P2 {C:J}{n:Nat}{f:MF}{E:XK}{t:TA}{a:MA}[B:SA t a]:SE (Fg C (nq n f) [] E t) (rR C n f a):=⟨λ{σ H Q w ι h u h'} A D e q=>by
 obtain⟨⟨F,h1⟩,G,e⟩:=c_ e;obtain⟨I,e⟩:=aD e;obtain⟨⟨y,K⟩,N,e⟩:=c_ e;refine B.go A D G λb i vs P c k x g S d T=>?_
 rw[XF];have l:B_ b i b (m_ i g (.af x)):=⟨⟨[],by simp⟩,λa o _ z=>by rw[ba (bH z d)];exact z,λa m n=>absurd m n,λa o u z=>by rw[ba (bH z d)];exact z⟩;have U:aX b (m_ i g (.af x)) h1:=⟨c.aa,c.nd,λn a o p V=>(c.ab n a o p V).aa (l.kp c) (by
  rw[ba];intro z;exact c.xU d (z▸Xk p))⟩
 have j:(m_ i g (.af x)) x=none:=by rw[ba (λz=>T z.symm)];exact S
 obtain⟨W,X⟩:=U.af j (u:=.ae C g []) (o:=.ab C []) ⟨g,[],cB,.nil⟩;have r:=l.aa W;have s:(b++[x])[h1.length]?=Y x:=by rw[<-c.aa];simp
 refine⟨by rw[Xa,<-k.aa];exact I,_,.aa h1.length::F,_,y,K,X,.ab (.ae s) (k.af (r.kp c)),N,λZ H4 v4 v r4 k4=>?_⟩;dsimp only at e
 induction k4 using t_.casesOn with
 |aQ=>rcases e;exact⟨rfl,q _ _ _ ((P.aa r).aa v) r4 (.ae (v.at s))⟩
 |_=>first | exact nk e | exact nk e⟩
end S
namespace L2
open PySem PySem.Spec PyProof.Rows
section
variable {X:Cx}{CX:z6}{k:Nat}{f C:J}{fd:P'}{ps:List M}{sp:Sp}{qG:List V}{ds:List R}{E:XK}{m:M}{pos apos:u_}{e o:e_}{es:List e_}{ta:TE}{t:TA}
theorem rX {a:List e_}{Q:R->d_->Prop}{s:d_}
  (d:YG o m X.aa (z_ o X.aa)=z_ o X.aa)
  (j:((P_ pos (D' a X.aa)).all (λx=>!x.1)&&(Zc pos (Zd [] X.aa)).all (λx=>x.1.isSome)
   &&j' (a.length+([]:List Yj).length+(if ([]:List Yj).isEmpty then 0 else 1)<30))=L)
  (g:(apos.endLine == pos.line)=L)
  (h:g_ (i' X.ab X.w) X.A (z_ o X.aa) (λq b=>∀ pl,g_ (i' X.ab X.w) X.A (acf q m pl) (λr c=>g_ (i' X.ab X.w) X.A (callWith pos r.1 r.2 (P_ pos (D' a X.aa)) (Zc pos (Zd [] X.aa))) Q X.xe c) X.xe b) X.xe s) :
  g_ (i' X.ab X.w) X.A (z_ (.Call (.Attribute o m apos) a [] pos) X.aa) Q X.xe s:=by
 rw[arm_eval_Call,d];refine WX (XM h (λq b l=>?_) λ_ _ e=>e);refine WX (ZY ?_);have i:methodCallForm (a.length+([]:List Yj).length) (P_ pos (D' a X.aa)) (Zc pos (Zd [] X.aa))=true:=j;have n:methodCallPos L o X.aa apos pos=A' pos:=by unfold methodCallPos;simp[g]
 unfold methodCall;rw[i];refine WX (YV (b6 (l _) λr c p=>?_));exact WX (YE n p)
theorem Ec (B:PE X o ta)(c:qJ X.K C)(p:YL X.K C m f)(F:d3 X.ab X.w X.K X.mg X.ae CX k f fd ps sp)(D:eQ k X.A)(hb:S' X.K fd ps ds)(G:x' qG ds)(N:YJ CX X E)(P:PA X (e::es) t)
  (d:YG o m X.aa (z_ o X.aa)=z_ o X.aa)
  (i:((P_ pos (D' (e::es) X.aa)).all (λx=>!x.1)&&(Zc pos (Zd [] X.aa)).all (λx=>x.1.isSome)
   &&j' ((e::es).length+([]:List Yj).length+(if ([]:List Yj).isEmpty then 0 else 1)<30))=L)
  (g:(apos.endLine == pos.line)=L)
  (j:D' (e::es) X.aa=(b_,z_ e X.aa)::D' es X.aa) (n:(P_ pos (D' es X.aa)).any (·.1)=b_) :
  PE X (.Call (.Attribute o m apos) (e::es) [] pos) (wg C m sp qG E ta t):=by
 intro b s v H Q I h;refine rX d i g (b6 (B b s v H _ I h) λu S T pl=>?_);obtain⟨x,U,y,Z,a,dx,fs,ex,ea,l,q⟩:=T;subst ex;obtain rfl:u=I_ a:=Z;refine p7 y ea c p l ?_;refine abG (first:=[.ref a]) (h₀:=X.ae) I.ok.af.aa p.kp (b6 (P pos b S v U _ y q) λus s2 ⟨vs,H2,z,r,q2⟩=>⟨z.oE,?_⟩) j n;exact yi (us:=.ref a::us) (vs:=.aa a::vs) F D hb G N z (.cons rfl r) q2
theorem Bd (n:PE X o ta)(c:qJ X.K C)(j:YL X.K C m f)(F:d3 X.ab X.w X.K X.mg X.ae CX k f fd ps sp)(p:eQ k X.A)(hb:S' X.K fd ps ds)(r:x' qG ds)(v:YJ CX X E)
  (b:YG o m X.aa (z_ o X.aa)=z_ o X.aa) (d:(apos.endLine == pos.line)=L) :
  PE X (.Call (.Attribute o m apos) [] [] pos) (wg C m sp qG E ta uv):=by
 intro g s y H Q I h;refine rX b rfl d (b6 (n g s y H _ I h) λu N z P=>?_);obtain⟨x,S,i,B,a,T,U,D,G,l,q⟩:=z;subst D;obtain rfl:u=I_ a:=B;refine p7 i G c j l ?_;exact PySem.W.callWith_K0 (first:=[.ref a]) i.oE j.kp (yi (us:=[.ref a]) (vs:=[.aa a]) F p hb r v i (.cons rfl .nil) q)
end
def B3 (P:y_)(w:v_)(K:r_)(f:M->Option R)(x:M)(t:List (M×List Int)):Prop:=
 ∃ (a:J) (d:List (j_×R)),f x=Y (.ref a)/\(∀ h:k_,K.In h->h.DictOf (bW P w) a d)/\
  (∀ z e,t.lookup z=Y e->∃ b,Yf d (p_ z)=Y (.ref b)/\
   ∃ (o:s_) (c:Array R) (n:Nat),K.lookup b=Y o/\o.cls=.type "tuple"/\o.data=.seq c n/\c.size<=p'/\x' (e.map V.ab) c.toList)/\(a == WN)=b_
def ux (K:r_)(t:List (M×List Int))(d:TE):TE:=λe H Q=>d e H λv f=>∃ z c,v=.ae z/\t.lookup z=Y c/\
 ∀ b,(∃ (o:s_) (a:Array R) (n:Nat),K.lookup b=Y o/\o.cls=.type "tuple"/\o.data=.seq a n/\a.size<=p'/\x' (c.map V.ab) a.toList)->Q (.aa b) f
theorem Be {X:Cx}{x:M}{t:List (M×List Int)}{e:e_}{g:TE}{p pos:u_}(T:B3 X.ab X.w X.K X.mg x t)(l:Gl X x)(f:(x == ("__debug__":M))=b_)(m:PE X e g)(n:Jk e) :
  PE X (.Subscript (.Name x p) e pos) (ux X.K t g):=by
 obtain⟨a,S,o,r,u,_⟩:=T;intro c s v H Q I h;refine zQ ad1.lookup n (tW I l o (b6 (m c s v H _ I h) λU A B=>?_) f);obtain⟨y,C,i,D,z,E,G,N,q⟩:=B;subst G;have j:=r A.heap i.oE;obtain⟨b,P,d⟩:=u z E N;exact⟨j.typeIs,adM (qh (k:=p_ z) D) j.mapOf P ⟨.aa b,C,i.af _,rfl,q b d⟩⟩
end L2
namespace EN
open PySem PySem.Spec PyProof.Rows L2
section
variable {prog:y_}{w:v_}{A:D_}{E:R->d_->Prop}{s:d_}
theorem zT {it a:J}{i:Nat}{its:Array R}{Q:R->d_->Prop}(h:s.heap.IsTupleIter it a i)(l:s.heap.IsTuple a its)
  (b:∀ x,its[i]?=Y x->∀ h',h'.IsTupleIter it a (i+1)->YU it s.heap h'->Q x {s with heap:=h'})
  (c:its[i]?=O->A.handled=O/\∀ h' e,ZW it s.heap h'->(∃ o,h'.get? e=Y o/\o.cls=.type "StopIteration")->E (.ref e) {s with heap:=h'}) :
  g_ (i' prog w) A (aeL (.ref it)) Q E s:=by
 obtain⟨r,f,n,d⟩:=id h;obtain⟨t,p,u,v,q⟩:=l;unfold aeL;refine WX (Z1 (name:=i_ "__next__") h.typeIs ad' (X8 ad' h.typeIs F.entry_tuple_iterator_next ?_ (F.args_tuple_iterator_next_1 _)));show g_ _ _ (field (I_ it) 0 >>= _) _ _ s;refine WX (X2 f d (x:=.ref a) rfl ?_);show g_ _ _ (if (I_ a == WR)=L then _ else _) _ _ s;rw[W5 (show ¬ ((I_ a == WR)=L) from Xb)];show g_ _ _ (field (I_ it) 1 >>= _) _ _ s;refine WX (X2 f d (x:=.int i 0) rfl ?_);show g_ _ _ (seqItems? (I_ a) >>= _) _ _ s;refine WX (ab7 p q ?_);cases g:its[i]? with
 |some x=>
  simp only[Zn,g];refine WX (ZQ f d nofun (W8 ⟨x,rfl,W8 (b x g _ ?_ (ZX ..))⟩));exact⟨_,aaG _ f (abP (Zt d _)),(adC ..).trans n,by rw[Zt d];simp[V']⟩
 |none=>
  obtain⟨j,k⟩:=c g;simp only[Zn,g];refine WX (aaK (WX (ZQ f d nofun ?_)));show g_ _ _ (newExc (.type "StopIteration") [] >>= _) _ _ _;refine WX ?_;simp only[newExc,newTuple];refine WX (Xx ?_ (by size_fits));refine WX (m:=firstArgMember _ _) (YE (a:=WR) (by first | rfl | (simp only[firstArgMember];rfl)) ?_);refine Xx ?_ (by size_fits);simp only[raiseNew];refine WX (wpAny_handled ?_)
  first | rw[show A.in1.handled=O from j] | rw[j]
  refine WX (W8 (wpAny_throw ?_));exact k _ _ (((ZX ..).extBut.push _).push _) ⟨_,Xo _ rfl,rfl⟩
theorem abe {it a:J}(f:A.handled=O)(g:a≠it)(its:Array R):Draws prog w A it [it,a] its.size (λi v=>its[i]?=Y v) (λi h=>h.IsTupleIter it a i/\h.IsTuple a its) where
 live:=λ_ _ b=>let ⟨o,ho,_⟩:=b.1;⟨o,ho⟩
 frame:=λ_ _ _ b c=>⟨b.1.at λo e=>c it nofun o e,b.2.at λo e=>c a nofun o e⟩
 item:=λi s Q E j b k=>by
  have l:its[i]?=Y its[i]:=by simp[j]
  refine zT b.1 b.2 (λx e m t d=>?_) (λz=>by rw[l]at z;cases z);exact k _ m s.toks e ⟨t,b.2.extBut d.extBut g⟩ d
 done:=λs Q E b n=>zT b.1 b.2 (λx e=>by simp at e) λ_=>⟨f,n⟩
theorem Ac:WO "enumerate" = Y (.type "enumerate"):=by decide +kernel
theorem sr {e it:J}{i:Int}{a:R}{Q:R->d_->Prop}(b:IsEnum s.heap e it i a)(h:Q (.ref e) s):g_ (i' prog w) A (Z8 (.ref e)) Q E s:=wpAny_pyIter_enum b h
noncomputable abbrev NU (a:J):Obj:={cls:=.type "tuple_iterator",data:=.fields #[.ref a,.int 0 0]}
noncomputable abbrev QF (it:J):Obj:={cls:=.type "enumerate",data:=.fields #[.none,.bool b_,.ref it,V' 0,.none,.none]}
theorem DX (a:J)(its:Array R)(n:Nat)(e:Option J)(j:Array (Option R)) :
  Meets (Builtin.«enumerate.__new__» ⟨[.type "enumerate",.ref a],[]⟩) (λ_ afi s=>s.heap.get? a=Y {cls:=.type "tuple",dict:=e,data:=.seq its n,slots:=j}/\
   afi (.ok (.ret (.ref (s.heap.push (NU a)).objs.size))) {s with heap:=(s.heap.push (NU a)).push (QF s.heap.objs.size)}):=
 .of_wp λprog w A afi s h=>by
  obtain⟨k,g,d,l,m⟩:=s;obtain⟨b,h⟩:=h;have f:=sub_enumerate;have i:aeG (Shared.heap ⟨k,g,d,l,m⟩) a its:=⟨_,b,rfl,n,rfl⟩
  wp_walk using abK b
  refine wpAny_stack_any λo=>W8 ?_;split
  .rename_i c _ _ _ _ _;cases(c == ZC "enumerate")<;>(wp_walk using abK b,aaX i;exact⟨_,rfl,h⟩)
  .wp_walk using abK b,aaX i;exact⟨_,rfl,h⟩
theorem Ah {a:J}{its:Array R}{Q:R->d_->Prop}(g:s.heap.IsTuple a its)
  (h:∀ h',IsEnum h' (s.heap.objs.size+1) s.heap.objs.size 0 .none->h'.IsTupleIter s.heap.objs.size a 0->(∀ b o,s.heap.get? b=Y o->h'.get? b=Y o)->Q (.ref (s.heap.objs.size+1)) {s with heap:=h'}) :
  g_ (i' prog w) A (V_ (.type "enumerate") [.ref a]) Q E s:=by
 obtain⟨⟨c,d,i,j⟩,k,l,n,m⟩:=g;have IQ:c=.type "tuple":=l;have hd':i=.seq its n:=m;subst IQ hd';refine callType_new F.called_enumerate ∅ (F.typeCall_enumerate_1 _) (F.newCall_enumerate_1 _) (λe=>ad_ e _) F.entry_enumerate_new (DX a its n d j) ⟨k,?_⟩;have hz:(s.heap.push (NU a)).objs.size=s.heap.objs.size+1:=aaH ..;show _/\_;rw[hz];have f:IsEnum ((s.heap.push (NU a)).push (QF s.heap.objs.size)) (s.heap.objs.size+1) s.heap.objs.size 0 .none:=by
  have:=Xo (s.heap.push (NU a)) (o:=QF s.heap.objs.size) rfl;rw[hz]at this;exact this
 refine⟨⟨_,f,rfl⟩,h _ f ⟨_,W7 _ (Xo _ rfl),rfl,rfl⟩ λb o z=>W7 _ (W7 _ z)⟩
end
end EN
namespace L2
open PySem PySem.Spec PyProof.Rows
theorem f_.HV {X:Cx}{a:List (J×s_)}{σ:St}{H:Hp}{s:d_}{h':k_}{t':Nat}{i j:J}(I:f_ X a σ H s)(k:∀ b o,b≠i->b≠j->s.heap.get? b=Y o->h'.get? b=Y o)(f:jk X a H i)(g:jk X a H j)
  :f_ X a σ H {s with heap:=h',toks:=t'}:=by
 have h:∀ b u,H b=Y u->b≠i/\b≠j:=λb u e=>⟨λz=>(by rw[z,f.1]at e;cases e),λz=>(by rw[z,g.1]at e;cases e)⟩
 have l:∀ b o,b∉[i,j]->s.heap.get? b=Y o->h'.get? b=Y o:=λb o d e=>k b o (λz=>d (by simp[z])) (λz=>d (by simp[z])) e
 refine I.az (g':=s.gens) (d':=s.drawn) (ch:=[i,j]) (λb p=>?_) (λb o _ _ d e _=>l b o d e) (λb o _ _ d e _=>⟨o.slots,l b o d e⟩) (λ_ _ _ _ n=>n) (λb o d e=>⟨o,l b o d e⟩)
  (λ_ _ e=>e) (λ_ _ _ e=>e) (λb C e=>⟨#[],by rw[e];simp⟩) (λm t=>?_) (λb u e=>?_) I.ak
 .have e:b=i\/b=j:=by simpa using p
  rcases e with rfl | rfl
  .exact⟨f.2.2.2.1,f.2.1,f.2.2.2.2.1,f.2.2.2.2.2⟩
  .exact⟨g.2.2.2.1,g.2.1,g.2.2.2.2.1,g.2.2.2.2.2⟩
 .obtain⟨o,x,y,B,r⟩:=t;exact⟨o,x,y,k _ o (R' f.2.1) (R' g.2.1) B,r⟩
 .refine(I.aa b u e).By (λc v d q=>?_) (λ_ q=>q) λ_ _ q=>q
  have:c≠i/\c≠j:=by
   rcases d with z | z
   .rw[z];exact h b u e
   .exact h c _ z
  exact k c v this.1 this.2 q
def Qo (K:r_)(a:J)(n:Nat):It:=
 ⟨λi H=>∃ b x,eV K H a b/\b.length=n/\b[i]?=Y x,λi H v c=>∃ p,v=.aa p/\H p=O/\∃ x,(∀ b,eV K H a b->b[i]?=Y x)/\c=m_ H p (.ab [.ab i,x]),λi H=>∃ b,eV K H a b/\b.length=n/\n<=i⟩
theorem BD {P:y_}{w:v_}{K:r_}{D:List e_}{k:Nat}{pos:u_}(a e it:J)(n:Nat)(T:e≠it)(ha:a≠it)(U:a≠e):Yv P w K (.Tuple D k pos) (Qo K a n) [e,it] e
  (λi h=>i<=n/\(∃ c,IsEnum h e it i c)/\h.IsTupleIter it a i) where
 ah:=by simp
 aa:=λi h g b j=>by
  obtain⟨_,⟨c,m⟩,o,t,z3,z4⟩:=g;have:b=e\/b=it:=by simpa using j
  rcases this with rfl | rfl
  .exact⟨_,m,λv z=>by have z':aeS _=Data.cell v:=z;cases z'⟩
  .exact⟨o,t,λv z=>by rw[z4]at z;cases z⟩
 ab:=λi h V g k=>⟨g.1,let ⟨c,z⟩:=g.2.1;⟨c,k e nofun _ z⟩,g.2.2.at λo q=>k it nofun o q⟩
 af:=by
  intro X Z hw hK hc i d s σ H E I B g hg;subst Z hw hK;obtain⟨xs,x,G,hn,N⟩:=hg;obtain⟨f,rv,p,hz⟩:=I.ae G;obtain⟨u,hu,ru⟩:=rv.ae N;obtain⟨_,⟨c,m⟩,t⟩:=g;have S7:i<n:=by have:=(W2.mp N).1;lia
  have fe:=B e nofun;have C:=B it nofun;have IT:i<f.toArray.size:=by have:=(W2.mp hu).1;simpa using this
  refine wpAny_pyNext_enum_itemD (EN.abe (A:=X.A.in1) (I.ok.hd hc) ha f.toArray) m ⟨t,p⟩ IT T (by simp[T,R' U]) λy V l hy ho AJ hT hsz hk=>?_
  have Q2:y=u:=by
   have:f.toArray[i]?=Y u:=by simpa using hu
   rw[hy]at this;exact Xe this
  subst Q2;refine⟨_,rfl,?_⟩;refine wpAny_letOwnedTupleGo_enum (s:={s with heap:=V,toks:=l+1}) ho λh2 U1 r=>?_
  have U2:e<s.heap.objs.size:=Xh m;have S4:s.heap.objs.size≠e:=Zq U2;have nT:s.heap.objs.size≠it:=by obtain⟨o,q,_⟩:=t;exact Zq (Xh q)
  have UU:H s.heap.objs.size=none:=I.aa.aa (WY _);have hT2:h2.get? s.heap.objs.size=Y {cls:=.type "tuple",data:=.seq #[.int i l,y]}:=(r.2 _ S4).trans hT;let S:=s.heap.push {cls:=.type "tuple",data:=.seq #[.int i l,y]};have F:S.get? s.heap.objs.size=Y {cls:=.type "tuple",data:=.seq #[.int i l,y]}:=Xo _ rfl;have I1:f_ X d σ (m_ H s.heap.objs.size (.ab [.ab i,x])) {s with heap:=S,toks:=l+1}:=
   I.ag (λb o z=>W7 _ z) (WY _) ⟨by show 2<=p';decide,[.int i l,y],.cons ⟨_,rfl⟩ (.cons ru .nil),_,F,rfl,rfl,_,rfl⟩
  have f1:∀ b,b∈[e,it]->jk X d (m_ H s.heap.objs.size (.ab [.ab i,x])) b:=λb j=>by
   have fb:=B b j;have UY:b≠s.heap.objs.size:=by
    have:b=e\/b=it:=by simpa using j
    rcases this with rfl | rfl
    .exact R' S4
    .exact R' nT
   exact⟨by rw[ba UY];exact fb.1,fb.2⟩
  have I2:f_ X d σ (m_ H s.heap.objs.size (.ab [.ab i,x])) {s with heap:=h2,toks:=l+1}:=
   I1.HV (s:={s with heap:=S,toks:=l+1}) (t':=l+1) (λb o n1 n2 z=>by
    by_cases j:b=s.heap.objs.size
    .subst j;rw[F]at z;rcases z;exact hT2
    .have z':s.heap.get? b=Y o:=by
      rw[show S=s.heap.push _ from rfl,Heap.get?_push_ne _ _ _ j]at z;exact z
     exact(r.2 b n1).trans (hk b o n1 n2 z')) (f1 e nofun) (f1 it nofun)
  refine⟨.aa s.heap.objs.size,_,I2,rfl,⟨_,rfl,UU,x,λys hy=>by rw[I.n3 hy G];exact N,rfl⟩,⟨S7,⟨_,by simpa using U1⟩,?_⟩,λb j=>(f1 b j).1⟩;exact AJ.1.at λo q=>(r.2 it (R' T)).trans q
 ae:=by
  intro X Z hw hK hc i d s σ H E I B g hg;subst Z hw hK;obtain⟨xs,G,Wx,N⟩:=hg;obtain⟨f,rv,p,hz⟩:=I.ae G;obtain⟨hle,⟨c,m⟩,t⟩:=g;have fe:=B e nofun;have C:=B it nofun;have hl:=rv.aa;have hn:f.toArray.size=i:=by simp;lia
  exact wpAny_pyNext_enum_endD (EN.abe (A:=X.A.in1) (I.ok.hd hc) ha f.toArray) m (by rw[hn];exact⟨t,p⟩) λV eb=>⟨rfl,I.ah (t':=s.toks) (λb o j q=>eb b o j q) C.1 C.2.1 C.2.2.2.1 C.2.2.2.2.1 C.2.2.2.2.2⟩
 ag:=λA i s Q E g h=>by
  obtain⟨_,⟨c,m⟩,_⟩:=g;exact EN.sr m h
def JT (K:r_)(ta:TA):TI:=λd H afi=>ta d H λe b=>∃ a c,e=[.aa a]/\eV K b a c/\afi (Qo K a c.length) b
theorem K0 {X:Cx}{i:List e_}{k:Nat}{x:u_}{a:e_}{ta:TA}{p pos:u_}(y:X.mg "enumerate" = O)(B:PA X [a] ta)(C:Gl X "enumerate")(D:D' [a] X.aa=[(b_,z_ a X.aa)]) :
  PI X (.Tuple i k x) (.Call (.Name "enumerate" p) [a] [] pos) (JT X.K ta):=by
 intro f s l H afi I h;refine Call_ (jM I C y EN.Ac (X4 (b6 (B pos f s l H _ I h) λW d ⟨Z,m,g,F,G⟩=>?_) D rfl));obtain⟨b,N,e,P,q⟩:=G;subst e;obtain⟨u,rfl,Q⟩:=WS F;cases Q;obtain⟨j,rv,n,hz⟩:=g.ae P;refine EN.Ah (show d.heap.IsTuple b j.toArray from n) λr t S T=>?_
 refine EN.sr (s:={d with heap:=r}) t ?_;have v:b<d.heap.objs.size:=by obtain⟨o,z,_⟩:=n;exact Xh z
 have U:f_ X f l m {d with heap:=r}:=g.ai (t':=d.toks) T;refine⟨d.heap.objs.size+1,[d.heap.objs.size+1,d.heap.objs.size],_,Qo X.K b N.length,m,rfl,U,BD b _ _ _ (Nat.succ_ne_self _) (Xs v) (Xs (adf v)),⟨Xl _,⟨_,t⟩,S⟩,λc V=>?_,q⟩;have:c=d.heap.objs.size+1\/c=d.heap.objs.size:=by simpa using V
 rcases this with rfl | rfl
 .exact g.tI (Yo _) (g.aa.aa (Yo _))
 .exact g.tI (WY _) (g.aa.aa (WY _))
end L2
namespace S
open PySem L2
variable [kf:KF]
noncomputable def JZ (us:List U):pF:=λi _=>Y us.reverse[i]?
def vF (a:MA):MI:=λb h=>(a b h).bind λp=>match p.1 with
 |[.af c]=>Y (JZ c,p.2)
 |_=>O
instance R6 {t:TA}{a:MA}[A:SA t a]:SI (Dk kf.K t) (vF a):=⟨λ{N H afi B P h Q S} j l e q=>by
 obtain⟨⟨m,T⟩,n,e⟩:=c_ e;refine A.go j l n λC U V o c d=>?_
 dsimp only at e;have D:∃ f,m=[.af f]:=by
  clear d o c q n j l;rcases m with _ | ⟨p,_ | ⟨b,_⟩⟩
  .exact nk e
  .cases p<;>first | exact nk e | exact⟨_,rfl⟩
  .cases p<;>exact nk e
 obtain⟨f,rfl⟩:=D;obtain _ | ⟨d,_ | _⟩:=d
 cases d;rename_i a g r s
 .rcases e
  refine⟨a,g,rfl,eV.of r,q _ _ _ o c ?_⟩;intro E W X i x F;have e':=(x.kp c).ab r;have G:=(s.af (x.kp c)).ah;refine⟨λz=>⟨g,eV.of e',rfl,?_⟩,λu z=>?_⟩
  .have z':f.reverse[i]?=none:=Xe z;have:=XA.mp z';rw[ZK,s.aa]at this;exact this
  .have z':f.reverse[i]?=Y u:=Xe z;obtain⟨v,w,k⟩:=G.ag z';refine⟨⟨g,v,eV.of e',rfl,w⟩,λZ H2 y=>?_⟩;obtain⟨I,y⟩:=y;subst I;have:=y g (eV.of e');rw[w]at this;rcases this;exact⟨.ab,F,k⟩⟩
noncomputable def Dr (us:List U):pF:=λi _=>Y (us[i]?.map λu=>.af [.ab i,u])
def DJ (a:MA):MI:=λb h=>(a b h).bind λp=>match p.1 with
 |[.af c]=>Y (Dr c,p.2)
 |_=>O
instance T6 {t:TA}{a:MA}[A:SA t a]:SI (JT kf.K t) (DJ a):=⟨λ{σ H afi σu ι h it h'} hs hr e q=>by
 obtain⟨⟨us,h1⟩,e1,e⟩:=c_ e;refine A.go hs hr e1 λι1 H1 v1 x1 r1 k1=>?_
 dsimp only at e;have hu:∃ ws,us=[.af ws]:=by
  clear k1 x1 r1 q e1 hs hr;rcases us with _ | ⟨u1,_ | ⟨b,_⟩⟩
  .exact nk e
  .cases u1<;>first | exact nk e | exact⟨_,rfl⟩
  .cases u1<;>exact nk e
 obtain⟨ws,rfl⟩:=hu;obtain _ | ⟨k1,_ | _⟩:=k1
 cases k1;rename_i a vs ha ks
 .rcases e
  refine⟨a,vs,rfl,eV.of ha,q _ _ _ x1 r1 ?_⟩;intro ι' H' h2 i x r';have e':=(x.kp r1).ab ha;have rr:=ks.af (x.kp r1);refine⟨λz=>⟨vs,eV.of e',rfl,?_⟩,λu z=>?_⟩
  .have z':(ws[i]?.map λu=>U.af [.ab i,u])=none:=Xe z;rw[Option.map_eq_none_iff]at z';rw[<-ks.aa];exact XA.mp z'
  .have z':(ws[i]?.map λu=>U.af [.ab i,u])=Y u:=Xe z;obtain⟨y,hy,Q2⟩:=XD.mp z';subst Q2;obtain⟨v,hv,k⟩:=rr.ag hy;refine⟨⟨vs,v,eV.of e',rfl,hv⟩,λv2 H2 yy=>?_⟩;obtain⟨p,rfl,hp,x2,hx,rfl⟩:=yy;have:=hx vs (eV.of e');rw[hv]at this;rcases this;obtain⟨z1,z2,z3⟩:=kG r' hp (us:=[.ab i,y]) (vs:=[.ab i,v]) (.ab .aa (.ab k .nil));exact⟨z1,z2,z3⟩⟩
end S
namespace DP
open PySem PySem.Spec PyProof.Rows L2
section
variable {prog:y_}{w:v_}{A:D_}{E:R->d_->Prop}{h:k_}{g:Array GenState}{d:Drawn}{os:OsState}{a:J}{o:s_}{its:Array R}{n:Nat}{sl:Array (Option R)}
theorem GC:Zz (.type "tuple") "keys" = A' none:=by rw[Zv,Zu];kernel_rfl
theorem NY:Zz (.type "tuple") "__getattr__" = A' none:=by rw[Zv,Zu];kernel_rfl
theorem xB (a:J)(its:Array R)(n:Nat)(sl:Array (Option R))(tk:WG):Meets (Builtin.«object.__getattribute__» ⟨[.ref a,.str "keys" tk],[]⟩) (λA afi s=>s.heap.get? a=Y {cls:=.type "tuple",dict:=O,data:=.seq its n,slots:=sl}/\raisesAttr (.ref a) "keys" A afi s):=
 Meets.of_wp λprog w A afi s b=>by
  obtain⟨c,g,d,tk,os⟩:=s;obtain⟨e,b⟩:=b;have f:(⟨c,g,d,tk,os⟩:d_).TypeIs (.ref a) "tuple":=⟨_,e,rfl⟩;have i:=GC;unfold Builtin.«object.__getattribute__»;repeat (any_goals (first | assumption | wp_step))
  exact wpAny_raiseAttrError b.1 b.2 (attrMsg_fits (by decide +kernel) (by size_fits))
theorem GQ {s:d_}{Q:Option R->d_->Prop}(hx:s.heap.get? a=Y {cls:=.type "tuple",dict:=O,data:=.seq its n,slots:=sl})(hA:A.handled=O)
  (hq:∀ h' t',(∀ b u,s.heap.get? b=Y u->h'.get? b=Y u)->Q O {s with heap:=h',toks:=t'}):g_ (i' prog w) A (getAttr? (.ref a) "keys") Q E s:=by
 obtain⟨hp,g,d,tk,os⟩:=s;have hT:(⟨hp,g,d,tk,os⟩:d_).TypeIs (.ref a) "tuple":=⟨_,hx,rfl⟩;have hT2:∀ tk,(⟨hp,g,d,tk,os⟩:d_).TypeIs (.ref a) "tuple":=λ_=>⟨_,hx,rfl⟩
 have f1:=sub_AttributeError;have f3:=abY.lookup;have f4:=abY.bind (.ref a);have f5:=NY;unfold getAttr? getAttrBy? getAttrBy
 repeat (any_goals (first | assumption | ((with_reducible show g_ _ _ (V_ (acj "tuple.__getattribute__") _ _) _ _ _);refine YW abY (hT2 _) F.entry_tuple_ga (F.args_tuple_getattribute_2 _ _) (xB a its n sl _) ⟨hx,hA,λh' WC e hx'=>?_⟩) | wp_step))
 obtain⟨t',u',he⟩:=hx'.there;show g_ _ _ (aeO _ _ _ _ _ _ _) _ _ _;unfold aeO;repeat (any_goals (first | assumption | wp_step))
 exact hq _ _ λb u z=>hx'.1 b u z
theorem pV:entryFor table "dict.update.loop" = Y Builtin.«dict.update.loop»:=aea (by kernel_rfl)
theorem je:plainId "dict.update.loop" = true:=by decide +kernel
def iR (prog:y_)(w:v_)(h:k_)(v:R)(p:j_×R):Prop:=∃ b c,v=.ref b/\h.IsTuple b #[c,p.2]/\(bW prog w).is p.1 c=L
theorem iR.ab {h h':k_}{v:R}{p:j_×R}{x y:J}(q:iR prog w h v p)(k:∀ b o,b≠x->b≠y->h.get? b=Y o->h'.get? b=Y o)(f:∀ o,h.get? x=Y o->o.cls≠.type "tuple")(j:∀ o,h.get? y=Y o->o.cls≠.type "tuple"):iR prog w h' v p:=by
 obtain⟨b,l,e,⟨o,g,c,r⟩,i⟩:=q;exact⟨b,l,e,⟨o,k b o (λz=>f o (z▸g) c) (λz=>j o (z▸g) c) g,c,r⟩,i⟩
noncomputable def Yk (kvs:List (j_×R)):List (j_×R)->List (j_×R)
 |[]=>kvs
 |p::r=>Yk (YB kvs p.1 p.2) r
theorem sA {kvs:List (j_×R)}{k:j_}{v:R}:(YB kvs k v).length<=kvs.length+1:=by
 unfold YB;split
 .rw[Xw];lia
 .rw[Xv];simp
theorem zW {A:D_}(hA:A.handled=O){afi:Zf->d_->Prop}{a dd it:J}{its:Array R}:∀ (rest:List (j_×R)) (i:Nat) (kvs:List (j_×R)) (s:d_) (tk:WG),
  i+rest.length=its.size->(∀ j (hj:j<rest.length),∃ v,its[i+j]?=Y v/\iR prog w s.heap v rest[j])->s.heap.IsTupleIter it a i->s.heap.IsTuple a its->s.heap.DictOf (bW prog w) dd kvs->kvs.length+rest.length<=p'->dd≠it->dd≠a->it≠a->
  (∀ h' t',h'.DictOf (bW prog w) dd (Yk kvs rest)->(∀ b o,b≠dd->b≠it->s.heap.get? b=Y o->h'.get? b=Y o)->afi (.ok (.ret .none)) {s with heap:=h',toks:=t'})->
  WV (i' prog w) A (.builtin "dict.update.loop" ⟨[.ref dd,.ref it,.int i tk,.none],[]⟩) afi s
 |[],i,kvs,s,tk,B,I,C,D,F,hz,l,K,N,P=>by
  refine aev pV ?_;rw[aec je _];show g_ _ A.in1 (Ys (.ref it) >>= _) _ _ s;refine WX (aeH (A:=A.in1) hA C D (by simp at B;simp[B]) λh' eb=>?_);show g_ _ _ (ae6 dd [] >>= _) _ _ _;refine WX (W8 (W8 ?_));obtain⟨o,G,H,ho,r⟩:=F;exact P h' s.toks ⟨o,G,H,eb _ _ l ho,r⟩ λb o _ hb z=>eb b o hb z
 |p::rest,i,kvs,s,tk,B,I,C,D,F,hz,l,K,N,P=>by
  refine aev pV ?_;rw[aec je _];show g_ _ A.in1 (Ys (.ref it) >>= _) _ _ s;obtain⟨v,hv,b,Q,rfl,tb,kk⟩:=I 0 nofun;have m:∀ o,s.heap.get? it=Y o->o.cls≠.type "tuple":=λo z=>by
   obtain⟨o',g,c,_⟩:=C;rw[z]at g;rcases g;rw[c];decide
  have S:∀ o,s.heap.get? dd=Y o->o.cls≠.type "tuple":=λo z=>by
   obtain⟨o',G,H,g,c,_⟩:=F;rw[z]at g;rcases g;rw[c.1];decide
  refine WX (aeI C D (x:=.ref b) (by simpa using hv) λq U e=>?_);have V:q.IsTuple b #[Q,p.2]:=by
   obtain⟨o,g,c,r⟩:=tb;exact⟨o,(e.2 b (λz=>m o (z▸g) c)).trans g,c,r⟩
  have W:q.IsTuple a its:=by
   obtain⟨o,g,r⟩:=D;exact⟨o,(e.2 a (R' N)).trans g,r⟩
  have X:q.DictOf (bW prog w) dd kvs:=by
   obtain⟨o,G,H,g,r⟩:=F;exact⟨o,G,H,(e.2 dd l).trans g,r⟩
  show g_ _ _ (Zg [I_ b] _ >>= _) _ _ _;refine WX (YV ?_);refine WX (wpAny_tryCatch ?_);unfold ae7;obtain⟨ob,gb,cb,nb,db⟩:=id V;refine WX (aaU (T:="tuple") ⟨ob,gb,cb⟩ ?_);show g_ _ _ (if (ZC "tuple" == ZC "list" || Value.type "tuple" == ZC "tuple")=L then _ else _) _ _ _;rw[W0 ∅];refine WX (ab7 gb db (W8 ?_));show g_ _ _ (Zg [Q,p.2] (dictSet dd Q p.2)) _ _ _;refine YV (wpAny_dictSet_pairs (hsz:=by simp only[Xa]at hz;lia) kk X λZ hd2 f=>?_);have k2:∀ b o,b≠dd->b≠it->s.heap.get? b=Y o->Z.get? b=Y o:=λb o x y z=>(f.2 b x).trans ((e.2 b y).trans z)
  refine W8 ⟨plainId_quiet je _,zW (its:=its) (a:=a) hA rest (i+1) (YB kvs p.1 p.2) _ _ (by simp only[Xa]at B;lia) (λj hj=>?_) ?_ ?_ hd2 ?_ l K N λh' t' x y=>?_⟩
  .obtain⟨v,q,Z⟩:=I (j+1) (by simp only[Xa];lia);refine⟨v,by rw[Nat.add_right_comm,ZM];exact q,?_⟩;exact Z.ab k2 S m
  .obtain⟨o,g,r⟩:=U;exact⟨o,(f.2 it (R' l)).trans g,r⟩
  .obtain⟨o,g,r⟩:=W;exact⟨o,(f.2 a (R' K)).trans g,r⟩
  .have:=sA (kvs:=kvs) (k:=p.1) (v:=p.2);simp only[Xa]at hz;lia
  .exact P h' t' x λb o u v z=>y b o u v (k2 b o u v z)
theorem iR.aa {h h':k_}{v:R}{p:j_×R}(q:iR prog w h v p)(k:∀ b o,h.get? b=Y o->h'.get? b=Y o):iR prog w h' v p:=by
 obtain⟨b,c,e,⟨o,g,r⟩,i⟩:=q;exact⟨b,c,e,⟨o,k b o g,r⟩,i⟩
theorem Ag {s:d_}{A:D_}{E:R->d_->Prop}{Q:R->d_->Prop}{prs:List (j_×R)}(hA:A.handled=O)(hx:s.heap.get? a=Y {cls:=.type "tuple",dict:=O,data:=.seq its n,slots:=sl})(hl:prs.length=its.size)(hz:prs.length<=p')
  (hp:∀ j (hj:j<prs.length),∃ v,its[j]?=Y v/\iR prog w s.heap v prs[j])
  (hq:∀ h' t',h'.DictOf (bW prog w) s.heap.objs.size (Yk [] prs)->(∀ b o,s.heap.get? b=Y o->h'.get? b=Y o)->Q (.ref s.heap.objs.size) {s with heap:=h',toks:=t'}):g_ (i' prog w) A (V_ (.type "dict") [.ref a]) Q E s:=by
 refine callType_codes (Q₁:=λobj s₁=>obj=.ref s.heap.objs.size/\s₁={s with heap:=s.heap.push {cls:=.type "dict",data:=.dict #[]}}) F.kt_called_dict (F.kt_typeCall_dict_1 _) F.entry_dict_init (kt_code_dict_new _ ⟨rfl,rfl⟩) ?_;rintro obj s₁ ⟨rfl,rfl⟩;have JS:(s.heap.push {cls:=.type "dict",data:=.dict #[]}).DictOf (bW prog w) s.heap.objs.size []:=adL s.heap;have Q1:(s.heap.push {cls:=.type "dict",data:=.dict #[]}).get? a=Y {cls:=.type "tuple",dict:=O,data:=.seq its n,slots:=sl}:=W7 _ hx;have S5:a<s.heap.objs.size:=Xh hx;refine⟨JS.typeIs,F.args_dict_init_2 _ _,?_⟩;unfold Builtin.«dict.__init__»;refine WX ?_;unfold ae8;refine WX (wpAny_notOrdered_dict JS.typeIs ?_);show g_ _ _ (A' (s.heap.objs.size,[I_ a])) _ _ _;refine W8 ?_;show g_ _ _ (aeJ "dict.__init__" s.heap.objs.size (.ref a) [] .none) _ _ _;unfold aeJ;refine WX (aaU (T:="tuple") ⟨_,Q1,rfl⟩ ?_);rw[W0 ∅];refine WX (GQ (s:={s with heap:=s.heap.push {cls:=.type "dict",data:=.dict #[]}}) (A:=A.in1.in1) Q1 hA λh2 t2 k2=>?_);have Td:=k2 _ _ Q1;have hd2:h2.DictOf (bW prog w) s.heap.objs.size []:=by
  obtain⟨o,es,ep,g,r⟩:=JS;exact⟨o,es,ep,k2 _ _ g,r⟩
 show g_ _ _ (if (O:Option R).isNone=L then _ else _) _ _ _;rw[W0 (show(O:Option R).isNone=L from rfl)];refine WX (aaK (WX (aaX (s:={s with heap:=h2,toks:=t2}) (show aeG h2 a its from⟨_,Td,rfl,n,rfl⟩) ?_)));have QQ:s.heap.objs.size<h2.objs.size:=by obtain⟨o,es,ep,g,_⟩:=hd2;exact Xh g
 have k3:∀ b o,s.heap.get? b=Y o->h2.get? b=Y o:=λb o z=>k2 b o (W7 _ z)
 refine W8 ⟨plainId_quiet je _,zW (A:=A.in1) (its:=its) (a:=a) (it:=h2.objs.size) (dd:=s.heap.objs.size) hA prs 0 [] _ _ ⋯ (λj hj=>?_) ⟨_,Xo _ rfl,rfl,rfl⟩ ⟨_,W7 _ Td,rfl,n,rfl⟩ ?_ (by simpa using hz) (Xs QQ) (Zq S5) (Zq (abC S5 QQ)) λh' t' x y=>?_⟩
 .obtain⟨v,e1,e2⟩:=hp j hj;exact⟨v,by rw[adi];exact e1,e2.aa λb o z=>W7 _ (k3 b o z)⟩
 .obtain⟨o,es,ep,g,r⟩:=hd2;exact⟨o,es,ep,W7 _ g,r⟩
 .refine⟨rfl,hq h' t' x λb o z=>y b o (Xs (Xh z)) (Xs (abC (Xh z) QQ)) (W7 _ (k3 b o z))⟩
end
end DP
namespace L2
open PySem PySem.Spec PyProof.Rows
def sP (H:Hp):List V->List (j_×V)->Prop:=YT λy p=>∃ b,y=.aa b/\H b=Y (.ab [kV p.1,p.2])
theorem rM:∀ {prs:List (j_×V)}{vs:List (j_×R)}{kvs:List (j_×V)}{us:List (j_×R)},KV prs vs->KV kvs us->KV (ej kvs prs) (DP.Yk us vs)
 |_,_,_,_,.nil,r=>r
 |p::prs,v::vs,kvs,us,.cons a b,r=>by
  have:=rM b (KV.ab r p.1 a.2);show KV (ej (O_ kvs p.1 p.2) prs) (DP.Yk (YB us v.1 v.2) vs);rw[<-a.1];exact this
theorem sd:∀ {vs us:List (j_×R)},(DP.Yk us vs).length<=us.length+vs.length
 |[],us=>by simp[DP.Yk]
 |p::vs,us=>by
  have b:=sd (vs:=vs) (us:=YB us p.1 p.2);have c:=DP.sA (kvs:=us) (k:=p.1) (v:=p.2);simp only[DP.Yk,Xa];lia
theorem qr {P:y_}{w:v_}{H:Hp}{h:k_}(e:f9 P w H h):∀ {ys:List V}{prs:List (j_×V)}{its:List R},sP H ys prs->x' ys its->∃ vs:List (j_×R),KV prs vs/\vs.length=its.length/\∀ j (c:j<vs.length),∃ v,its[j]?=Y v/\DP.iR P w h v vs[j]
 |_,_,_,.nil,.nil=>⟨[],.nil,rfl,λj c=>absurd c nofun⟩
 |_,_,_,.cons (b:=p) a q,.cons (b:=u) r t=>by
  obtain⟨vs,i,k,l⟩:=qr e q t;obtain⟨b,rfl,m⟩:=a;cases r;obtain⟨_,f,s,y⟩:=e b _ m;cases s with
  |@cons _ z _ _ B C=>
   cases C with
   |@cons _ x _ _ D F=>
    cases F;refine⟨(p.1,x)::vs,.cons ⟨rfl,D⟩ i,by simp[k],λj c=>?_⟩;cases j with
    |zero=>exact⟨_,rfl,b,z,rfl,y.aa,qh B⟩
    |succ j=>
     obtain⟨v,G,I⟩:=l j (by simpa using c);exact⟨v,by simpa using G,I⟩
def Es:List V->Hp->VK->Prop:=λe H Q=>∃ p c,∃ b:List (j_×V),e=[.aa p]/\H p=Y (.ab c)/\sP H c b/\∀ d,H d=O->Q (.aa d) (m_ H d (.dK (ej [] b)))
theorem wV {X:Cx}(B:X.ag=L):eL X (.type "dict") Es:=by
 intro m s σ H xs us Q I r h;obtain⟨p,ys,prs,rfl,C,D,q⟩:=h;obtain⟨u,rfl,F⟩:=WS r;cases F;obtain⟨hz,its,x,G⟩:=I.aa p _ C;obtain⟨vs,K,b,N⟩:=qr I.aa D x;obtain⟨⟨P,S,T,sl⟩,U,c,e,n,f⟩:=G;have i:P=.type "tuple":=c;have k:S=none:=e;have V:T=.seq its.toArray n:=f;subst i k V;have y:=x.aa;refine DP.Ag (prs:=vs) (I.ok.hd B) U (by rw[b];simp) (by rw[b,<-y];exact hz) (λj W=>?_) λh' t' Z kp=>?_
 .obtain⟨v,i,k⟩:=N j W;exact⟨v,by simpa using i,k⟩
 .refine⟨.aa s.heap.objs.size,_,I.ag (a:=s.heap.objs.size) (o:=.dK (ej [] prs)) (t':=t') kp (WY _) ?_,rfl,q _ (I.aa.aa (WY _))⟩;have z:KV (ej [] prs) (DP.Yk [] vs):=rM K .nil;refine⟨?_,?_,_,z,Z⟩
  .have h1:=ZR z;have l:=sd (vs:=vs) (us:=[]);rw[h1];simp only[Xy,adi]at l;rw[b,<-y]at l;exact Xi l hz
  .have:=I.aB;exact beq_false_of_ne (Zq this)
end L2
namespace S
open PySem L2
variable [kf:KF]
noncomputable def jV:List U->Option (List (j_×U))
 |[]=>Y []
 |.af [k,v]::r=>(lR k).bind λk=>(jV r).bind λq=>Y ((k,v)::q)
 |_=>O
def kg:MF:=λb h=>match b with
 |[.af c]=>(jV c).bind λa=>Y (.aa h.length,h++[.dK (et [] a)])
 |_=>O
theorem aa8 {d:List J}{H:Hp}:∀ {us:List U}{vs:List V}{kvs:List (j_×U)},aY d H us vs->jV us=Y kvs->∃ b:List (j_×V),sP H vs b/\b9 d H kvs b
 |[],_,_,r,e=>by cases r;rcases e;exact⟨[],.nil,.nil⟩
 |u::us,_,kvs,.ab a r,e=>by
  unfold jV at e;split at e
  .rename_i h;cases h
  .rename_i k v o h;cases h;obtain⟨p,f,e⟩:=c_ e;obtain⟨q,g,e⟩:=c_ e
   rcases e
   obtain⟨b,i,j⟩:=aa8 r g;cases a with
   |af l c=>
    cases c with
    |ab m c=>
     cases c with
     |ab n c=>
      cases c;have:=pj m f;subst this;exact⟨_::b,.cons ⟨_,rfl,l⟩ i,.aa n j⟩
  .exact nk e
instance Hq:SC Es kg:=⟨λ{D H Q l p h u E} f k e q=>by
 have s:∃ i,l=[.af i]:=by
  clear k q f;rcases l with _ | ⟨r,_ | ⟨b,_⟩⟩
  .exact nk e
  .cases r<;>first | exact nk e | exact⟨_,rfl⟩
  .cases r<;>exact nk e
 obtain⟨i,rfl⟩:=s;obtain _ | ⟨k,_ | _⟩:=k
 cases k;rename_i _ _ t v
 .skip
  obtain⟨j,w,e⟩:=c_ (show(jV i).bind _=Y _ from e)
  rcases e
  obtain⟨c,y,A⟩:=aa8 v w;refine⟨_,_,c,rfl,t,y,λd g=>?_⟩;have x:B_ p H (p++[d]) (m_ H d (.dK (ej [] c))):=⟨⟨[d],rfl⟩,λa o _ q=>by rw[ba (bH q g)];exact q,λa m n=>by
   rcases XG.mp m with z | z
   .exact absurd z n
   .simp at z;subst z;exact g,λa o u q=>by rw[ba (bH q g)];exact q⟩
  obtain⟨B,C⟩:=f.af g (u:=.dK (ej [] c)) (o:=.dK (et [] j)) ⟨_,cB,nS (A.ae (x.kp f)) .nil⟩;exact q _ _ _ B C (.ae (by rw[<-f.aa];simp))⟩
end S
namespace L2
open PySem PySem.Spec PyProof.Rows
section
variable {X:Cx}
mutual
theorem RD.ag {h:k_}:∀ {v:R}{d:G_},RD h v d->∃ a,Reads h v d a
 |_,_,.aQ=>⟨_,.none⟩
 |_,_,.bl b=>⟨_,.bool b⟩
 |_,_,.ae i t=>⟨_,.int i t⟩
 |_,_,.af x t=>⟨_,.str x t⟩
 |_,_,.aa ⟨o,e,c,n,d⟩ r=>let ⟨_,q⟩:=lW.af r;⟨_,.list e c d q⟩
 |_,_,.ab ⟨o,e,c,n,d⟩ r=>let ⟨_,q⟩:=lW.af r;⟨_,.tuple e c d q⟩
theorem lW.af {h:k_}:∀ {vs:List R}{b:List G_},lW h vs b->∃ c,ReadsAll h vs b c
 |_,_,.nil=>⟨_,.nil⟩
 |_,_,.ab a r=>let ⟨_,p⟩:=RD.ag a;let ⟨_,q⟩:=lW.af r;⟨_,.cons p q⟩
end
def I0:List V->Hp->VK->Prop:=λa H Q=>∃ p d,a=[.aa p]/\DV H (.aa p) d/\d.depth<=Dp/\d.showable=L/\d.hasDict=b_/\d.shown.length<=p'/\Q (.ae d.shown) H
theorem An (c:X.A.guards=Y [])(n:X.A.units+64<K_):eL X (.builtin "repr") I0:=by
 intro a s o H t v Q I r h;obtain⟨p,d,rfl,f,w,g,i,hz,q⟩:=h;obtain⟨u,rfl,b⟩:=WS r;have j:=DV.rd I.aa f b;cases b;obtain⟨x,l⟩:=j.ag;have m:Dp=40:=rfl;refine repr_of_reads' l g (λz=>by rw[i]at z;cases z) c ⋯ (λ_ _ e=>e) (λy u B k=>⟨_,H,I.ai k,?_,q⟩) hz;exact⟨u,rfl⟩
end
end L2
namespace S
open PySem L2
variable [kf:KF]
def UC:MF:=λb h=>match b with
 |[a]=>(dy h a).bind λc=>(B9 c).bind λd=>Y (.bl (d.any id),h)
 |_=>O
noncomputable def xy:G_->Bool
 |.tuple _=>L
 |.list _=>L
 |_=>b_
theorem GR {H:Hp}{v:V}{d:G_}(a:DV H v d)(b:xy d=L):∃ p,v=.aa p:=by
 induction a using DV.casesOn with
 |af _ _=>exact⟨_,rfl⟩
 |aa _ _=>exact⟨_,rfl⟩
 |_=>cases b
def lG:MF:=λb h=>match b with
 |[a]=>(aZ h Dp a).bind λd=>if xy d=L/\d.showable=L/\d.hasDict=b_/\d.shown.length<=p' then Y (.ae d.shown,h) else O
 |_=>O
instance Hs:SC I0 lG:=⟨λ{r H Q f s h u t} b k e q=>by
 rcases f with _ | ⟨a,_ | ⟨_,_⟩⟩
 .exact nk e
 .obtain _ | ⟨g,_ | _⟩:=k
  obtain⟨d,i,e⟩:=c_ (show(aZ h Dp a).bind _=Y _ from e);obtain⟨⟨j,l,m,n⟩,e⟩:=aD e
  rcases e
  obtain⟨c,o⟩:=oo b _ g i;obtain⟨p,rfl⟩:=GR c j;exact⟨p,d,rfl,c,o,l,m,n,q _ _ _ .ab b .ag⟩
 .exact nk e⟩
def zD:U->List U->MH->Option (U×MH):=λa b h=>match b with
 |[.ab i]=>(b7 h a).bind λp=>(p.2[0]?).bind λy=>if i=0 then Y (y,h.set p.1 (.aa (p.2.drop 1))) else O
 |_=>O
instance Qe:SM yb zD:=⟨λ{x E H Q a l F h u G} c m o e q=>by
 rcases l with _ | ⟨b,_ | ⟨_,_⟩⟩
 .exact nk e
 rotate_left
 .cases b<;>exact nk e
 obtain _ | ⟨s,_ | _⟩:=o
 induction s using t_.casesOn with
 |@aa i=>
  obtain⟨⟨n,I⟩,t,e⟩:=c_ (show(b7 h a).bind _=Y _ from e);obtain⟨y,w,e⟩:=c_ e;obtain⟨z,e⟩:=aD e
  rcases e
  subst z;obtain⟨p,d,rfl,rfl,A,g,j⟩:=g9 c m t;obtain⟨k,B⟩:=gO c A g (j.aj 1);obtain⟨v,f,C⟩:=j.ag w;have D:0<d.length:=(W2.mp f).1;refine⟨p,d,0,0,v,rfl,rfl,g,by decide,by decide,?_,f,?_⟩
  .unfold Z3;simp[D]
  .cases d with
   |nil=>exact nk f
   |cons a r=>exact q _ _ _ k B (C.ab (k.kp c))
 |_=>exact nk e⟩
noncomputable def vE (a:ME)(st:sN):ME:=λb h=>(a b h).bind λp=>(st b p.2).bind λk=>match p.1 with
 |.af c=>if k.1=Y (-1) then Y (.af c.reverse,k.2) else O
 |_=>O
theorem Ht {ta:TE}{ts:TO}{a:ME}{st:sN}(A:SE ta a)(B:Jm ts st):SE (Fp (x9 kf.K) ta fu fu ts) (vE a st):=⟨λ{i H Q j G h u I} b c e q=>by
 obtain⟨⟨x,N⟩,k,e⟩:=c_ e;obtain⟨⟨l,P⟩,m,e⟩:=c_ e;refine A.go b c k λn o S d f r=>?_
 show ts i o _;refine B.go (b.aa (d.kp c)) f m λs T g t=>?_
 have v:=r.ab (g.kp f)
 induction v using t_.casesOn with
 |af w y=>
  obtain⟨z,e⟩:=aD (show(if l=Y (-1) then _ else O)=Y _ from e)
  rcases e
  refine⟨_,_,rfl,rfl,rfl,z,eV.of w,λp C=>?_⟩;obtain⟨D,E,F⟩:=kG t C y.ah;exact q _ _ _ ((d.aa g).aa D) E F
 |_=>exact nk e⟩
theorem aY.av {a:List J}{H:Hp}{us:List U}{vs:List V}(h:aY a H us vs):∀ k:Nat,aY a H (B' k us).flatten (B' k vs).flatten
 |0=>.nil
 |k+1=>by
  rw[XT,XT,Y4,Y4];exact h.ae (aY.av h k)
def oV:M2:=λa b h=>match b with
 |.ab k=>(b7 h a).bind λp=>if -(2 ^ 63)<=k/\k<2 ^ 63/\p.2.length*k.toNat<=p' then Y (.aa h.length,h++[.aa (B' k.toNat p.2).flatten]) else O
 |_=>O
instance L0:SO Ot oV:=⟨λ{x y H Q a b w h u z} c f g e q=>by
 induction g using t_.casesOn with
 |aa=>
  obtain⟨⟨n,A⟩,i,e⟩:=c_ (show(b7 h a).bind _=Y _ from e);obtain⟨⟨j,k,hz⟩,e⟩:=aD e
  rcases e
  obtain⟨p,m,rfl,rfl,B,o,d⟩:=g9 c f i;refine⟨p,_,m,rfl,rfl,o,j,k,by rw[<-d.aa];exact hz,λl r=>?_⟩;obtain⟨s,t,v⟩:=fm c r (d.av _);exact q _ _ _ s t v
 |_=>exact nk e⟩
structure jj [kf:KF] where
 cl:CL
 ok:wz kf.K cl
noncomputable def Rn:jj:=⟨λ_ _=>False,⟨λ_ _ h=>h.elim⟩⟩
structure Ga [kf:KF] where
 N:List M
 nm:List (M×Q')
 fs:List (M×Nat×MF)
 bl:List M
 tb:List (M×List (M×List Int)):=[]
 cs:List (M×J×Nat×MF):=[]
 ms:List (M×J×Nat×MF):=[]
 ck:jj:=Rn
 dt:List Str:=[]
 em:Nat:=0
noncomputable def pv (t:List (M×List Int))(a:ME):ME:=λb h=>(a b h).bind λp=>match p.1 with
 |.ae z=>(t.lookup z).bind λc=>Y (.ir (c.map .ab),p.2)
 |_=>O
theorem vv {a:List J}{H:Hp}:∀ ns:List Int,aY a H (ns.map .ab) (ns.map V.ab)
 |[]=>.nil
 |_::r=>.ab .aa (vv r)
instance MX {t:List (M×List Int)}{c:TE}{a:ME}[A:SE c a]:SE (ux kf.K t c) (pv t a):=⟨λ{s H Q f v h u w} g i e q=>by
 obtain⟨⟨x,y⟩,j,e⟩:=c_ e;refine A.go g i j λk z B l m n=>?_
 induction n using t_.casesOn with
 |ag=>
  obtain⟨d,o,e⟩:=c_ e
  rcases e
  exact⟨_,d,rfl,o,λb p=>q _ _ _ l m (.ir p (vv d))⟩
 |_=>first | exact nk e | exact nk e⟩
structure jm (K:r_)(G:Ga)(X:Cx):Prop where
 hK:X.K=kf.K
 hN:X.N=G.N
 nd:X.N.Nodup
 aa:X.ag=L
 ag:X.aa.scope.kind=.function
 ai:∀ x,(G.nm.lookup x=Y .local\/G.nm.lookup x=Y .cell\/G.nm.lookup x=Y .free)->Qu X.aa.scope x
 af:∀ x,G.nm.lookup x=Y .local->X.aa.scope.names.lookup x=Y .local
 ae:∀ x,G.nm.lookup x=Y .cell->X.aa.scope.names.lookup x=Y .cell/\X.fn x=L
 ah:∀ x,G.nm.lookup x=Y .free->X.aa.scope.names.lookup x=Y .cell\/X.aa.scope.names.lookup x=Y .free
 gl:∀ x,G.nm.lookup x=Y .globalImplicit->Gl X x
 fs:∀ x n f,G.fs.lookup x=Y (n,f)->∃ k ps,Kn X.ab X.w X.K X.mg X.ae k x ps (nq n f)/\eQ k X.A
 bl:∀ x∈G.bl,X.mg x=O
 un:X.A.units+64<K_
 rm:∃ k,eQ k X.A
 po:ab4 (i' X.ab X.w) X.A X.aa X.xe
 tb:∀ x t,G.tb.lookup x=Y t->B3 X.ab X.w X.K X.mg x t
 cs:∀ x C n f,G.cs.lookup x=Y (C,n,f)->∃ k ps fa fd,Mk X.K C fa/\d3 X.ab X.w X.K X.mg X.ae qF k fa fd ps (nq n f)/\eQ (k+1) X.A/\X.mg x=Y (.ref C)/\S' X.K fd ps []
 ms:∀ m C n f,G.ms.lookup m=Y (C,n,f)->∃ k ps fa fd,qJ X.K C/\YL X.K C m fa/\d3 X.ab X.w X.K X.mg X.ae qF k fa fd ps (nq n f)/\eQ k X.A/\S' X.K fd ps []
def nj (K:r_)(G:Ga)(e:e_)(m:ME):Prop:=∃ t,SE t m/\∀ X,jm K G X->PE X e t
def Pq (K:r_)(G:Ga)(e:e_)(m:MT):Prop:=∃ t,ST t m/\∀ X,jm K G X->PT X e t
def Uz (K:r_)(G:Ga)(es:List e_)(m:MA):Prop:=∃ t,SA t m/\∀ X,jm K G X->PA X es t
def SK (K:r_)(G:Ga)(a e:e_)(m:MI):Prop:=∃ t,SI t m/\∀ X,jm K G X->PI X a e t
def UA (K:r_)(G:Ga)(e:e_)(m:MG):Prop:=∃ t,SG t m/\∀ X,jm K G X->PG X e t
def Jl (K:r_)(G:Ga)(e:E_)(m:MS):Prop:=∃ t,SS t m/\∀ X,jm K G X->PS X e t
def Qq (K:r_)(G:Ga)(e:List E_)(m:MS):Prop:=∃ t,SS t m/\∀ X,jm K G X->yG X e t
noncomputable def bad (x:M):Bool:=x == "__debug__" || (x == "__classdict__" || x == "__name__")
theorem yM {x:M}(h:bad x=b_):(x == ("__debug__":M))=b_/\(x == ("__classdict__":M))=b_/\x≠"__name__":=by
 unfold bad at h;rw[acK,acK]at h;exact⟨h.1,h.2.1,λe=>by rw[e]at h;exact absurd h.2.2 ∅⟩
noncomputable def Yx (x:M):List M->Option Nat
 |[]=>O
 |y::r=>if x=y then Y 0 else(Yx x r).bind λi=>Y (i+1)
theorem nJ {x:M}:∀ {N:List M}{i:Nat},Yx x N=Y i->N[i]?=Y x
 |[],_,e=>by exact nk e
 |y::r,i,e=>by
  unfold Yx at e;split at e
  .rename_i h;rcases e;rw[h];rfl
  .obtain⟨j,a,b⟩:=c_ e
   rcases b
   rw[Xg];exact nJ a
noncomputable def HX:Option Q'->Bool
 |some .local=>L
 |some .cell=>L
 |some .free=>L
 |_=>b_
noncomputable def QL:Option Q'->Bool
 |some .globalImplicit=>L
 |_=>b_
theorem HY {k:Option Q'}(h:HX k=L):k=Y .local\/k=Y .cell\/k=Y .free:=by
 unfold HX at h;split at h<;>first | exact .inl rfl | exact .inr (.inl rfl) | exact .inr (.inr rfl) | cases h
theorem JR {k:Option Q'}(h:QL k=L):k=Y .globalImplicit:=by
 unfold QL at h;split at h
 .rfl
 .cases h
def Ga.ae (G:Ga)(x:M):Option Nat:=if HX (G.nm.lookup x)=L/\bad x=b_ then Yx x G.N else O
def Ga.ab (G:Ga)(x:M):Bool:=QL (G.nm.lookup x)&&!bad x
noncomputable def GJ (x:M):List M->Bool
 |[]=>b_
 |y::r=>if x=y then L else GJ x r
theorem zv {x:M}:∀ {l:List M},GJ x l=L->x∈l
 |[],h=>by cases h
 |y::r,h=>by
  unfold GJ at h;split at h
  .rename_i e;rw[e];exact XI
  .exact Xt _ (zv h)
def Ga.aa (G:Ga)(x:M):Bool:=G.ab x&&GJ x G.bl
theorem pd {G:Ga}{X:Cx}(h:jm kf.K G X){x:M}(e:G.ab x=L):Gl X x/\(x == ("__debug__":M))=b_/\x≠"__name__":=by
 unfold Ga.ab at e;rw[Xn]at e;have a:=yM (x:=x) (by simpa using e.2);exact⟨h.gl x (JR e.1),a.1,a.2.2⟩
theorem jD {G:Ga}{X:Cx}(h:jm kf.K G X){x:M}(e:G.aa x=L):Gl X x/\X.mg x=O/\(x == ("__debug__":M))=b_/\x≠"__name__":=by
 unfold Ga.aa at e;rw[Xn]at e;obtain⟨a,b,c⟩:=pd h e.1;exact⟨a,h.bl x (zv e.2),b,c⟩
def IC (G:Ga)(x:M):Option ME:=(G.ae x).bind λi=>Y (bZ i)
theorem Co {G:Ga}{x:M}{pos:u_}{m:ME}(e:IC G x=Y m):nj kf.K G (.Name x pos) m:=by
 obtain⟨i,d,e⟩:=c_ e
 rcases e
 obtain⟨a,f⟩:=aD (show(if HX (G.nm.lookup x)=L/\bad x=b_ then Yx x G.N else O)=Y i from d);have b:=yM a.2;exact⟨Mh i,inferInstance,λX c=>KW (by rw[c.hN];exact nJ f) (c.ai x (HY a.1)) b.1 b.2.1⟩
noncomputable def Yb:e_->Bool
 |.Starred _ _=>b_
 |_=>L
theorem a8 {e:e_}{es:List e_}{env:H_}(h:Yb e=L):D' (e::es) env=(b_,z_ e env)::D' es env:=by
 cases e<;>first | rfl | cases h
theorem iF {pos:u_}{env:H_}:∀ {es:List e_},es.all Yb=L->(P_ pos (D' es env)).any (·.1)=b_
 |[],_=>rfl
 |e::es,h=>by
  rw[XQ,Xn]at h;rw[a8 h.1];show(b_ || (P_ pos (D' es env)).any (·.1))=b_;rw[iF h.2];rfl
noncomputable def ja:e_->Bool
 |.Set _ _ _=>b_
 |_=>L
theorem kx {b:e_}(op:X_)(h:ja b=L):Z4 op b=false:=by
 cases b<;>first | rfl | cases h
theorem mI {e:e_}{env:H_}(h:ja e=L):∀ x,Z5 e env x=A' x:=λx=>by
 cases e<;>first | rfl | cases h
noncomputable def mT:e_->Bool
 |.Slice _ _ _ _=>b_
 |_=>L
theorem qt {b:e_}(h:mT b=L):yH b:=λo i=>by
 cases b<;>first | rfl | cases h
noncomputable def abd:e_->Bool
 |.UnaryOp .Not _ _=>b_
 |.BoolOp _ _ _=>b_
 |.IfExp _ _ _ _=>b_
 |.Compare _ _ _ _=>b_
 |_=>L
theorem Bh {e:e_}{env:H_}(h:abd e=L):∀ b,Z6 e env b=(do let v←b;standAt e.pos;Zg [v] (truthy v)):=λb=>by
 cases e with
 |UnaryOp c a p=>cases c<;>first | rfl | cases h
 |_=>first | rfl | cases h
structure afi where
 e:Ga->e_->Option ME
 t:Ga->e_->Option MT
def mh (K:r_)(r:afi):Prop:=(∀ G e m,r.e G e=Y m->nj K G e m)/\∀ G e m,r.t G e=Y m->Pq K G e m
section
variable {G:Ga}{r:afi}
noncomputable def cA (r:afi)(G:Ga):List e_->Option MA
 |[]=>Y ae
 |e::c=>if Yb e=L then(r.e G e).bind λa=>(cA r G c).bind λb=>Y (aa a b) else O
theorem mx (h:mh kf.K r):∀ {es:List e_}{m:MA},cA r G es=Y m->Uz kf.K G es m/\es.all Yb=L
 |[],m,e=>by rcases e;exact⟨⟨uv,inferInstance,λX _=>qq⟩,rfl⟩
 |x::es,m,e=>by
  unfold cA at e;obtain⟨c,e⟩:=aD e;obtain⟨a,f,e⟩:=c_ e;obtain⟨b,g,e⟩:=c_ e
  rcases e
  obtain⟨i,o,j⟩:=h.1 G x a f;obtain⟨⟨k,p,l⟩,n⟩:=mx h g;exact⟨⟨oO i k,inferInstance,λX d=>k7 (j X d) (l X d) (a8 c)⟩,by rw[XQ,c,n];rfl⟩
def TH:YH->Option M2
 |.Add=>Y aI
 |.Sub=>Y dO
 |.Mult=>Y nV
 |.Mod=>Y gX
 |.FloorDiv=>Y pX
 |.Pow=>Y ue
 |_=>O
theorem Ks {op:YH}{g:M2}(e:TH op=Y g):∃ q,SO q g/\∀ X:Cx,j7 X (WL op) q:=by
 cases op<;>first
  |(rcases e;exact⟨_,LV,λX=>GV⟩)
  |(rcases e;exact⟨_,OT (f:=λi j=>i-j),λX=>KH⟩)
  |(rcases e;exact⟨_,LY,λX=>Kz⟩)
  |(rcases e;exact⟨_,LX,λX=>Ky⟩)
  |(rcases e;exact⟨_,HE,λX=>GY⟩)
  |(rcases e;exact⟨_,LZ,λX=>KC⟩)
  |cases e
def PQ:e_->YH->Option M2
 |.List _ _,.Mult=>Y oV
 |_,a=>TH a
theorem Kt {a:e_}{op:YH}{g:M2}(e:PQ a op=Y g):∃ q,SO q g/\∀ X:Cx,j7 X (WL op) q:=by
 unfold PQ at e;split at e
 .rcases e;exact⟨_,L0,λX=>KG⟩
 .exact Ks e
def JE:X_->Option M2
 |.Eq=>Y (bh b_)
 |.NotEq=>Y (bh L)
 |.Lt=>Y GG
 |.LtE=>Y Tz
 |.Gt=>Y PJ
 |.GtE=>Y PH
 |.Is=>Y (d8 b_)
 |.IsNot=>Y (d8 L)
 |_=>O
theorem Gf {op:X_}{g:M2}(e:JE op=Y g):∃ q,SO q g/\∀ X:Cx,X.A.units+64<K_->j7 X (WQ op) q:=by
 cases op<;>first
  |(rcases e;exact⟨_,Jd,λX a=>Kw a⟩)
  |(rcases e;exact⟨_,Jd,λX a=>KA a⟩)
  |(rcases e;exact⟨_,zO (f:=λi j=>j' (i<j)),λX _=>N7⟩)
  |(rcases e;exact⟨_,zO (f:=λi j=>j' (i<=j)),λX _=>N6⟩)
  |(rcases e;exact⟨_,zO (f:=λi j=>j' (j<i)),λX _=>N5⟩)
  |(rcases e;exact⟨_,zO (f:=λi j=>j' (j<=i)),λX _=>N4⟩)
  |(rcases e;exact⟨_,LW,λX _=>Kx⟩)
  |(rcases e;exact⟨_,HG,λX _=>GZ⟩)
  |cases e
end
section
variable {G:Ga}{r:afi}
def Fn (t u:TE):TE:=λa H Q=>t a H Q\/u a H Q
def O2 (t u:TT):TT:=λa H Q=>t a H Q\/u a H Q
def O1 (t u:TS):TS:=λD a H=>t D a H\/u D a H
theorem vM {X:Cx}{e:e_}{t u:TE}(a:PE X e t)(b:PE X e u):PE X e (Fn t u):=λc s d H Q I h=>h.elim (a c s d H Q I) (b c s d H Q I)
theorem Of {X:Cx}{e:e_}{t u:TT}(a:PT X e t)(b:PT X e u):PT X e (O2 t u):=λc s d H Q I h=>h.elim (a c s d H Q I) (b c s d H Q I)
theorem Oe {X:Cx}{e:E_}{t u:TS}(a:PS X e t)(b:PS X e u):PS X e (O1 t u):=λc s d H D I h=>h.elim (a c s d H D I) (b c s d H D I)
def ao (a b:ME):ME:=λc h=>(a c h).bind λp=>(b c p.2).bind λq=>if cU q.2 p.1=L then(bS q.2 p.1 q.1).bind λo=>o.bind λu=>Y (u,q.2) else tU p.1 q.1 q.2
theorem LL {ta tb:TE}{a b:ME}(A:SE ta a)(B:SE tb b):SE (Fn (Fb ta tb) (Fm (Oj kf.K) ta tb)) (ao a b):=⟨λ{p H Q d s h u g} i j e q=>by
 obtain⟨⟨x,k⟩,l,n⟩:=c_ e;obtain⟨⟨y,o⟩,m,f⟩:=c_ n;by_cases c:cU o x=L
 .rw[W0 c]at f;exact .inl ((Hu (td:=ta) (ty:=tb)).go i j (show DH a b d h=Y (u,g) by unfold DH;rw[l];show(b d k).bind _=_;rw[m];exact f) q)
 .rw[W5 c]at f;exact .inr ((EO (r:=Oj kf.K) (ta:=ta) (tb:=tb)).go i j (show aw tU a b d h=Y (u,g) by unfold aw;rw[l];show(b d k).bind _=_;rw[m];exact f) q)⟩
def gu (neg:Bool)(a b:ME):ME:=λc h=>(a c h).bind λp=>(b c p.2).bind λq=>if cU q.2 q.1=L then(bS q.2 q.1 p.1).bind λo=>Y (.bl (if neg then !o.isSome else o.isSome),q.2) else Dn neg p.1 q.1 q.2
theorem LI {ta tb:TE}{a b:ME}(A:SE ta a)(B:SE tb b):SE (Fn (L7 ta tb) (Fm (Hi b_) ta tb)) (gu b_ a b):=⟨λ{p H Q d s h u g} i j e q=>by
 obtain⟨⟨x,k⟩,l,n⟩:=c_ e;obtain⟨⟨y,o⟩,m,f⟩:=c_ n;by_cases c:cU o y=L
 .rw[W0 c]at f;exact .inl ((LG (ty:=ta) (td:=tb)).go i j (show Kk b_ a b d h=Y (u,g) by unfold Kk;rw[l];show(b d k).bind _=_;rw[m];exact f) q)
 .rw[W5 c]at f;exact .inr ((EO (r:=Hi b_) (ta:=ta) (tb:=tb)).go i j (show aw (Dn b_) a b d h=Y (u,g) by unfold aw;rw[l];show(b d k).bind _=_;rw[m];exact f) q)⟩
theorem L3 {t u:TE}{m:ME}(A:SE (Fn t u) m):ST (O2 (tB t) (tB u)) (mB m):=⟨λ{p H Q f s h b v} g i e q=>by
 obtain⟨⟨x,w⟩,j,a⟩:=c_ e;refine A.go (Q:=λx d=>∃ c,x=.bl c/\Q c d) g i j λk d y l n o=>?_
 induction o using t_.casesOn with
 |bl=>rcases a;exact⟨_,rfl,q _ _ l n⟩
 |_=>exact nk a⟩
def Jw (op:X_)(a b:ME):Option ME:=match op with
 |.In=>Y (gu b_ a b)
 |op=>(JE op).bind λg=>Y (aw g a b)
theorem yP {op:X_}{x y:e_}{a b:ME}{m:ME}{pos:u_}(n:nj kf.K G x a)(hb:nj kf.K G y b)(f:ja y=L)(e:Jw op a b=Y m):nj kf.K G (.Compare x [op] [y] pos) m/\Pq kf.K G (.Compare x [op] [y] pos) (mB m):=by
 obtain⟨ta,j,h⟩:=n;obtain⟨tb,k,i⟩:=hb;have d:((JE op).bind λg=>Y (aw g a b))=Y m->nj kf.K G (.Compare x [op] [y] pos) m/\Pq kf.K G (.Compare x [op] [y] pos) (mB m):=λe=>by
  obtain⟨g,o,p⟩:=c_ e
  rcases p
  obtain⟨q,s,l⟩:=Gf o;have s1:SE (Fm q ta tb) (aw g a b):=EO (G:=s) (A:=j) (B:=k);exact⟨⟨Fm q ta tb,s1,λX c=>zz (l X c.un) (h X c) (i X c) (kx op f)⟩,⟨Fq (Fm q ta tb),HI (A:=s1),λX c=>zE (l X c.un) (h X c) (i X c) (kx op f)⟩⟩
 cases op with
 |In=>
  rcases e
  have s1:=LI (ta:=ta) (tb:=tb) j k;refine⟨⟨_,s1,λX c=>vM (KJ (D2 c.un (h X c) (i X c)) (kx _ f)) (zz (DY c.un) (h X c) (i X c) (kx _ f))⟩,⟨_,L3 s1,λX c=>?_⟩⟩;exact Of (Lc (D2 c.un (h X c) (i X c)) (kx _ f)) (zE (DY c.un) (h X c) (i X c) (kx _ f))
 |_=>exact d e
def uV (G:Ga)(x:M):Option MG:=match G.nm.lookup x with
 |some .local=>(Yx x G.N).bind λi=>Y (b' i)
 |some .cell=>(Yx x G.N).bind λi=>Y (b' i)
 |_=>O
theorem yT {x:M}{pos:u_}{m:MG}(e:uV G x=Y m):∃ i,m=b' i/\SG (mJ i) m/\∀ X,jm kf.K G X->PG X (.Name x pos) (mJ i):=by
 unfold uV at e;split at e
 .rename_i b;obtain⟨i,c,d⟩:=c_ e
  rcases d
  exact⟨i,rfl,inferInstance,λX a=>zB a.nd (by rw[a.hN];exact nJ c) (.inl (a.af x b)) (.inr (a.af x b))⟩
 .rename_i b;obtain⟨i,c,d⟩:=c_ e
  rcases d
  obtain⟨f,g⟩:=And.intro (λX a=>(jm.ae (G:=G) (X:=X) a x b).1) (λX a=>(jm.ae (G:=G) (X:=X) a x b).2);exact⟨i,rfl,inferInstance,λX a=>zB a.nd (by rw[a.hN];exact nJ c) (.inr (f X a)) (.inl (g X a))⟩
 .exact nk e
noncomputable def acA:e_->Bool
 |.Name _ _=>L
 |_=>b_
noncomputable def Jz (G:Ga):List e_->Option B1
 |[]=>Y iB
 |.Name x _::a=>(uV G x).bind λg=>(Jz G a).bind λb=>Y (bt g b)
 |_=>O
theorem yU:∀ {es:List e_}{m:B1},Jz G es=Y m->∃ t,Nj t m/\∀ X,jm kf.K G X->Nf X es t/\(Yr es X.aa).length=es.length/\(Yr es X.aa).findIdx? (·.1)=O
 |[],m,e=>by rcases e;exact⟨JN,inferInstance,λX _=>⟨G5,rfl,rfl⟩⟩
 |a::es,m,e=>by
  cases a<;>first | exact nk e | skip
  rename_i x p;obtain⟨g,c,d⟩:=c_ (show(uV G x).bind _=Y _ from e);obtain⟨q,f,h⟩:=c_ d
  rcases h
  obtain⟨i,rfl,s,j⟩:=yT (pos:=p) c;obtain⟨t,u,k⟩:=yU f;refine⟨C4 (mJ i) t,inferInstance,λX b=>?_⟩;obtain⟨l,n,o⟩:=k X b;refine⟨Ee (j X b) l,?_,?_⟩
  .show(Yr es X.aa).length+1=_;rw[n];rfl
  .show List.findIdx? (·.1) ((b_,_)::Yr es X.aa)=O;rw[List.findIdx?_cons,o];rfl
def Nr (G:Ga):e_->Option MG
 |.Name x _=>uV G x
 |.Tuple a _ _=>(Jz G a).bind λb=>Y (iC a.length b)
 |_=>O
theorem wU {e:e_}{m:MG}(h:Nr G e=Y m):UA kf.K G e m:=by
 unfold Nr at h;split at h
 .obtain⟨i,_,b,c⟩:=yT h;exact⟨_,b,c⟩
 .obtain⟨n,d,f⟩:=c_ h
  rcases f
  obtain⟨t,o,g⟩:=yU d;refine⟨JO kf.K _ t,inferInstance,λX a=>?_⟩;obtain⟨j,k,l⟩:=g X a;rw[<-a.hK];exact KZ a.aa j k l
 .cases h
noncomputable def JY:e_->Bool
 |.Tuple _ _ _=>L
 |_=>b_
def cI (r:afi)(G:Ga)(d e:e_):Option MI:=match e with
 |.Call (.Name x _) c [] _=>if x = "reversed" then(match c with
   |[a]=>if G.aa "reversed" = L then(cA r G [a]).bind λm=>Y (vF m) else O
   |_=>O) else if x = "enumerate" then(match c with
   |[a]=>if G.aa "enumerate" = L/\JY d=L then(cA r G [a]).bind λm=>Y (DJ m) else O
   |_=>O) else if x = "range" then(match c with
   |[a]=>if G.aa "range" = L then(cA r G [a]).bind λm=>Y (dz m) else O
   |[a,b]=>if G.aa "range" = L then(cA r G [a,b]).bind λm=>Y (rS m) else O
   |_=>O) else(r.e G e).bind λa=>Y (cy a)
 |e=>(r.e G e).bind λa=>Y (cy a)
theorem ER {c e:e_}{m:MI}(h:mh kf.K r)(q:((r.e G e).bind λa=>Y (cy a))=Y m):SK kf.K G c e m:=by
 obtain⟨a,d,f⟩:=c_ q
 rcases f
 obtain⟨t,i,g⟩:=h.1 G e a d;exact⟨JU kf.K t,inferInstance,λX b=>by rw[<-b.hK];exact K7 (g X b)⟩
theorem IA {s e:e_}{m:MI}(h:mh kf.K r)(q:cI r G s e=Y m):SK kf.K G s e m:=by
 unfold cI at q;split at q
 .rename_i x p w A;split at q
  .rename_i o;subst o;split at q
   .rename_i a;obtain⟨f,q⟩:=aD q;obtain⟨u,g,i⟩:=c_ q
    rcases i
    obtain⟨⟨t,v,j⟩,d⟩:=mx h g;refine⟨Dk kf.K t,inferInstance,λX c=>?_⟩;obtain⟨l,n,_,_⟩:=jD c f;rw[XQ,Xn]at d;rw[<-c.hK];exact G7 n (j X c) l (a8 d.1)
   .cases q
  split at q
  .rename_i _ o;subst o;split at q
   .rename_i a;obtain⟨⟨f,B⟩,q⟩:=aD q;obtain⟨u,g,i⟩:=c_ q
    rcases i
    obtain⟨⟨t,v,j⟩,d⟩:=mx h g;cases s with
    |Tuple y k C=>
     refine⟨JT kf.K t,inferInstance,λX c=>?_⟩;obtain⟨l,n,_,_⟩:=jD c f;rw[XQ,Xn]at d;rw[<-c.hK];exact K0 n (j X c) l (a8 d.1)
    |_=>cases B
   .cases q
  split at q
  .rename_i _ _ o;subst o;split at q
   .rename_i a;obtain⟨f,q⟩:=aD q;obtain⟨u,g,i⟩:=c_ q
    rcases i
    obtain⟨⟨t,v,j⟩,d⟩:=mx h g;refine⟨Dl t,inferInstance,λX c=>?_⟩;obtain⟨l,n,_,_⟩:=jD c f;rw[XQ,Xn]at d;exact Bf l n (j X c) (a8 d.1)
   .rename_i a b;obtain⟨f,q⟩:=aD q;obtain⟨u,g,i⟩:=c_ q
    rcases i
    obtain⟨⟨t,v,j⟩,d⟩:=mx h g;refine⟨Dm t,inferInstance,λX c=>?_⟩;obtain⟨l,n,_,_⟩:=jD c f;rw[XQ,XQ,Xn,Xn]at d;have z:D' [b] X.aa=[(b_,z_ b X.aa)]:=a8 d.2.1;exact Bg l n (j X c) (by rw[a8 d.1,z]) z
   .cases q
  .exact ER h q
 .exact ER h q
end
noncomputable def qU (h:MH):U->Option String
 |.aQ=>Y "NoneType"
 |.bl _=>Y "bool"
 |.ab _=>Y "int"
 |.ae _=>Y "str"
 |.af _=>Y "tuple"
 |.ag _=>Y "list"
 |.dM _=>O
 |.ir _=>O
 |.aa _=>O
noncomputable def qe (A T:String):Bool:=A == T || (A == "bool"&&T == "int")
noncomputable def aaf:List String:=["NoneType","bool","int","str","tuple","list","dict"]
noncomputable def HW:List String:=["bool","int","str","tuple","list","dict"]
theorem zl (K:r_):∀ A∈aaf,∀ T∈HW,aav K (.type A) (.type T)=Y (qe A T):=by
 intro A a T b;simp only[aaf,HW,Xj,ac0,or_false]at a b;rcases a with rfl | rfl | rfl | rfl | rfl | rfl | rfl<;>rcases b with rfl | rfl | rfl | rfl | rfl | rfl<;>first | rfl | decide +kernel
theorem Ft {b:List J}{H:Hp}{h:MH}{u:U}{v:V}{A:String}(d:aX b H h)(k:t_ b H u v)(e:qU h u=Y A):lL kf.K H v (.type A)/\A∈aaf:=by
 induction k using t_.casesOn with
 |aQ=>rcases e;exact⟨.aQ,by decide⟩
 |bl=>rcases e;exact⟨.bl _,by decide⟩
 |aa=>rcases e;exact⟨.aa _,by decide⟩
 |ag=>rcases e;exact⟨.ae _,by decide⟩
 |af a c=>rcases e;exact⟨.af a,by decide⟩
 |ah f a c=>rcases e;exact⟨.ab a,by decide⟩
 |dM _ _=>exact nk e
 |ir _ _=>exact nk e
 |ae _=>exact nk e
def qR (T:String)(a:ME):ME:=λb h=>(a b h).bind λp=>(qU p.2 p.1).bind λA=>Y (.bl (qe A T),p.2)
theorem LK {T:String}{t:TE}{a:ME}(k:T∈HW)(A:SE t a):SE (Fn (Ma L T t kf.K) (Ma b_ T t kf.K)) (qR T a):=⟨λ{z H Q p C h u D} l m e q=>by
 obtain⟨⟨x,E⟩,n,s⟩:=c_ e;obtain⟨B,o,v⟩:=c_ s
 rcases v
 cases c:qe B T with
 |true=>
  refine .inl (A.go l m n λd w y f b g=>?_);obtain⟨i,j⟩:=Ft b g o;exact⟨rfl,⟨_,i,by rw[zl kf.K B j T k,c]⟩,by rw[<-c];exact q _ _ _ f b .bl⟩
 |false=>
  refine .inr (A.go l m n λd w y f b g=>?_);obtain⟨i,j⟩:=Ft b g o;exact⟨rfl,⟨_,i,by rw[zl kf.K B j T k,c]⟩,by rw[<-c];exact q _ _ _ f b .bl⟩⟩
section
variable {G:Ga}{r:afi}
noncomputable def Fz (c:M):Option String:=if c = "int" then Y "int" else if c = "str" then Y "str" else if c = "tuple" then Y "tuple" else if c = "list" then Y "list" else if c = "dict" then Y "dict" else if c = "bool" then Y "bool" else O
theorem Ad:WO "str" = Y (.type "str"):=by decide +kernel
theorem wK:WO "bool" = Y (.type "bool"):=by decide +kernel
theorem FA {c:M}{T:String}(e:Fz c=Y T):T∈HW/\WO c=Y (.type T):=by
 unfold Fz at e;split at e
 .rename_i h;rcases e;subst h;exact⟨by decide,aem⟩
 split at e
 .rename_i h;rcases e;subst h;exact⟨by decide,Ad⟩
 split at e
 .rename_i h;rcases e;subst h;exact⟨by decide,aeo⟩
 split at e
 .rename_i h;rcases e;subst h;exact⟨by decide,aen⟩
 split at e
 .rename_i h;rcases e;subst h;exact⟨by decide,ael⟩
 split at e
 .rename_i h;rcases e;subst h;exact⟨by decide,wK⟩
 .exact nk e
def Nq (r:afi)(G:Ga)(e:e_)(c:M):Option ME:=if G.aa "isinstance" = L/\G.aa c=L/\Yb e=L then(Fz c).bind λT=>(r.e G e).bind λa=>Y (qR T a) else O
theorem F8 {e:e_}{c:M}{p s pos:u_}{m:ME}(h:mh kf.K r)(q:Nq r G e c=Y m):nj kf.K G (.Call (.Name "isinstance" p) [e,.Name c s] [] pos) m:=by
 obtain⟨⟨u,v,d⟩,q⟩:=aD q;obtain⟨T,w,q⟩:=c_ q;obtain⟨a,x,q⟩:=c_ q
 rcases q
 obtain⟨y,f⟩:=FA w;obtain⟨t,z,g⟩:=h.1 G e a x;refine⟨_,LK y z,λX b=>?_⟩;obtain⟨i,j,_,_⟩:=jD b u;obtain⟨k,l,n,o⟩:=jD b v;rw[<-b.hK];exact vM (Eb (g X b) j l f i k o n (a8 d)) (Eb (g X b) j l f i k o n (a8 d))
theorem wL:WO "repr" = Y (.builtin "repr"):=by decide +kernel
theorem jm.gd {X:Cx}(a:jm kf.K G X):X.A.guards=Y []:=let ⟨_,r⟩:=a.rm;r.gd
def Jv (x:M):Option MF:=
 if x = "len" then Y fj else if x = "list" then Y g8 else if x = "tuple" then Y fH else if x = "int" then Y oT else if x = "max" then Y qo
 else if x = "min" then Y t9 else if x = "sum" then Y HK else if x = "dict" then Y kg else if x = "repr" then Y lG else O
theorem Ak {X:Cx}:eL X (.builtin "len") (Oq X.K):=sZ.or (tf.or Aj)
theorem F7 {x:M}{f:MF}{e:e_}{es:List e_}{p pos:u_}{t:TA}{m:MA}(q:Jv x=Y f)(st:SA t m)(n:∀ X,jm kf.K G X->PA X (e::es) t)(hb:G.aa x=L)(g:(e::es).all Yb=L) :
  nj kf.K G (.Call (.Name x p) (e::es) [] pos) (eB f m):=by
 rw[XQ,Xn]at g;have i:∀ {b:List V->Hp->VK->Prop}{d:String},SC b f->WO x=Y (.builtin d)->(∀ X,jm kf.K G X->eL X (.builtin d) b)->nj kf.K G (.Call (.Name x p) (e::es) [] pos) (eB f m):=λ{b d} j k l=>
  ⟨OZ b t,Jc (F:=j) (A:=st),λX a=>let ⟨g1,g2,g3,g4⟩:=jD a hb;D5 (l X a) g1 g2 k (n X a) g4 g3 (a8 g.1) (iF g.2)⟩
 have c:∀ {b:List V->Hp->VK->Prop}{d:String},SC b f->WO x=Y (.type d)->(∀ X,jm kf.K G X->eL X (.type d) b)->nj kf.K G (.Call (.Name x p) (e::es) [] pos) (eB f m):=λ{b d} j k l=>
  ⟨OZ b t,Jc (F:=j) (A:=st),λX a=>let ⟨g1,g2,g3,g4⟩:=jD a hb;Bc (l X a) g1 g2 k (n X a) g4 g3 (a8 g.1) (iF g.2)⟩
 unfold Jv at q;split at q
 .rename_i h;rcases q;subst h;exact i (LA) PySem.boot_len λX a=>by rw[<-a.hK];exact Ak
 split at q
 .rename_i h;rcases q;subst h;exact c (Hr) aen λX a=>by rw[<-a.hK];exact ti
 split at q
 .rename_i h;rcases q;subst h;exact c (LF) aeo λX a=>by rw[<-a.hK];exact qK
 split at q
 .rename_i h;rcases q;subst h;exact c Lz aem λX a=>Ai
 split at q
 .rename_i h;rcases q;subst h;exact i LB ae3 λX a=>Al a.aa
 split at q
 .rename_i h;rcases q;subst h;exact i LC ae4 λX a=>Am a.aa
 split at q
 .rename_i h;rcases q;subst h;exact i (LD) ae5 λX a=>by rw[<-a.hK];exact CA a.aa
 split at q
 .rename_i h;rcases q;subst h;exact c Hq ael λX a=>wV a.aa
 split at q
 .rename_i h;rcases q;subst h;exact i (Hs) wL λX a=>An a.gd a.un
 .cases q
def Ca (r:afi)(G:Ga)(x:M)(a:List e_):Option ME:=match a with
 |[]=>O
 |e::b=>(cA r G (e::b)).bind λm=>if G.ab x=L then(match G.fs.lookup x with
   |some (n,f)=>Y (ah n f m)
   |none=>match G.cs.lookup x with
    |some (C,n,f)=>Y (rR C n f m)
    |none=>if G.aa x=L then(Jv x).bind λf=>Y (eB f m) else O) else O
theorem Cb {x:M}{b:List e_}{p pos:u_}{m:ME}(h:mh kf.K r)(q:Ca r G x b=Y m):nj kf.K G (.Call (.Name x p) b [] pos) m:=by
 unfold Ca at q;split at q
 .cases q
 .rename_i e D;obtain⟨a,v,q⟩:=c_ q;obtain⟨u,q⟩:=aD q;obtain⟨⟨t,w,d⟩,g⟩:=mx h v;split at q
  .rename_i n f i
   rcases q
   have AJ:=g;rw[XQ,Xn]at AJ;refine⟨zR (nq n f) [] E0 t,inferInstance,λX c=>?_⟩;obtain⟨k,y,z,j⟩:=c.fs x n f i;obtain⟨l,o,_⟩:=pd c u;exact N9 z j (d X c) l o (a8 AJ.1) (iF AJ.2)
  .split at q
   .rename_i C n f i
    rcases q
    have AJ:=g;rw[XQ,Xn]at AJ;refine⟨Fg C (nq n f) [] E0 t,inferInstance,λX c=>?_⟩;obtain⟨k,y,E,H,aff,F,j,A,s⟩:=c.cs x C n f i;obtain⟨l,o,_⟩:=pd c u;exact G4 aff F j l A s .nil zy (d X c) o (a8 AJ.1) (iF AJ.2)
   .obtain⟨s,q⟩:=aD q;obtain⟨f,B,q⟩:=c_ q
    rcases q
    exact F7 B w d s g
noncomputable def gN:e_->Bool
 |.Call _ _ _ _=>b_
 |_=>L
theorem gq {o:e_}{f:M}{env:H_}(h:gN o=L):YG o f env (z_ o env)=z_ o env:=by
 cases o<;>first | rfl | cases h
def IY (x:M):Option (U->List U->MH->Option (U×MH)):=if x = "append" then Y aL else if x = "extend" then Y iX else if x = "pop" then Y zD else O
def IW (x:M):Option (U->List U->MH->Option (U×MH)):=if x = "pop" then Y Eh else if x = "clear" then Y tm else O
def Ck (r:afi)(G:Ga)(a:ME)(x:M)(e:e_):Option ME:=if Yb e=L then(IY x).bind λg=>(r.e G e).bind λb=>Y (fy g a (aa b ae)) else O
def Iz (r:afi)(G:Ga)(a:ME)(x:M)(e f:e_):Option ME:=if x = "get"/\Yb e=L/\Yb f=L then(r.e G e).bind λb=>(r.e G f).bind λc=>Y (fC a b c) else O
def Cm (r:afi)(G:Ga)(a:ME)(x:M)(b:List e_):Option ME:=match b with
 |[]=>(IW x).bind λg=>Y (fy g a ae)
 |[e]=>Ck r G a x e
 |[e,f]=>Iz r G a x e f
 |_=>O
def Jx (r:afi)(G:Ga)(a:ME)(x:M)(b:List e_)(C:J)(n:Nat)(f:MF):Option ME:=match b with
 |[]=>Y (bX C x n f a ae)
 |e::c=>if (e::c).length<29 then(cA r G (e::c)).bind λm=>Y (bX C x n f a m) else O
def IB (r:afi)(G:Ga)(o:e_)(x:M)(b:List e_)(c d:u_):Option ME:=
 if (c.endLine == d.line)=L/\gN o=L then(r.e G o).bind λa=>match G.ms.lookup x with
  |some (C,n,f)=>Jx r G a x b C n f
  |none=>Cm r G a x b else O
theorem vY {pos:u_}{env:H_}:∀ {es:List e_},es.all Yb=L->(P_ pos (D' es env)).all (λx=>!x.1)=L
 |[],_=>rfl
 |e::es,h=>by
  rw[XQ,Xn]at h;rw[a8 h.1];show(L&&(P_ pos (D' es env)).all (λx=>!x.1))=L;rw[vY h.2];rfl
theorem F9 {o:e_}{a:ME}{x:M}{d:List e_}{g i:u_}{C:J}{n:Nat}{f:MF}{m:ME}(h:mh kf.K r)(v:(g.endLine == i.line)=L)(w:gN o=L)(B:nj kf.K G o a)(l:G.ms.lookup x=Y (C,n,f))(q:Jx r G a x d C n f=Y m):nj kf.K G (.Call (.Attribute o x g) d [] i) m:=by
 obtain⟨t,U,y⟩:=B;unfold Jx at q;split at q
 .rcases q
  refine⟨wg C x (nq n f) [] E0 t uv,inferInstance,λX j=>?_⟩;obtain⟨k,D,E,H,c,p,F,s,u⟩:=j.ms x C n f l;exact Bd (y X j) c p F s u .nil zy (gq w) v
 .rename_i e I;obtain⟨z,N⟩:=aD q;obtain⟨b,P,Q⟩:=c_ N
  rcases Q
  obtain⟨⟨S,V,T⟩,A⟩:=mx h P;refine⟨wg C x (nq n f) [] E0 t S,inferInstance,λX j=>?_⟩;obtain⟨k,D,E,H,c,p,F,s,u⟩:=j.ms x C n f l;have AJ:=A;rw[XQ,Xn]at AJ;refine Ec (y X j) c p F s u .nil zy (T X j) (gq w) ?_ v (a8 AJ.1) (iF AJ.2);rw[vY A];show(L&&L&&j' ((e::I).length+0+0<30))=L;rw[decide_eq_true ⋯];rfl
theorem Af {o:e_}{a:ME}{x:M}{e:e_}{f c:u_}{m:ME}(h:mh kf.K r)(n:(f.endLine == c.line)=L)(p:gN o=L)(w:nj kf.K G o a)(q:Ck r G a x e=Y m):nj kf.K G (.Call (.Attribute o x f) [e] [] c) m:=by
 obtain⟨t,C,s⟩:=w;obtain⟨j,y⟩:=aD q;obtain⟨g,i,z⟩:=c_ y;obtain⟨b,A,B⟩:=c_ z
 rcases B
 obtain⟨u,D,v⟩:=h.1 G e b A;have k:∀ (X:Cx),((P_ c (D' [e] X.aa)).all (λx=>!x.1)&&(Zc c (Zd [] X.aa)).all (λx=>x.1.isSome)&&j' (([e]:List e_).length+([]:List Yj).length+(if ([]:List Yj).isEmpty then 0 else 1)<30))=true:=λX=>by
  rw[a8 j];rfl
 unfold IY at i;split at i
 .rename_i l;rcases i;subst l;exact⟨OY kf.K "list" ug t (oO u uv),inferInstance,λX d=>by rw[<-d.hK];exact D3 ZV ad5 PySem.F.type_list_append nU (s X d) (k7 (v X d) qq (a8 j)) (gq p) (k X) n (a8 j) rfl⟩
 split at i
 .rename_i l;rcases i;subst l;exact⟨OY kf.K "list" uh t (oO u uv),inferInstance,λX d=>by rw[<-d.hK];exact D3 ZV ad7 PySem.F.type_list_extend A6 (s X d) (k7 (v X d) qq (a8 j)) (gq p) (k X) n (a8 j) rfl⟩
 split at i
 .rename_i l;rcases i;subst l;exact⟨OY kf.K "list" yb t (oO u uv),inferInstance,λX d=>by rw[<-d.hK];exact D3 ZV aaE ad8 DU (s X d) (k7 (v X d) qq (a8 j)) (gq p) (k X) n (a8 j) rfl⟩
 .exact nk i
theorem Cj {o:e_}{a:ME}{x:M}{e f:e_}{d g:u_}{m:ME}(h:mh kf.K r)(l:(d.endLine == g.line)=L)(n:gN o=L)(p:nj kf.K G o a)(q:Iz r G a x e f=Y m):nj kf.K G (.Call (.Attribute o x d) [e,f] [] g) m:=by
 obtain⟨t,H,s⟩:=p;obtain⟨⟨u,v,j⟩,w⟩:=aD q;obtain⟨b,y,z⟩:=c_ w;obtain⟨c,A,B⟩:=c_ z
 rcases B
 rw[u];obtain⟨C,I,D⟩:=h.1 G e b y;obtain⟨E,N,F⟩:=h.1 G f c A;have k:∀ X:Cx,D' [e,f] X.aa=[(b_,z_ e X.aa),(b_,z_ f X.aa)]:=λX=>by
  rw[a8 v,a8 j];rfl
 refine⟨yq t C E,inferInstance,λX i=>D7 i.un (s X i) (D X i) (F X i) ⟨gq n,?_,l,?_⟩⟩
 .rw[k X];rfl
 .rw[k X];rfl
theorem Cn {o:e_}{x:M}{b:List e_}{c d:u_}{m:ME}(h:mh kf.K r)(q:IB r G o x b c d=Y m):nj kf.K G (.Call (.Attribute o x c) b [] d) m:=by
 obtain⟨⟨j,k⟩,w⟩:=aD q;obtain⟨a,y,e⟩:=c_ w;have p:=h.1 G o a y;split at e
 .rename_i C n f s;exact F9 h j k p s e
 unfold Cm at e;split at e
 .obtain⟨t,A,v⟩:=p;obtain⟨g,i,z⟩:=c_ e
  rcases z
  unfold IW at i;split at i
  .rename_i u;rcases i;subst u;exact⟨HL kf.K "list" Lh t,inferInstance,λX l=>by rw[<-l.hK];exact D4 ZV aaE ad8 Km (v X l) (gq k) j⟩
  split at i
  .rename_i u;rcases i;subst u;exact⟨HL kf.K "list" ya t,inferInstance,λX l=>by rw[<-l.hK];exact D4 ZV ad6 PySem.F.type_list_clear DT (v X l) (gq k) j⟩
  .exact nk i
 .exact Af h j k p e
 .exact Cj h j k p e
 .cases e
noncomputable def Qy (r:afi)(G:Ga):List (Option e_)->List e_->Option MP
 |[],[]=>Y eD
 |some k::d,v::f=>(r.e G k).bind λa=>(r.e G v).bind λb=>(Qy r G d f).bind λc=>Y (aB a b c)
 |_,_=>O
theorem Cq (h:mh kf.K r){pos:u_}:∀ {ks:List (Option e_)}{vs:List e_}{m:MP},Qy r G ks vs=Y m->∃ t,Nk t m/\(∀ X,jm kf.K G X->Nh X pos ks vs t)/\ks.all (·.isSome)=L/\ks.length=vs.length
 |[],[],m,e=>by rcases e;exact⟨[],inferInstance,λX _=>G9,rfl,rfl⟩
 |some k::ks,v::vs,m,e=>by
  obtain⟨a,f,e⟩:=c_ (show(r.e G k).bind _=Y _ from e);obtain⟨b,g,e⟩:=c_ e;obtain⟨c,i,e⟩:=c_ e
  rcases e
  obtain⟨j,u,l⟩:=h.1 G k a f;obtain⟨n,w,o⟩:=h.1 G v b g;obtain⟨t,x,p,q,s⟩:=Cq h (pos:=pos) i;exact⟨(j,n)::t,inferInstance,λX d=>Ei (l X d) (o X d) (p X d),by rw[XQ,q];rfl,by rw[Xa,Xa,s]⟩
 |[],_::_,m,e=>by exact nk e
 |none::_,_,m,e=>by exact nk e
 |some _::_,[],m,e=>by exact nk e
def QE (n:Nat):ME:=if n=1 then xJ else qk
theorem JI (n:Nat):∃ t,SE t (QE n)/\∀ (X:Cx) (pos:u_),PE X (.Dict [] [] pos) t:=by
 unfold QE;split
 .exact⟨yt,EM,λ_ _=>D9⟩
 .exact⟨yr,EL,λ_ _=>D8⟩
def Cf (r:afi)(G:Ga)(ks:List (Option e_))(vs:List e_):Option ME:=match ks with
 |[]=>match vs with | []=>Y (QE G.em) | _=>O
 |k::ks=>if (k::ks).length<=15 then(Qy r G (k::ks) vs).bind λm=>Y (eC m) else O
theorem Cg {ks:List (Option e_)}{vs:List e_}{pos:u_}{m:ME}(h:mh kf.K r)(q:Cf r G ks vs=Y m):nj kf.K G (.Dict ks vs pos) m:=by
 unfold Cf at q;split at q
 .split at q
  .rcases q
   obtain⟨t,c,b⟩:=JI G.em;exact⟨t,c,λX _=>b X pos⟩
  .cases q
 .obtain⟨d,q⟩:=aD q;obtain⟨a,e,q⟩:=c_ q
  rcases q
  obtain⟨t,c,b,f,g⟩:=Cq h (pos:=pos) e;exact⟨Fc t,inferInstance,λX i=>G3 (b X i) f g (λz=>nomatch z) d⟩
end
section
variable {G:Ga}{r:afi}
noncomputable def acz:Q'->Bool
 |.free=>L
 |_=>b_
noncomputable def tJ:List (M×Q')->List M
 |[]=>[]
 |(n,k)::r=>if acz k=L then n::tJ r else tJ r
noncomputable def HR:e_->List M
 |.Name x _=>[x]
 |.Tuple a _ _=>a.flatMap λe=>match e with | .Name x _=>[x] | _=>[]
 |_=>[]
def JG (G:Ga)(scope:J')(a:List M):List (Option Nat):=a.map λx=>match scope.names.lookup x with
 |some .free=>Yx x G.N
 |_=>O
def n8 (G:Ga)(scope:J')(a:List M)(ix:List (Option Nat)):Prop:=scope.kind=.function/\(∀ y∈scope.names,y.2≠.cell)/\(∀ y∈scope.names,y.2=.local->scope.names.lookup y.1=Y .local)/\
 (∀ y∈scope.names,y.2=.free->G.nm.lookup y.1=Y .cell\/G.nm.lookup y.1=Y .free)/\ix.length=a.length/\a.Nodup/\NV G.N a scope ix=L
instance {G:Ga}{scope:J'}{a:List M}{ix:List (Option Nat)}:Decidable (n8 G scope a ix):=by unfold n8;infer_instance
theorem n8.ok {X:Cx}{scope:J'}{j:List M}{ix:List (Option Nat)}(h:n8 G scope j ix)(i:jm kf.K G X):hU X.N X.aa.scope j scope ix:=by
 obtain⟨a,b,c,d,e,f,g⟩:=h;refine⟨a,b,c,λy k l=>?_,e,f,by rw[i.hN];exact g⟩;rcases d y k l with z | z
 .exact .inl (i.ae _ z).1
 .exact i.ah _ z
theorem fL {env:H_}:∀ {a:List (M×Q')}{x:M}{k:Q'},k≠.free->a.lookup x=Y k->
  (a.map λ(n,k)=>if (k == X'&&env.scope.kind == .function&&env.kindOf n == Y .cell) then(n,aa1) else(n,k)).lookup x=Y k
 |[],_,_,_,h=>by simp at h
 |(n,d)::r,x,k,e,h=>by
  have f:=@fL env r x k e;rw[Xq];rw[Xf]at h;cases b:x == n with
  |false=>
   rw[b]at h;by_cases c:(d == X'&&env.scope.kind == .function&&env.kindOf n == Y .cell)=L
   .simp only[c,if_true,Xf,b];exact f h
   .simp only[Zl.mpr c,if_false,Xf,b,XX];exact f h
  |true=>
   rw[b]at h;have h':d=k:=Xe h;subst h';have c:(d == X')=false:=by simpa using e
   simp only[c,ado,if_false,Xf,b,XX]
theorem jm.ab {X:Cx}{scope:J'}{k:List M}{ix:List (Option Nat)}(i:jm kf.K G X)(h:n8 G scope k ix)(cl:List (M×J))(C:J)(s:d_)(H:Hp)(l:List J) :
  jm kf.K {G with N:=k,nm:=scope.names} (bT X k scope cl C s H l):=by
 obtain⟨a,b,c,d,e,f,g⟩:=h;refine⟨i.hK,rfl,f,i.aa,a,λx j=>?_,λx j=>fL ∅ j,λx j=>absurd rfl (b (x,.cell) (XN j)),λx j=>gx j,λx j=>fL ∅ j,i.fs,i.bl,i.un,i.rm,aeh,i.tb,i.cs,i.ms⟩;rcases j with z | z | z
 .exact .inl (fL ∅ z)
 .exact absurd rfl (b (x,.cell) (XN z))
 .exact .inr (gx z)
def Np (r:afi)(G:Ga):List e_->Option (Option MT)
 |[]=>Y O
 |[c]=>(r.t G c).bind λm=>Y (Y m)
 |_=>O
def uS (r:afi)(G:Ga)(elt f b:e_)(h:List e_)(scope:J'):Option ME:=
 let d:=HR f++tJ scope.names;let i:=JG G scope d
 if n8 G scope d i/\ja b=L then(cI r G f b).bind λj=>(Nr {G with N:=d,nm:=scope.names} f).bind λg=>(r.e {G with N:=d,nm:=scope.names} elt).bind λa=>
  (Np r {G with N:=d,nm:=scope.names} h).bind λc=>Y (di i j g (c.getD dB) a)
 else O
inductive Qm (G:Ga)(elt tg iter:e_)(scope:J')(m:ME):List e_->Prop
 |a (N':List M) (ix:List (Option Nat)) (wi:TI) (g:TG) (te:TE):n8 G scope N' ix->ja iter=L->SE (we ix wi g te) m->(∀ X,jm kf.K G X->PI X tg iter wi)->(∀ X,jm kf.K {G with N:=N',nm:=scope.names} X->PG X tg g)->(∀ X,jm kf.K {G with N:=N',nm:=scope.names} X->PE X elt te)->Qm G elt tg iter scope m []
 |b (N':List M) (ix:List (Option Nat)) (wi:TI) (g:TG) (tc:TT) (te:TE) (c:e_):n8 G scope N' ix->ja iter=L->SE (yp ix wi g tc te) m->(∀ X,jm kf.K G X->PI X tg iter wi)->(∀ X,jm kf.K {G with N:=N',nm:=scope.names} X->PG X tg g)->(∀ X,jm kf.K {G with N:=N',nm:=scope.names} X->PT X c tc)->(∀ X,jm kf.K {G with N:=N',nm:=scope.names} X->PE X elt te)->Qm G elt tg iter scope m [c]
theorem uT {elt i d:e_}{ifs:List e_}{scope:J'}{m:ME}(h:mh kf.K r)(q:uS r G elt i d ifs scope=Y m):Qm G elt i d scope m ifs:=by
 unfold uS at q;dsimp only at q;obtain⟨⟨j,k⟩,t⟩:=aD q;obtain⟨F,u,v⟩:=c_ t;obtain⟨g,w,x⟩:=c_ v;obtain⟨a,y,z⟩:=c_ x;obtain⟨c,e,A⟩:=c_ z
 rcases A
 obtain⟨l,H,n⟩:=IA h u;obtain⟨f,I,o⟩:=wU w;obtain⟨p,N,s⟩:=h.1 _ _ _ y;unfold Np at e;split at e
 .rcases e
  exact .a _ _ l f p j k inferInstance n o s
 .obtain⟨P,B,C⟩:=c_ e
  rcases C
  obtain⟨D,Q,E⟩:=h.2 _ _ _ B;exact .b _ _ l f D p _ j k inferInstance n o E s
 .exact nk e
theorem Cd {elt p e:e_}{i:List e_}{scope:J'}{pos:u_}{m:ME}(h:mh kf.K r)(q:uS r G elt p e i scope=Y m):nj kf.K G (.ListComp elt [⟨p,e,i,0⟩] scope pos) m:=by
 rcases uT h q with⟨t,u,v,g,w,f,j,k,l,n,o⟩ | ⟨t,u,v,g,y,w,c,f,j,k,l,n,x,o⟩
 .exact⟨_,k,λX a=>zA a.aa (f.ok a) (l X a) (λb C s H d=>n _ (a.ab f b C s H d)) (λb C s H d=>o _ (a.ab f b C s H d)) (mI j)⟩
 .exact⟨_,k,λX a=>D6 a.aa (f.ok a) (l X a) (λb C s H d=>n _ (a.ab f b C s H d)) (λb C s H d=>x _ (a.ab f b C s H d)) (λb C s H d=>o _ (a.ab f b C s H d)) (mI j)⟩
noncomputable def aad (r:afi)(G:Ga)(op:BoolOp):List e_->Option ME
 |[]=>O
 |[a]=>r.e G a
 |a::b=>(r.e G a).bind λx=>(aad r G op b).bind λy=>Y (match op with | .And=>oJ x y | .Or=>ql x y)
theorem uR {op:BoolOp}{pos:u_}(h:mh kf.K r):∀ {vs:List e_}{m:ME},aad r G op vs=Y m->nj kf.K G (.BoolOp op vs pos) m
 |[],m,e=>by exact nk e
 |[a],m,e=>by
  obtain⟨t,g,f⟩:=h.1 G a m e;exact⟨t,g,λX d=>KR (f X d)⟩
 |a::b::c,m,e=>by
  obtain⟨x,j,e⟩:=c_ (show(r.e G a).bind _=Y _ from e);obtain⟨y,k,e⟩:=c_ e
  rcases e
  obtain⟨t,g,f⟩:=h.1 G a x j;obtain⟨u,l,i⟩:=uR (op:=op) (pos:=pos) h k;cases op with
  |And=>exact⟨E9 t u,inferInstance,λX d=>KI (f X d) (i X d)⟩
  |Or=>exact⟨Md t u,inferInstance,λX d=>L2.vM (f X d) (i X d)⟩
noncomputable def wO (r:afi)(G:Ga)(op:BoolOp):List e_->Option MT
 |[]=>O
 |[a]=>r.t G a
 |a::b=>(r.t G a).bind λx=>(wO r G op b).bind λy=>Y (match op with | .And=>lq x y | .Or=>qS x y)
theorem rj {op:BoolOp}{pos:u_}(h:mh kf.K r):∀ {vs:List e_}{m:MT},wO r G op vs=Y m->∃ t,ST t m/\∀ X,jm kf.K G X->PW X (.BoolOp op vs pos) t
 |[],m,e=>by exact nk e
 |[a],m,e=>by
  obtain⟨t,g,f⟩:=h.2 G a m e;cases op with
  |And=>exact⟨t,g,λX d=>acs (f X d)⟩
  |Or=>exact⟨t,g,λX d=>acx (f X d)⟩
 |a::b::c,m,e=>by
  obtain⟨x,j,e⟩:=c_ (show(r.t G a).bind _=Y _ from e);obtain⟨y,k,e⟩:=c_ e
  rcases e
  obtain⟨t,g,f⟩:=h.2 G a x j;obtain⟨u,l,i⟩:=rj (op:=op) (pos:=pos) h k;cases op with
  |And=>exact⟨L6 t u,inferInstance,λX d=>acw (f X d) (i X d)⟩
  |Or=>exact⟨Sl t u,inferInstance,λX d=>acD (f X d) (i X d)⟩
def Cp (r:afi)(G:Ga):Option e_->Option sN
 |none=>Y bo
 |some e=>(r.e G e).bind λa=>Y (b8 a)
theorem uU (h:mh kf.K r):∀ {o:Option e_}{m:sN},Cp r G o=Y m->∃ t,Jm t m/\∀ X,jm kf.K G X->PO X o t
 |none,m,e=>by rcases e;exact⟨fu,inferInstance,λX _=>mW⟩
 |some x,m,e=>by
  obtain⟨a,b,e⟩:=c_ (show(r.e G x).bind _=Y _ from e)
  rcases e
  obtain⟨t,f,c⟩:=h.1 G x a b;exact⟨wh t,inferInstance,λX d=>ud (c X d)⟩
def Jy (r:afi)(G:Ga)(a s:e_):Option ME:=(r.e G a).bind λx=>match s with
 |.Slice c d O _=>(Cp r G c).bind λl=>(Cp r G d).bind λu=>Y (lS x l u)
 |.Slice O O (Y b) _=>(r.e G b).bind λy=>Y (if acA b=L then zt x (b8 y) else vE x (b8 y))
 |.Slice _ _ _ _=>O
 |i=>(r.e G i).bind λy=>Y (ao x y)
theorem yS {a s:e_}{pos:u_}{m:ME}(h:mh kf.K r)(q:Jy r G a s=Y m):nj kf.K G (.Subscript a s pos) m:=by
 obtain⟨x,p,c⟩:=c_ q;obtain⟨t,k,d⟩:=h.1 G a x p;split at c
 .obtain⟨l,e,f⟩:=c_ c;obtain⟨u,v,w⟩:=c_ f
  rcases w
  obtain⟨z,E,A⟩:=uU h e;obtain⟨B,F,C⟩:=uU h v;exact⟨Sn (Hk kf.K) t z B,inferInstance,λX b=>by rw[<-b.hK];exact Ed LQ (d X b) (A X b) (C X b)⟩
 .obtain⟨y,e,f⟩:=c_ c
  rcases f
  obtain⟨j,n,g⟩:=h.1 G _ y e;split
  .exact⟨Fp (yc kf.K) t fu fu (wh j),inferInstance,λX b=>by rw[<-b.hK];exact r9 EV (d X b) mW mW (ud (g X b))⟩
  .exact⟨Fp (x9 kf.K) t fu fu (wh j),Ht k inferInstance,λX b=>by rw[<-b.hK];exact r9 EU (d X b) mW mW (ud (g X b))⟩
 .cases c
 .rename_i i H I D;obtain⟨y,e,f⟩:=c_ c
  rcases f
  obtain⟨j,n,g⟩:=h.1 G _ y e;have o:mT s=true:=by
   cases s<;>first | rfl | exact absurd rfl (D _ _ _ _)
  exact⟨_,LL k n,λX b=>by rw[<-b.hK];exact S.vM (G2 b.un (d X b) (g X b) (qt o)) (Oa J0 (d X b) (g X b) (qt o))⟩
def Ct (r:afi)(G:Ga)(a s:e_):Option ME:=match a with
 |.Name x _=>(match G.tb.lookup x with
  |some t=>if G.ab x=L/\mT s=L then(r.e G s).bind λy=>Y (pv t y) else O
  |none=>Jy r G a s)
 |a=>Jy r G a s
theorem Cu {a s:e_}{pos:u_}{m:ME}(h:mh kf.K r)(q:Ct r G a s=Y m):nj kf.K G (.Subscript a s pos) m:=by
 unfold Ct at q;split at q
 .split at q
  .rename_i t c;obtain⟨⟨d,e⟩,f⟩:=aD q;obtain⟨y,g,i⟩:=c_ f
   rcases i
   obtain⟨j,o,k⟩:=h.1 G _ y g;refine⟨ux kf.K t j,inferInstance,λX b=>?_⟩;obtain⟨l,n,_⟩:=pd b d;rw[<-b.hK];exact Be (b.tb _ _ c) l n (k X b) (qt e)
  .exact yS h q
 .exact yS h q
def Iw (r:afi)(G:Ga)(a:e_)(op:X_)(b:e_):Option ME:=if ja b=L then(r.e G a).bind λx=>(r.e G b).bind λy=>Jw op x y else O
theorem Cc {a b:e_}{op:X_}{pos:u_}{m:ME}(h:mh kf.K r)(q:Iw r G a op b=Y m):nj kf.K G (.Compare a [op] [b] pos) m:=by
 obtain⟨c,d⟩:=aD q;obtain⟨x,e,f⟩:=c_ d;obtain⟨y,g,i⟩:=c_ f;exact(yP (h.1 G _ x e) (h.1 G _ y g) c i).1
end
section
variable {G:Ga}{r:afi}
def Ce:Const->Option ME
 |.int i=>Y (mC (.ab i))
 |.bool b=>Y (mC (.bl b))
 |.none=>Y (mC .aQ)
 |.str x=>Y (mC (.ae x))
 |_=>O
theorem Ae {c:Const}{k:Nat}{pos:u_}{m:ME}(q:Ce c=Y m):nj kf.K G (.Constant c k pos) m:=by
 cases c<;>first
  |(rcases q;exact⟨_,LJ,λX _=>KN⟩)
  |(rcases q;exact⟨_,OL,λX _=>N8⟩)
  |(rcases q;exact⟨_,LM,λX _=>KP⟩)
  |(rcases q;exact⟨_,LN,λX _=>KS⟩)
  |cases q
def SW (op:UnaryOp)(x:ME):Option ME:=match op with
 |.Not=>Y (DK x)
 |.USub=>Y (bU vI x)
 |_=>O
theorem JA {op:UnaryOp}{a:e_}{pos:u_}{x m:ME}(h:nj kf.K G a x)(q:SW op x=Y m):nj kf.K G (.UnaryOp op a pos) m:=by
 obtain⟨t,d,c⟩:=h;cases op<;>first
  |(rcases q;exact⟨Fj t,inferInstance,λX b=>KQ (c X b)⟩)
  |(rcases q;exact⟨So _ t,OO (G:=L4) (A:=d),λX b=>Oc Mo (c X b)⟩)
  |cases q
def Qx (r:afi)(G:Ga)(elt:e_)(gens:List Comprehension)(scope:J'):Option ME:=match gens with
 |[⟨c,a,b,0⟩]=>uS r G elt c a b scope
 |_=>O
def Je (r:afi)(G:Ga):e_->Option ME
 |.Constant c _ _=>Ce c
 |.Name x _=>IC G x
 |.BinOp a h b _=>(PQ a h).bind λg=>(r.e G a).bind λx=>(r.e G b).bind λy=>Y (aw g x y)
 |.UnaryOp h a _=>(r.e G a).bind λx=>SW h x
 |.BoolOp h p _=>aad r G h p
 |.IfExp c a b _=>(r.t G c).bind λk=>(r.e G a).bind λx=>(r.e G b).bind λy=>Y (zq k x y)
 |.Compare a [h] [b] _=>Iw r G a h b
 |.Tuple q _ _=>(cA r G q).bind λm=>Y (av m)
 |.List q _=>(cA r G q).bind λm=>Y (bj m)
 |.Subscript a s _=>Ct r G a s
 |.Attribute o f _=>if gN o=L then(r.e G o).bind λa=>Y (bU (aM G.ck.cl f) a) else O
 |.Call (.Name x _) d [] _=>if x = "isinstance" then(match d with
   |[e,.Name c _]=>Nq r G e c
   |_=>O) else Ca r G x d
 |.Call (.Attribute o x j) d [] l=>IB r G o x d j l
 |.Dict v p _=>Cf r G v p
 |.ListComp u n i _=>Qx r G u n i
 |_=>O
theorem E1 (h:mh kf.K r){e:e_}{m:ME}(q:Je r G e=Y m):nj kf.K G e m:=by
 cases e with
 |Constant c k p=>exact Ae q
 |Name x p=>exact Co q
 |BinOp a B b p=>
  obtain⟨g,C,v⟩:=c_ (show(PQ a B).bind _=Y _ from q);obtain⟨x,i,j⟩:=c_ v;obtain⟨y,D,E⟩:=c_ j
  rcases E
  obtain⟨T,so,U⟩:=Kt C;obtain⟨t,w,l⟩:=h.1 G _ x i;obtain⟨u,V,F⟩:=h.1 G _ y D;exact⟨Fm T t u,inferInstance,λX d=>Ob (U X) (l X d) (F X d)⟩
 |UnaryOp B a p=>
  obtain⟨x,i,j⟩:=c_ (show(r.e G a).bind _=Y _ from q);exact JA (h.1 G _ x i) j
 |BoolOp B W p=>exact uR h q
 |IfExp c a b p=>
  obtain⟨k,C,v⟩:=c_ (show(r.t G c).bind _=Y _ from q);obtain⟨x,i,j⟩:=c_ v;obtain⟨y,D,E⟩:=c_ j
  rcases E
  obtain⟨Z,sc,pc⟩:=h.2 G _ k C;obtain⟨t,w,l⟩:=h.1 G _ x i;obtain⟨u,V,F⟩:=h.1 G _ y D;exact⟨Sk Z t u,inferInstance,λX d=>Ea (pc X d) (l X d) (F X d)⟩
 |Compare a H bs p=>
  rcases H with _ | ⟨B,_ | ⟨_,_⟩⟩
  .exact nk q
  .rcases bs with _ | ⟨b,_ | ⟨_,_⟩⟩
   .exact nk q
   .exact Cc h q
   .exact nk q
  .exact nk q
 |Tuple I k p=>
  obtain⟨x,i,j⟩:=c_ (show(cA r G I).bind _=Y _ from q)
  rcases j
  obtain⟨⟨t,w,l⟩,_⟩:=mx h i;exact⟨Mg t,inferInstance,λX d=>KU (l X d)⟩
 |List I p=>
  obtain⟨x,i,j⟩:=c_ (show(cA r G I).bind _=Y _ from q)
  rcases j
  obtain⟨⟨t,w,l⟩,_⟩:=mx h i;exact⟨Mb t,inferInstance,λX d=>KO (l X d)⟩
 |Subscript a s p=>exact Cu h q
 |Attribute o f p=>
  obtain⟨hn,v⟩:=aD (show(if gN o=L then _ else O)=Y _ from q);obtain⟨x,i,j⟩:=c_ v
  rcases j
  obtain⟨t,w,l⟩:=h.1 G _ x i;exact⟨_,LH G.ck.ok w _,λX d=>by rw[<-d.hK];exact KL (l X d) (gq hn)⟩
 |Call f z N p=>
  cases N with
  |cons _ _=>cases f<;>exact nk q
  |nil=>
   cases f with
   |Name x p2=>
    by_cases Q:x = "isinstance"
    .subst Q;rcases z with _ | ⟨e,_ | ⟨c,_ | ⟨_,_⟩⟩⟩
     .cases q
     .cases q
     .cases c<;>first | exact nk q | exact F8 h q
     .cases c<;>exact nk q
    .exact Cb h ((W5 Q).symm.trans q)
   |Attribute o x S=>exact Cn h q
   |_=>first | exact nk q | cases q
 |Dict ks W p=>exact Cg h q
 |ListComp P A n p=>
  have q':Qx r G P A n=Y m:=q;clear q;unfold Qx at q';split at q'
  .exact Cd h q'
  .cases q'
 |_=>first | exact nk q | cases q
def aae (r:afi)(G:Ga):e_->Option MT
 |.UnaryOp .Not a _=>(r.t G a).bind λx=>Y (mP x)
 |.BoolOp c d _=>wO r G c d
 |.Compare a [c] [b] _=>if ja b=L then(r.e G a).bind λx=>(r.e G b).bind λy=>(Jw c x y).bind λm=>Y (mB m) else O
 |e=>if abd e=L then(r.e G e).bind λx=>Y (dS x) else O
theorem E5 (h:mh kf.K r){e:e_}{m:MT}(q:aae r G e=Y m):Pq kf.K G e m:=by
 unfold aae at q;split at q
 .obtain⟨x,b,c⟩:=c_ q
  rcases c
  obtain⟨t,f,d⟩:=h.2 G _ x b;exact⟨Mc t,inferInstance,λX a=>Ld (d X a)⟩
 .obtain⟨t,f,d⟩:=rj h q;exact⟨t,f,λX a=>(d X a).pt⟩
 .obtain⟨i,g⟩:=aD q;obtain⟨x,b,c⟩:=c_ g;obtain⟨y,j,k⟩:=c_ c;obtain⟨p,l,n⟩:=c_ k
  rcases n
  exact(yP (h.1 G _ x b) (h.1 G _ y j) i l).2
 .obtain⟨o,g⟩:=aD q;obtain⟨x,b,c⟩:=c_ g
  rcases c
  obtain⟨t,f,d⟩:=h.1 G _ x b;exact⟨O3 kf.K t,inferInstance,λX a=>by rw[<-a.hK];exact En (d X a) (Bh o)⟩
noncomputable def cR:Nat->afi
 |0=>⟨λ_ _=>O,λ_ _=>O⟩
 |n+1=>⟨Je (cR n),aae (cR n)⟩
theorem Cr:∀ n,mh kf.K (cR n)
 |0=>⟨λ_ _ _ e=>(nomatch e),λ_ _ _ e=>(nomatch e)⟩
 |n+1=>⟨λ_ _ _ e=>E1 (Cr n) e,λ_ _ _ e=>E5 (Cr n) e⟩
noncomputable def mS:e_->Bool
 |.ListComp _ _ _ _=>b_
 |.SetComp _ _ _ _=>b_
 |.DictComp _ _ _ _ _=>b_
 |_=>L
theorem n0 {e:e_}{o:Option e_}{n:Nat}{env:H_}(h:mS e=L):Yh e o n env=A' false:=by
 cases e<;>first | rfl | cases h
noncomputable def acp:e_->Bool
 |.Tuple _ _ _=>b_
 |_=>L
theorem yn {es:List e_}{k:Nat}{p:u_}{e:e_}{env:H_}(h:acp e=L):Zy [.Tuple es k p] e env=A' none:=by
 cases e<;>first | rfl | cases h
def Ue (G:Ga)(x:M)(p:u_)(scope:J')(q:u_):Bool:=(G.nm.lookup x == Y .local)&&p.line == q.line&&!(scope.names.any λ(n,k)=>n == x&&(k == .local || k == .cell))
def uP (r:afi)(G:Ga)(x:M)(p:u_)(v:e_):Option MS:=(uV G x).bind λg=>match v with
 |.ListComp c [⟨d,b,[],0⟩] a q=>(uS r G c d b [] a).bind λm=>Y (au m g)
 |v=>if mS v=L then(r.e G v).bind λm=>Y (au m g) else O
theorem Kb {x:M}{m:MG}(e:uV G x=Y m):∃ i,m=b' i/\(∀ X,jm kf.K G X->X.N[i]?=Y x/\Loc X.aa.scope x/\(X.fn x=L\/X.aa.scope.names.lookup x=Y .local)):=by
 unfold uV at e;split at e
 .rename_i b;obtain⟨i,c,d⟩:=c_ e
  rcases d
  exact⟨i,rfl,λX a=>⟨by rw[a.hN];exact nJ c,.inl (a.af x b),.inr (a.af x b)⟩⟩
 .rename_i b;obtain⟨i,c,d⟩:=c_ e
  rcases d
  exact⟨i,rfl,λX a=>⟨by rw[a.hN];exact nJ c,.inr (a.ae x b).1,.inl (a.ae x b).2⟩⟩
 .exact nk e
theorem E8 {X:Cx}(a:jm kf.K G X){elt:e_}{gens:List Comprehension}{scope:J'}{q p:u_}{n:Nat}{x:M}:Yh (.ListComp elt gens scope q) (Y (.Name x p)) n X.aa=A' (X.aa.kindOf x == Y .local&&p.line == q.line&&!(scope.names.any λ(n,k)=>n == x&&(k == .local || k == .cell))):=by
 have b:X.aa.blockKind=.function:=by unfold Env.blockKind;rw[a.ag];rfl
 show(A' (X.aa.blockKind == .function&&X.aa.kindOf x == Y .local&&p.line == q.line&&!(scope.names.any λ(n,k)=>n == x&&(k == .local || k == .cell))):U' Bool)=_;rw[b];rfl
theorem uQ {x:M}{p pos:u_}{v:e_}{m:MS}(h:mh kf.K r)(q:uP r G x p v=Y m):Jl kf.K G (.Assign [.Name x p] v pos) m:=by
 obtain⟨g,P,o⟩:=c_ q;obtain⟨i,rfl,A⟩:=Kb P;split at o
 .rename_i elt Q e scope B;obtain⟨D,u,w⟩:=c_ o
  rcases w
  rcases uT h u with⟨N',S,T,g,U,d,E,se,F,I,N⟩
  .refine⟨wc (we S T g U) (mJ i),inferInstance,λX a=>?_⟩;obtain⟨f,y,z⟩:=A X a;have j:=E8 (X:=X) a (elt:=elt) (gens:=[⟨Q,e,[],0⟩]) (scope:=scope) (q:=B) (p:=p) (n:=pos.line) (x:=x);cases l:(X.aa.kindOf x == Y .local&&p.line == B.line&&!(scope.names.any λ(n,k)=>n == x&&(k == .local || k == .cell))) with
   |true=>
    rw[l]at j;have V:X.aa.scope.names.lookup x=Y .local:=by
     rw[Xn,Xn]at l;exact Zk l.1.1
    exact xZ a.aa a.nd f V (d.ok a) (F X a) (λb C s H c=>I _ (a.ab d b C s H c)) (λb C s H c=>N _ (a.ab d b C s H c)) j (mI E)
   |false=>
    rw[l]at j;exact Ek a.nd f y (zA a.aa (d.ok a) (F X a) (λb C s H c=>I _ (a.ab d b C s H c)) (λb C s H c=>N _ (a.ab d b C s H c)) (mI E)) j z
 .obtain⟨W,w⟩:=aD o;obtain⟨D,u,Z⟩:=c_ w
  rcases Z
  obtain⟨t,st,pt⟩:=h.1 G v D u;refine⟨wc t (mJ i),inferInstance,λX a=>?_⟩;obtain⟨f,y,z⟩:=A X a;exact Ek a.nd f y (pt X a) (n0 W) z
end
section
variable {G:Ga}{r:afi}
def aW (d y v:ME):MS:=λa h=>(v a h).bind λp=>(d a p.2).bind λq=>(y a q.2).bind λs=>if cU s.2 q.1=L then(eN s.2 q.1 s.1 p.1).bind λb=>Y (.nx a,b) else(yj q.1 s.1 p.1 s.2).bind λb=>Y (.nx a,b)
theorem Bw {td ty tv:TE}{d y v:ME}(A:SE tv v)(B:SE td d)(C:SE ty y):SS (O1 (EK td ty tv) (wc tv (NI td ty Eu))) (aW d y v):=⟨λ{D σ H a ι h f u} b g e q=>by
 obtain⟨⟨x,E⟩,m,F⟩:=c_ e;obtain⟨⟨z,I⟩,n,K⟩:=c_ F;obtain⟨⟨w,N⟩,o,i⟩:=c_ K;by_cases c:cU N z=L
 .rw[W0 c]at i;refine .inl ((HH (td:=td) (ty:=ty) (tv:=tv)).go b g (show DI d y v a h=Y (f,u) from ?_) q);unfold DI;rw[m];show(d a E).bind _=_;rw[n];show(y a I).bind _=_;rw[o];exact i
 .rw[W5 c]at i;obtain⟨h4,P,Q⟩:=c_ i
  rcases Q
  refine .inr (A.go b g m λS H1 v1 j p T=>?_);refine B.go (b.aa (j.kp g)) p n λU H2 v2 k s V=>?_
  refine C.go (b.aa ((j.aa k).kp g)) s o λW H3 v3 l X Z=>?_
  exact Bx.go X (V.ab (l.kp s)) Z (T.ab ((k.aa l).kp p)) P λι4 H4 t r4=>q _ _ (((j.aa k).aa l).aa t) r4 _ (b.aa ((((j.aa k).aa l).aa t).kp g))⟩
theorem sC {v:e_}{o i:e_}{p:u_}{n:Nat}{env:H_}:Yh v (Y (.Subscript o i p)) n env=A' false:=by
 cases v<;>rfl
theorem yo {v:e_}{o i:e_}{p:u_}{env:H_}:Zy [.Subscript o i p] v env=A' none:=by
 cases v<;>rfl
def yR (r:afi)(G:Ga)(o i v:e_):Option MS:=if mT i=L then(r.e {G with em:=0} v).bind λx=>(r.e G o).bind λd=>(r.e G i).bind λy=>Y (aW d y x) else O
theorem wR {o i v:e_}{p pos:u_}{m:MS}(h:mh kf.K r)(q:yR r G o i v=Y m):Jl kf.K G (.Assign [.Subscript o i p] v pos) m:=by
 obtain⟨e,f⟩:=aD q;obtain⟨x,g,j⟩:=c_ f;obtain⟨d,k,l⟩:=c_ j;obtain⟨y,n,s⟩:=c_ l
 rcases s
 obtain⟨A,t,u⟩:=h.1 _ v x g;have pv':=λX (a:jm kf.K G X)=>u X ⟨a.hK,a.hN,a.nd,a.aa,a.ag,a.ai,a.af,a.ae,a.ah,a.gl,a.fs,a.bl,a.un,a.rm,a.po,a.tb,a.cs,a.ms⟩
 obtain⟨B,w,b⟩:=h.1 G o d k;obtain⟨C,z,c⟩:=h.1 G i y n;refine⟨_,Bw t w z,λX a=>Oe (Ha a.un (b X a) (c X a) (pv' X a) sC) (Ej (pv' X a) (KY (b X a) (c X a) acn ?_) (show Yh v (Y (.Subscript o i p)) pos.line X.aa=A' b_ from sC) yo rfl)⟩;intro v;cases i<;>first | rfl | cases e
noncomputable def II:e_->Bool
 |.Tuple a _ _=>a.all (foldedForSure 8)
 |_=>L
theorem wa {es vs:List e_}{k a:Nat}{p b:u_}{env:H_}(c:vs.all (foldedForSure 8)=L):Zy [.Tuple es k p] (.Tuple vs a b) env=A' none:=by
 unfold Zy;dsimp only;split
 .rfl
 split
 .rfl
 split
 .rfl
 .first | rfl | rw[W0 c]
theorem uu {es:List e_}{k:Nat}{p:u_}{v:e_}{env:H_}(h:II v=L):Zy [.Tuple es k p] v env=A' none:=by
 cases v with
 |Tuple a b c=>exact wa h
 |_=>exact yn rfl
def yN (r:afi)(G:Ga)(es:List e_)(k:Nat)(p:u_)(v:e_):Option MS:=if II v=L/\mS v=L then(Nr G (.Tuple es k p)).bind λg=>(r.e G v).bind λx=>Y (au x g) else O
theorem wM {es:List e_}{k:Nat}{v:e_}{p pos:u_}{m:MS}(h:mh kf.K r)(q:yN r G es k p v=Y m):Jl kf.K G (.Assign [.Tuple es k p] v pos) m:=by
 obtain⟨⟨c,d⟩,e⟩:=aD q;obtain⟨g,f,i⟩:=c_ e;obtain⟨x,j,l⟩:=c_ i
 rcases l
 obtain⟨n,t,o⟩:=wU f;obtain⟨s,u,a⟩:=h.1 G v x j;exact⟨wc s n,inferInstance,λX b=>Ej (a X b) (o X b) (show Yh v (Y (.Tuple es k p)) pos.line X.aa=A' b_ from n0 d) (uu c) rfl⟩
theorem Bz {v:e_}{o:e_}{f:M}{p:u_}{n:Nat}{env:H_}:Yh v (Y (.Attribute o f p)) n env=A' false:=by
 cases v<;>rfl
def yQ (r:afi)(G:Ga)(o:e_)(f:M)(v:e_):Option MS:=(r.e G v).bind λx=>(r.e G o).bind λa=>Y (bM G.ck.cl f a x)
theorem wQ {o:e_}{f:M}{v:e_}{p pos:u_}{m:MS}(h:mh kf.K r)(q:yQ r G o f v=Y m):Jl kf.K G (.Assign [.Attribute o f p] v pos) m:=by
 obtain⟨x,d,e⟩:=c_ q;obtain⟨a,g,i⟩:=c_ e
 rcases i
 obtain⟨n,j,b⟩:=h.1 G v x d;obtain⟨s,k,l⟩:=h.1 G o a g;exact⟨_,L1 G.ck.ok k j f,λX c=>by rw[<-c.hK];exact K9 (l X c) (b X c) Bz⟩
def yO (r:afi)(G:Ga)(o:e_)(f:M)(op:YH)(v:e_):Option MS:=(r.e G o).bind λa=>(r.e G v).bind λx=>match op with
 |.Add=>Y (i7 G.ck.cl f (λu v=>u+v) a x)
 |_=>O
theorem wN {o:e_}{f:M}{op:YH}{v:e_}{p pos:u_}{m:MS}(h:mh kf.K r)(q:yO r G o f op v=Y m):Jl kf.K G (.AugAssign (.Attribute o f p) op v pos) m:=by
 obtain⟨a,e,k⟩:=c_ q;obtain⟨x,l,d⟩:=c_ k;obtain⟨w,n,s⟩:=h.1 G o a e;obtain⟨y,t,b⟩:=h.1 G v x l;cases op<;>first
  |(rcases d;exact⟨_,Bv G.ck.ok (rd:=Og) (g:=λu v=>u+v) (λi j H Q z=>⟨i,j,rfl,rfl,z⟩) n t f,λX c=>by rw[<-c.hK];exact Bj (s X c) (b X c) JV⟩)
  |cases d
noncomputable def Yd (f:Ga->E_->Option MS)(G:Ga):List E_->Option MS
 |[]=>Y ai
 |[s]=>f G s
 |s::b=>(f G s).bind λx=>(Yd f G b).bind λy=>Y (af x y)
def M7 (K:r_)(f:Ga->E_->Option MS):Prop:=∀ G s m,f G s=Y m->Jl K G s m
theorem gT {f:Ga->E_->Option MS}(h:M7 kf.K f):∀ {b:List E_}{m:MS},Yd f G b=Y m->Qq kf.K G b m
 |[],m,e=>by rcases e;exact⟨Fi,inferInstance,λX _=>He⟩
 |[s],m,e=>by
  obtain⟨t,g,d⟩:=h G s m e;exact⟨t,g,λX a=>Hf (d X a)⟩
 |s::b::c,m,e=>by
  obtain⟨x,i,j⟩:=c_ (show(f G s).bind _=Y _ from e);obtain⟨y,k,l⟩:=c_ j
  rcases l
  obtain⟨t,g,d⟩:=h G s x i;obtain⟨u,o,n⟩:=gT h k;exact⟨Mf t u,inferInstance,λX a=>Em (d X a) (n X a)⟩
def Iy (r:afi)(f:Ga->E_->Option MS)(G:Ga)(d a:e_)(c:List E_):Option MS:=if ja a=L then(cI r G d a).bind λe=>(Nr G d).bind λg=>(Yd f G c).bind λb=>Y (eJ e g b) else O
theorem Ci {f:Ga->E_->Option MS}{i a:e_}{pos:u_}{c:List E_}{m:MS}(h:mh kf.K r)(j:M7 kf.K f)(q:Iy r f G i a c=Y m):Jl kf.K G (.For i a c [] pos) m:=by
 .obtain⟨k,l⟩:=aD q;obtain⟨A,n,o⟩:=c_ l;obtain⟨g,p,s⟩:=c_ o;obtain⟨b,u,v⟩:=c_ s
  rcases v
  obtain⟨w,B,x⟩:=IA h n;obtain⟨e,C,y⟩:=wU p;obtain⟨t,D,z⟩:=gT j u;exact⟨L8 w e t,inferInstance,λX d=>La d.po d.aa (x X d) (y X d) (z X d) (mI k)⟩
def Jf (r:afi)(f:Ga->E_->Option MS)(G:Ga):E_->Option MS
 |.Assign [.Name x p] v _=>uP r G x p v
 |.Assign [.Tuple h k p] v _=>yN r G h k p v
 |.Assign [.Subscript o i _] v _=>yR r G o i v
 |.Assign [.Attribute o f _] v _=>yQ r G o f v
 |.AugAssign (.Attribute o f _) j v _=>yO r G o f j v
 |.Expr e _=>if mS e=L then(r.e G e).bind λx=>Y (aO x) else O
 |.Return (Y e) _=>(r.e G e).bind λx=>Y (ax x)
 |.Return O _=>Y zr
 |.If c a b _=>(r.t G c).bind λk=>(Yd f G a).bind λx=>(Yd f G b).bind λy=>Y (az k x y)
 |.For l g d [] _=>Iy r f G l g d
 |.While c d [] _=>(r.t G c).bind λk=>(Yd f G d).bind λb=>Y (t8 k b)
 |_=>O
theorem E4 {f:Ga->E_->Option MS}(h:mh kf.K r)(B:M7 kf.K f):M7 kf.K (Jf r f):=by
 intro G s m q;cases s with
 |Assign N v d=>
  rcases N with _ | ⟨t,_ | ⟨_,_⟩⟩
  .cases q
  .cases t with
   |Name x p=>exact uQ h q
   |Tuple U k p=>exact wM h q
   |Subscript o i p=>exact wR h q
   |Attribute o f p=>exact wQ h q
   |_=>cases q
  .cases t<;>cases q
 |AugAssign t V v d=>
  cases t with
  |Attribute o f p=>exact wN h q
  |_=>cases q
 |Expr e d=>
  obtain⟨P,w⟩:=aD (show(if mS e=L then _ else O)=Y _ from q);obtain⟨x,j,z⟩:=c_ w
  rcases z
  obtain⟨t,C,l⟩:=h.1 G _ x j;exact⟨Fd t,inferInstance,λX g=>Hc (l X g) (n0 P)⟩
 |Return o d=>
  cases o with
  |some e=>
   obtain⟨x,j,z⟩:=c_ (show(r.e G e).bind _=Y _ from q)
   rcases z
   obtain⟨t,C,l⟩:=h.1 G _ x j;exact⟨Me t,inferInstance,λX g=>Lb (l X g)⟩
  |none=>rcases q;exact⟨Fo,inferInstance,λX g=>Hd⟩
 |If c a b d=>
  obtain⟨k,j,w⟩:=c_ (show(r.t G c).bind _=Y _ from q);obtain⟨x,Q,z⟩:=c_ w;obtain⟨y,D,E⟩:=c_ z
  rcases E
  obtain⟨F,S,H⟩:=h.2 G _ k j;obtain⟨t,C,l⟩:=gT B Q;obtain⟨u,W,T⟩:=gT B D;exact⟨L9 F t u,inferInstance,λX g=>Od (H X g) (l X g) (T X g)⟩
 |For Z I A n d=>
  cases n with
  |cons _ _=>cases q
  |nil=>exact Ci h B q
 |While c A n d=>
  cases n with
  |cons _ _=>cases q
  |nil=>
   obtain⟨k,j,w⟩:=c_ (show(r.t G c).bind _=Y _ from q);obtain⟨b,D,E⟩:=c_ w
   rcases E
   obtain⟨F,S,H⟩:=h.2 G _ k j;obtain⟨t,C,l⟩:=gT B D;exact⟨yu F t,inferInstance,λX g=>El g.po (H X g) (l X g)⟩
 |_=>cases q
noncomputable def cS:Nat->Ga->E_->Option MS
 |0=>λ_ _=>O
 |n+1=>Jf (cR 40) (cS n)
theorem Cs:∀ n,M7 kf.K (cS n)
 |0=>λ_ _ _ e=>nomatch e
 |n+1=>E4 (Cr 40) (Cs n)
end
section
variable {P:y_}{w:v_}{mg:M->Option R}{base:k_}
structure FL (P:y_)(w:v_)(mg:M->Option R)(base:k_)(k:Nat)(G:Ga):Prop where
 fs:∀ x n f,G.fs.lookup x=Y (n,f)->∃ ps,Kn P w kf.K mg base k x ps (nq n f)
 bl:∀ x∈G.bl,mg x=O
 tb:∀ x t,G.tb.lookup x=Y t->B3 P w kf.K mg x t
 cs:∀ x C n f,G.cs.lookup x=Y (C,n,f)->∃ j ps fa fd,Mk kf.K C fa/\d3 P w kf.K mg base qF j fa fd ps (nq n f)/\j+1<=k/\mg x=Y (.ref C)/\S' kf.K fd ps []
 ms:∀ m C n f,G.ms.lookup m=Y (C,n,f)->∃ j ps fa fd,qJ kf.K C/\YL kf.K C m fa/\d3 P w kf.K mg base qF j fa fd ps (nq n f)/\j<=k/\S' kf.K fd ps []
theorem IL {d:M}{st:E_}{f:J}{N ps:List M}{k:Nat}{G:Ga}{i:R}{A:D_}{e:List H_}{s:d_}{H:Hp}{E:XK}(q:iJ N ps (a9 st))(v:G.N=N)
  (l:(a9 st).names=G.nm) (m:FL P w mg base k G) (o:eQ k (A.deeper (Yp d (a9 st) s.heap.objs.size f i))) :
  jm kf.K G (w6 qF P w kf.K mg base N d (a9 st) f i A e s H E).N2:=by
 refine⟨rfl,v.symm,q.nd,rfl,q.ab,λx a=>by rw[<-l]at a;exact a,λx a=>by rw[<-l]at a;exact a,λx a=>⟨by rw[<-l]at a;exact a,rfl⟩,λx a=>?_,λx a=>by rw[<-l]at a;exact a,λx n g p=>?_,m.bl,o.af,⟨k,o⟩,aeh,m.tb,λx C n g p=>?_,λx C n g p=>?_⟩
 .rw[<-l]at a;exact absurd rfl (q.aa (x,.free) (XN a))
 .obtain⟨b,G⟩:=m.fs x n g p;exact⟨k,b,G,o⟩
 .obtain⟨j,b,r,h,aff,F,t,y,u⟩:=m.cs x C n g p;exact⟨j,b,r,h,aff,F,o.aa t,y,u⟩
 .obtain⟨j,b,r,h,c,aff,F,t,u⟩:=m.ms x C n g p;exact⟨j,b,r,h,c,aff,F,o.aa t,u⟩
theorem NH {x a:M}{st:E_}{f:J}{c:P'}{N ps:List M}{k:Nat}{G:Ga}{m:MS}(F:BS kf.K x a st f c)(d:iJ N ps (a9 st))(e:G.N=N)
  (g:(a9 st).names=G.nm) (i:Yd (cS 20) G (e8 st)=Y m) (j:FL P w mg base k G):d3 P w kf.K mg base qF (k+1) f c ps (nq ps.length (cJ N.length m)):=by
 refine F.ok d (λl H Q E h=>h.1) (λn A b s H l Q E o h=>?_);obtain⟨t,q,p⟩:=gT (Cs 20) i;exact⟨t,p _ (IL d e g j o),C2 h⟩
theorem JL {x a:M}{st:E_}{f:J}{c:P'}{N ps:List M}{k:Nat}{G:Ga}{m:MS}(F:BS kf.K x a st f c)(d:iJ N ps (a9 st))(e:G.N=N)
  (g:(a9 st).names=G.nm) (i:Yd (cS 20) G (e8 st)=Y m) (j:FL P w mg base k G):d3 P w kf.K mg base qF (k+1) f c ps (nq ps.length (dw N.length m)):=by
 refine F.ok d (λl H Q E h=>h.1) (λn A b s H l Q E o h=>?_);obtain⟨t,q,p⟩:=gT (Cs 20) i;exact⟨t,p _ (IL d e g j o),Gn h⟩
theorem tG {f:J}{c:P'}{ps:List M}{k:Nat}{n:Nat}(h:ps.length=n):d3 P w kf.K mg base qF k f c ps (nq n λ_ _=>O):=
 ⟨λd H Q E q=>q.1.trans h.symm,λA a s H b g d Q E i j l m q=>by obtain⟨_,_,_,_,_,_,_,_,e,_⟩:=q;exact nk e⟩
end
end S
namespace S
open PySem PySem.W L2
variable [kf:KF]
def uB (K:r_)(x a:M)(st:E_)(f:J):Prop:=∃ (e:R) (g:Option J) (h c i:R) (j:Option J) (b l:R) (d:Array (Option R)),
 K.lookup f=Y ⟨e,g,.func (YN x a (ke st) (e8 st) (a9 st) .none h c i j b l),d⟩/\aaw K b a=L/\Y_ K (.ref f)=L
def ny (K:r_)(x:M)(f:J):Prop:=nsIn K S_ x=Y (Y (.ref f))
def cN (K:r_)(x:M)(st:E_):Prop:=∃ f,ny K x f/\uB K x x st f
def Y1 (K:r_)(C:J)(m a:M)(st:E_):Prop:=∃ f,YL K C m f/\uB K m a st f
def wC (K:r_)(C:J)(a:M)(st:E_):Prop:=∃ f,Mk K C f/\uB K "__init__" a st f
theorem uB.aa {K:r_}{x a:M}{st:E_}{f:J}(d:uB K x a st f):∃ fd,BS K x a st f fd:=by
 obtain⟨h,i,j,b,m,n,e,o,g,l,c,k⟩:=d;exact⟨_,C3 l c k⟩
noncomputable def BL:List Str:=["len","list","tuple","int","max","min","sum","all","range","isinstance","str","dict","bool","reversed","enumerate","any","set","zip","repr"]
def HF (P:y_)(w:v_)(mg:M->Option R)(base:k_)(k:Nat)(x:M)(n:Nat)(f:MF):Prop:=∃ a,L2.Kn P w kf.K mg base k x a (nq n f)
def HC (P:y_)(w:v_)(mg:M->Option R)(base:k_)(k:Nat)(x:M)(C:J)(n:Nat)(f:MF):Prop:=∃ j a b c,Mk kf.K C b/\d3 P w kf.K mg base qF j b c a (nq n f)/\j+1<=k/\mg x=Y (.ref C)/\S' kf.K c a []
def HM (P:y_)(w:v_)(mg:M->Option R)(base:k_)(k:Nat)(x:M)(C:J)(n:Nat)(f:MF):Prop:=∃ j a b c,qJ kf.K C/\YL kf.K C x b/\d3 P w kf.K mg base qF j b c a (nq n f)/\j<=k/\S' kf.K c a []
theorem vq {P:y_}{w:v_}{mg:M->Option R}{base h:k_}{k j n:Nat}{x:M}{f:MF}{a:J}{c:P'}{ps:List M}{st:E_}(X:kf.K.In h)(G:h.Ns S_ mg)(y:ny kf.K x a)(F:BS kf.K x x st a c)(o:d3 P w kf.K mg base qF j a c ps (nq n f))(b:S' kf.K c ps [])(d:j<=k):HF P w mg base k x n f:=
 ⟨_,a,c,o.ae d,b,F.kp,aay X G y⟩
def sH {b:Type}(P:M->b->Prop)(l:List (M×b)):Prop:=∀ x a,l.lookup x=Y a->P x a
theorem sH.nil {a:Type}{P:M->a->Prop}:sH P []:=λ_ _ h=>by simp at h
theorem sH.aa {c:Type}{P:M->c->Prop}{x:M}{a:c}{l:List (M×c)}(h:P x a)(r:sH P l):sH P ((x,a)::l):=λy b e=>by
 rw[Xf]at e;by_cases q:y=x
 .subst q;simp at e;rw[<-e];exact h
 .rw[XE.mpr q]at e;exact r y b e
section
variable {P:y_}{w:v_}{mg:M->Option R}{base:k_}{k:Nat}
theorem bq {G:Ga}(fs:sH (λx (a:Nat×MF)=>HF P w mg base k x a.1 a.2) G.fs)(b:∀ x∈G.bl,mg x=O)(tb:sH (λx t=>B3 P w kf.K mg x t) G.tb:=by exact .nil)
  (cs:sH (λx (a:J×Nat×MF)=>HC P w mg base k x a.1 a.2.1 a.2.2) G.cs:=by exact .nil)
  (ms:sH (λx (a:J×Nat×MF)=>HM P w mg base k x a.1 a.2.1 a.2.2) G.ms:=by exact .nil):FL P w mg base k G:=
 ⟨λx n f h=>fs x (n,f) h,b,tb,λx C n f h=>cs x (C,n,f) h,λx C n f h=>ms x (C,n,f) h⟩
theorem Nn {K:r_}{h:k_}{l:List M}(X:K.In h)(G:h.Ns S_ mg)(e:(l.all λx=>j' (nsIn K S_ x=Y O))=L):∀ x∈l,mg x=none:=λx a=>
 PySem.W.mg_none_of X G (of_decide_eq_true (X0.mp e x a))
end
def abf (K:r_)(b:J)(ns:List Int):Prop:=∃ (o:s_) (a:Array R) (n:Nat),K.lookup b=Y o/\o.cls=.type "tuple"/\o.data=.seq a n/\a.size<=p'/\x' (ns.map V.ab) a.toList
inductive wG (K:r_)(w:v_):List ZA->List (M×List Int)->Prop
 |nil:wG K w [] []
 |aa {e:ZA} {x:M} {t:WG} {b:J} {ns:List Int} {es:List ZA} {r:List (M×List Int)}:e.key=.str x t->e.hash=hashStr w x->e.val=.ref b->abf K b ns->wG K w es r->wG K w (e::es) ((x,ns)::r)
theorem wG.ab {K:r_}{w:v_}(P:y_):∀ {es:List ZA}{t:List (M×List Int)},wG K w es t->∃ vs:List (j_×R),Pairs (bW P w) es vs/\vs.map (·.1)=t.map (λp=>p_ p.1)/\
  (∀ e∈es,∃ k,(bW P w).is k e.key=L/\e.hash=(bW P w).hash k)/\∀ z ns,t.lookup z=Y ns->∃ b,Yf vs (p_ z)=Y (.ref b)/\abf K b ns
 |_,_,.nil=>⟨[],.nil,rfl,by simp,λz ns h=>by simp at h⟩
 |_,_,.aa (e:=e) (x:=x) (t:=t) (b:=b) (ns:=ns) c f g i r=>by
  obtain⟨vs,j,l,m,n⟩:=r.ab P;refine⟨(p_ x,.ref b)::vs,.cons (by rw[c];exact jU P w x t) g j,by simp[l],?_,?_⟩
  .intro o s;rcases Xj.mp s with z | z
   .subst z;exact⟨p_ x,by rw[c];exact jU P w x t,f⟩
   .exact m o z
  .intro z u a;rw[Xf]at a;by_cases q:z=x
   .subst q;simp at a;subst a;exact⟨b,by simp[Yf],i⟩
   .rw[XE.mpr q]at a;obtain⟨v,d,A⟩:=n z u a;refine⟨v,?_,A⟩;have B:¬ (x=z):=λy=>q y.symm
    unfold Yf at d ⊢;rw[XR];simpa [B]using d
theorem Mi {P:y_}{w:v_}{K:r_}{mg:M->Option R}{x:M}{a:J}{o:s_}{es:Array ZA}{ep:Nat}{t:List (M×List Int)}(f:mg x=Y (.ref a))(l:K.lookup a=Y o)(g:o.ExactDict)(c:o.data=.dict es ep)(i:wG K w es.toList t)
  (j:(t.map (·.1)).Nodup) (m:(a == WN)=b_):B3 P w K mg x t:=by
 obtain⟨n,q,r,s,u⟩:=i.ab P;refine⟨a,n,f,λh X=>⟨o,es,ep,X a o l,g,c,λe v=>s e (by simpa using v),q,?_⟩,u,m⟩;rw[r];have:t.map (λp=>(p_ p.1:j_))=(t.map (·.1)).map Sum.inr:=by rw[X7];rfl
 rw[this];exact aeY _ (λa b d z=>d (ZE z)) j
theorem Fu {α:Type}{N:List α}{n:Nat}:N.take (N.take n).length=N.take n:=by
 rw[X1];by_cases h:n<=N.length
 .rw[aas h]
 .rw[adj ⋯,X6 (WY _),X6 ⋯]
section
variable {P:y_}{w:v_}{mg:M->Option R}{base h:k_}{x qual:M}{st:E_}{n afh:Nat}{G:Ga}{m:MS}{C:J}
def M8 (st:E_)(n:Nat)(G:Ga)(x qual:M)(kV doc pm:R)(an:Option J)(Pw ct:R)(us:List R):Prop:=Zx (YN x qual (ke st) (e8 st) (a9 st) .none kV doc pm an Pw ct) ⟨us,[]⟩=A' ((G.N.take n).zip us)
def HB (st:E_)(n:Nat)(G:Ga)(x qual:M):Prop:=∀ a b c d e f us,us.length=(G.N.take n).length->M8 st n G x qual a b c d e f us
structure FV (st:E_)(n:Nat)(G:Ga)(m:MS)(x qual:M):Prop where
 sc:iJ G.N (G.N.take n) (a9 st)
 hn:(a9 st).names=G.nm
 hc:Yd (cS 20) G (e8 st)=Y m
 hl:(G.N.take n).length=n
 hb:HB st n G x qual
theorem Uj {Q:List R->Prop}{us:List R}(hl:us.length=1)(h:∀ a,Q [a]):Q us:=by
 rcases us with _ | ⟨a,_ | ⟨b,us⟩⟩
 .cases hl
 .exact h a
 .cases hl
theorem Su {Q:List R->Prop}{us:List R}(hl:us.length=2)(h:∀ a b,Q [a,b]):Q us:=by
 rcases us with _ | ⟨a,us⟩
 .cases hl
 .exact Uj (Q:=λus=>Q (a::us)) (abj hl) (h a)
theorem Sv {Q:List R->Prop}{us:List R}(hl:us.length=3)(h:∀ a b c,Q [a,b,c]):Q us:=by
 rcases us with _ | ⟨a,us⟩
 .cases hl
 .exact Su (Q:=λus=>Q (a::us)) (abj hl) (h a)
theorem Uk {Q:List R->Prop}{us:List R}(hl:us.length=4)(h:∀ a b c d,Q [a,b,c,d]):Q us:=by
 rcases us with _ | ⟨a,us⟩
 .cases hl
 .exact Sv (Q:=λus=>Q (a::us)) (abj hl) (h a)
theorem w1 (h:∀ {a b c d e f p},M8 st n G x qual a b c d e f [p])(hl:(G.N.take n).length=1:=by rfl):HB st n G x qual:=λ_ _ _ _ _ _ us z=>Uj (z.trans hl) λ_=>h
theorem w2 (h:∀ {a b c d e f p q},M8 st n G x qual a b c d e f [p,q])(hl:(G.N.take n).length=2:=by rfl):HB st n G x qual:=λ_ _ _ _ _ _ us z=>Su (z.trans hl) λ_ _=>h
theorem w3 (h:∀ {a b c d e f p q r},M8 st n G x qual a b c d e f [p,q,r])(hl:(G.N.take n).length=3:=by rfl):HB st n G x qual:=λ_ _ _ _ _ _ us z=>Sv (z.trans hl) λ_ _ _=>h
theorem w4 (h:∀ {a b c d e f p q r s},M8 st n G x qual a b c d e f [p,q,r,s])(hl:(G.N.take n).length=4:=by rfl):HB st n G x qual:=λ_ _ _ _ _ _ us z=>Uk (z.trans hl) λ_ _ _ _=>h
noncomputable def locs:List (M×Q')->List M
 |[]=>[]
 |(x,.local)::r=>x::locs r
 |(x,.cell)::r=>x::locs r
 |_::r=>locs r
theorem gi (hb:HB st n G x qual)(hc:Yd (cS 20) G (e8 st)=Y m:=by kernel_rfl)(h1:(a9 st).kind=.function:=by rfl)(h2:(a9 st).isCoroutine=false:=by rfl)(h3:(a9 st).isGenerator=false:=by rfl)(h4:G.N.Nodup:=by(show(locs _).Nodup;decide +kernel))
  (h5:∀ x∈G.N.take n,(a9 st).names.lookup x=Y .local\/(a9 st).names.lookup x=Y .cell:=by(show ∀ x∈(locs _).take _,_;decide +kernel)) (h6:∀ y∈(a9 st).names,y.2≠.free:=by decide +kernel) (hn:(a9 st).names=G.nm:=by rfl) (hl:(G.N.take n).length=n:=by rfl):FV st n G m x qual:=⟨⟨h1,h2,h3,h4,Fu,h5,h6⟩,hn,hc,hl,hb⟩
theorem FV.gc (d:FV st n G m x qual){f:J}{fd:P'}(F:BS kf.K x qual st f fd)(go:FL P w mg base afh G):d3 P w kf.K mg base qF (afh+1) f fd (G.N.take n) (nq n (dw G.N.length m)):=by
 have:=JL F d.sc rfl d.hn d.hc go;rw[d.hl]at this;exact this
theorem FV.fn (d:FV st n G m x qual){f:J}{fd:P'}(F:BS kf.K x qual st f fd)(go:FL P w mg base afh G):d3 P w kf.K mg base qF (afh+1) f fd (G.N.take n) (nq n (cJ G.N.length m)):=by
 have:=NH F d.sc rfl d.hn d.hc go;rw[d.hl]at this;exact this
theorem qI (X:kf.K.In h)(G':h.Ns S_ mg)(t:cN kf.K x st)(d:FV st n G m x x)(go:FL P w mg base afh G):∀ k,afh+1<=k->HF P w mg base k x n (dw G.N.length m):=by
 obtain⟨a,y,D⟩:=t;obtain⟨fd,F⟩:=D.aa;exact λk hk=>vq X G' y F (d.gc F go) (F.aa d.hb) hk
theorem rY (X:kf.K.In h)(G':h.Ns S_ mg)(t:cN kf.K x st)(d:FV st n G m x x)(go:FL P w mg base afh G):∀ k,afh+1<=k->HF P w mg base k x n (cJ G.N.length m):=by
 obtain⟨a,y,D⟩:=t;obtain⟨fd,F⟩:=D.aa;exact λk hk=>vq X G' y F (d.fn F go) (F.aa d.hb) hk
theorem NZ (kC:qJ kf.K C)(t:Y1 kf.K C x qual st)(d:FV st n G m x qual)(go:FL P w mg base afh G):∀ k,afh+1<=k->HM P w mg base k x C n (cJ G.N.length m):=by
 obtain⟨a,y,D⟩:=t;obtain⟨fd,F⟩:=D.aa;exact λk hk=>⟨afh+1,_,a,fd,kC,y,d.fn F go,hk,F.aa d.hb⟩
theorem TC (X:kf.K.In h)(G':h.Ns S_ mg)(nC:ny kf.K x C)(t:wC kf.K C qual st)(d:FV st n G m "__init__" qual)(go:FL P w mg base afh G):∀ k,afh+2<=k->HC P w mg base k x C n (cJ G.N.length m):=by
 obtain⟨a,y,D⟩:=t;obtain⟨fd,F⟩:=D.aa;exact λk hk=>⟨afh+1,_,a,fd,y,d.fn F go,hk,aay X G' nC,F.aa d.hb⟩
end
end S
namespace D11
open PySem L2 S
variable [kf:KF]
abbrev aG:ME:=bZ 0
abbrev aR:ME:=bZ 1
abbrev cu:ME:=bZ 2
abbrev bC:ME:=bZ 3
abbrev c4:ME:=bZ 4
abbrev jn:ME:=bZ 5
abbrev n6:ME:=bZ 7
abbrev gV:ME:=bZ 6
abbrev lY:ME:=bZ 8
abbrev pC:ME:=bZ 9
abbrev bJ:ME:=mC .aQ
abbrev nc:ME:=bZ 10
abbrev ng:ME:=bZ 14
abbrev wu:ME:=bZ 11
abbrev dZ:ME:=bj ae
abbrev qW:ME:=av ae
abbrev fJ:ME:=mC (.bl b_)
abbrev dQ:MA:=aa cu ae
abbrev ni:MA:=aa aR ae
abbrev fZ:MA:=aa c4 ae
abbrev n4:MA:=aa bC ae
abbrev iI:MA:=aa n6 ae
abbrev yA:MA:=aa jn ae
abbrev yB:MA:=aa lY ae
abbrev Ie:MA:=aa pC ae
abbrev BM:MA:=aa aG ae
abbrev FH:MA:=aa bJ ae
abbrev Ig:MT:=mP (dS gV)
abbrev Mp:ME:=qR "tuple" c4
abbrev yC:ME:=ao cu c4
abbrev Ih:ME:=ao gV nc
abbrev FI:ME:=aw aI aR aG
abbrev Ii:ME:=aw aI bC aG
abbrev Ij:ME:=av yB
abbrev oY:MI:=dz ni
abbrev Mq:MI:=dz yA
abbrev Mr:MT:=dS (qR "tuple" n6)
abbrev FJ:ME:=eB fj n4
abbrev O7:ME:=eB fj BM
abbrev Ik:ME:=eB fj dQ
abbrev Ms:ME:=eB fj iI
abbrev Il:ME:=zt n6 (b8 jn)
abbrev Mt:ME:=eB g8 ni
abbrev SF:ME:=aw (d8 b_) jn bJ
abbrev wx:MA:=aa aG ni
abbrev Im:MA:=aa bC dQ
abbrev FK:MA:=aa aG dQ
abbrev Mu:MA:=aa cu yA
abbrev O8:MT:=mB (aw (S.bh b_) c4 bC)
abbrev O9:MT:=mB (aw (S.bh b_) bC aR)
abbrev BN:MT:=mB (aw (d8 L) cu bJ)
abbrev Pa:MT:=mB (aw (d8 L) c4 bJ)
abbrev BO:MT:=mB SF
abbrev Io:MT:=mB (aw (d8 b_) bC bJ)
abbrev Mv:MT:=mB (aw (d8 b_) cu bJ)
abbrev Pb:ME:=aw aI (ao c4 bC) jn
abbrev Mw:MA:=aa O7 ae
abbrev Pc:MA:=aa FJ ae
abbrev Pd:ME:=aw dO cu (eB HK fZ)
abbrev lV:MA:=aa aG (aa aR dQ)
abbrev BP:MA:=aa aG (aa aR n4)
abbrev Mx:MA:=aa aR (aa c4 yA)
abbrev Pe:MA:=aa aR (aa jn fZ)
abbrev Pf:MA:=aa (av dQ) n4
abbrev Pg:MA:=aa aG (aa (eB fj yB) ae)
abbrev Ip:MA:=aa aG (aa aR Im)
abbrev Ph:ME:=aw aI (av Ie) (eB fH (aa ng ae))
abbrev Pj:MA:=aa aG (aa aR (aa (ao (bZ 13) (bZ 15)) (aa (bZ 18) ae)))
abbrev Pk:MA:=aa (aw aI aG (av fZ)) (aa (ao bC c4) ae)
abbrev My:MA:=aa aG (aa (aw aI aR (av fZ)) n4)
abbrev Mz:MA:=aa aG (aa (aw aI aR (av yA)) dQ)
abbrev MB:ME:=av (aa bC (aa (eB fH fZ) (aa (eB fH Ie) ae)))
noncomputable def cj:List (M×List Int):=[("say",[1,0,0]),("slip",[1,0,0]),("pass",[0,0,0]),("leave",[0,0,0]),("stop",[0,0,0]),("on",[1,0,0]),("off",[1,0,0]),("call",[1,0,0]),("row",[0,0,4]),("pick",[0,2,3]),("again",[0,1,1]),("when",[1,2,2]),("clean",[0,2,2]),("catch",[0,2,4])]
def ib:MS:=
  (af (az (mB (aw (bh b_) (ao aG (aq 0)) (ag "catch"))) (ax (aw aI (bj (aa (ao aG (aq 1)) ae)) (di [O] (cy (lS aG (b8 (aq 2)) bo)) (b' 0) dB (ao aG (aq 1))))) ai)
  (af (au (ao (pv cj (ao aG (aq 0))) (aq 0)) (b' 1))
  (ax (eB g8 (aa (lS aG (b8 (aw aI (aq 1) aR)) bo) ae)))))
def cf:MF:=dw 2 (ib)
def pL:MS:=
  (af (au dZ (b' 2))
  (af (au aR (b' 3))
  (af (eJ (vF BM) (iC 2 (bt (b' 4) (bt (b' 5) iB))) (az O8 (af (aO (fy aL cu fZ))
  (au jn (b' 3))) ai))
  (ax cu))))
def eK:MF:=dw 6 (pL)
def nB (a:MF):MS:=
  (af (au (ao (eB kg (aa (ao aG (aq 2)) ae)) (ao aR (aq 0))) (b' 2))
  (af (eJ (cy (lS aR (b8 (aq 1)) bo)) (b' 3) (au (ao (ah 1 a dQ) bC) (b' 2)))
  (ax cu)))
def nQ (a:MF):MF:=dw 4 (nB a)
def q5 (a:MF):MS:=
  (ax (ao (ah 2 a wx) (aq 1)))
def rT (a:MF):MF:=dw 2 (q5 a)
def dD (a:MF)(b:MF):MS:=
  (af (au (ah 2 a (aa (ao aG (aq 0)) (aa (ah 2 b FK) ae))) (b' 3))
  (af (eJ (DJ (aa (lS aR (b8 (aq 2)) bo) ae)) (iC 2 (bt (b' 4) (bt (b' 5) iB))) (az (mB (gu b_ (ao jn (aq 0)) bC)) (ax c4) ai))
  (ax bJ)))
def lB (a:MF)(b:MF):MF:=dw 6 (dD a b)
def j9:MS:=
  (ax (qR "tuple" aG))
def b4:MF:=cJ 1 (j9)
def d5:MS:=
  (af (au (ao aR (aq 0)) (b' 3))
  (af (az (mB (aw (bh b_) bC (ag "slip"))) (ax aG) ai)
  (af (az (mB (aw (bh b_) bC (ag "pass"))) (ax cu) ai)
  (af (az (mB (gu b_ bC (av (aa (ag "leave") (aa (ag "stop") ae))))) (ax bC) ai)
  (ax (ag "done"))))))
def bg:MF:=cJ 4 (d5)
def dh:MS:=
  (af (az (mB (aw (bh b_) (ao aR (aq 0)) (ag "on"))) (ax (eB fH (aa (di [O,Y 1,Y 2] (cy (ao aG (aq 1))) (b' 0) (qS (mB (gu b_ aG cu)) (mB (aw (bh b_) aG (ao aR (aq 1))))) aG) ae))) ai)
  (af (az (mB (aw (bh b_) (ao aR (aq 0)) (ag "off"))) (ax (eB fH (aa (di [O,Y 1] (cy cu) (b' 0) (mB (aw (bh L) aG (ao aR (aq 1)))) aG) ae))) ai)
  (ax cu)))
def bQ:MF:=dw 3 (dh)
def mq (a:jj):MS:=
  (af (bM a.cl "place" aG aR)
  (af (bM a.cl "deed" aG cu)
  (af (bM a.cl "slip" aG bC)
  (af (bM a.cl "begun" aG (aq 0))
  (bM a.cl "held" aG bJ)))))
def gv (a:jj):MF:=cJ 4 (mq a)
def oe (a:jj):MS:=
  (af (bM a.cl "house" aG aR)
  (af (bM a.cl "choices" aG cu)
  (af (bM a.cl "most" aG bC)
  (af (bM a.cl "used" aG (aq 0))
  (af (bM a.cl "many" aG (aq 0))
  (af (bM a.cl "marks" aG qW)
  (af (bM a.cl "trail" aG dZ)
  (af (bM a.cl "doings" aG dZ)
  (bM a.cl "halt" aG bJ)))))))))
def eO (a:jj):MF:=cJ 4 (oe a)
def og (a:jj):MS:=
  (aO (fy aL (bU (aM a.cl "trail") aG) ni))
def jP (a:jj):MF:=cJ 2 (og a)
def gn (c:jj)(b:J)(a:MF):MS:=
  (af (az (mB (aw PH (bU (aM c.cl "many") aG) (bU (aM c.cl "most") aG))) (af (bM c.cl "halt" aG (av (aa (ag "long") ae)))
  zr) ai)
  (af (i7 c.cl "many" (λu v=>u+v) aG (aq 1))
  (aO (fy aL (bU (aM c.cl "doings") aG) (aa (rR b 4 a (aa aR (aa cu n4))) ae)))))
def i8 (c:jj)(b:J)(a:MF):MF:=cJ 4 (gn c b a)
def eX (c:jj)(b:J)(a:MF):MS:=
  (aO (bX b "begin" 4 a aG (aa (av ni) (aa (ao (eB kg (aa (ao (bU (aM c.cl "house") aG) (aq 2)) ae)) aR) FH))))
def hE (c:jj)(b:J)(a:MF):MF:=cJ 2 (eX c b a)
def eg (d:jj)(c:J)(a:MF)(b:MF):MS:=
  (af (i7 d.cl "begun" (λu v=>u+v) aR (aq 1))
  (aO (bX c "begin" 4 b aG (aa (aw aI (bU (aM d.cl "place") aR) (av dQ)) (aa (ao (ah 1 a (aa (bU (aM d.cl "deed") aR) ae)) cu) n4)))))
def gj (d:jj)(c:J)(a:MF)(b:MF):MF:=cJ 4 (eg d c a b)
def fK (a:jj):MS:=
  (af (az (mB (aw (bh b_) (bU (aM a.cl "used") aG) (eB fj (aa (bU (aM a.cl "choices") aG) ae)))) (af (bM a.cl "halt" aG (av (aa (ag "waits") ae)))
  (ax bJ)) ai)
  (af (i7 a.cl "used" (λu v=>u+v) aG (aq 1))
  (ax (ao (bU (aM a.cl "choices") aG) (aw dO (bU (aM a.cl "used") aG) (aq 1))))))
def ij (a:jj):MF:=cJ 1 (fK a)
def bG (e:jj)(d:J)(b:MF)(c:MF)(a:MF):MS:=
  (af (au (bU (aM e.cl "place") aR) (b' 2))
  (af (au (bU (aM e.cl "deed") aR) (b' 3))
  (af (az (mB (aw (bh b_) (ao bC (aq 0)) (ag "say"))) (aO (bX d "tell" 2 a aG (aa (av (aa (ag "say") (aa cu (aa (ao bC (aq 1)) ae)))) ae))) ai)
  (af (az (mB (aw (bh b_) (ao bC (aq 0)) (ag "slip"))) (aO (bX d "tell" 2 a aG (aa (av (aa (ag "slip") dQ)) ae))) ai)
  (af (az (mB (aw (bh b_) (ao bC (aq 0)) (ag "pass"))) (aO (bX d "tell" 2 a aG (aa (av (aa (ag "pass") (aa cu (aa (bU (aM e.cl "slip") aR) ae)))) ae))) ai)
  (af (bM e.cl "marks" aG (ah 3 b (aa (bU (aM e.cl "house") aG) (aa bC (aa (bU (aM e.cl "marks") aG) ae)))))
  (ax (ah 3 c (aa cu (aa bC (aa (bU (aM e.cl "slip") aR) ae)))))))))))
def jQ (e:jj)(d:J)(a:MF)(b:MF)(c:MF):MF:=cJ 4 (bG e d a b c)
def dk (c:jj)(b:J)(a:MF):MS:=
  (af (az (lq BN (mB (aw (bh L) cu (ag "done")))) (ax cu) ai)
  (af (az (mB (aw (bh b_) (bU (aM c.cl "begun") aR) (aw dO (eB fj (aa (bU (aM c.cl "deed") aR) ae)) (aq 1)))) (ax (ag "done")) ai)
  (af (aO (bX b "begin_within" 4 a aG (aa aR (aa (bU (aM c.cl "begun") aR) (aa (bU (aM c.cl "slip") aR) ae)))))
  (ax bJ))))
def fV (c:jj)(b:J)(a:MF):MF:=cJ 3 (dk c b a)
def eY (d:jj)(c:J)(b:MF)(a:MF):MS:=
  (af (az BN (ax cu) ai)
  (af (au (bX c "choose" 1 b aG ae) (b' 3))
  (af (az (mB (aw (d8 L) bC bJ)) (aO (bX c "begin_within" 4 a aG (aa aR (aa (aw gX bC (aw dO (eB fj (aa (bU (aM d.cl "deed") aR) ae)) (aq 1))) (aa (bU (aM d.cl "slip") aR) ae))))) ai)
  (ax bJ))))
def gw (d:jj)(c:J)(b:MF)(a:MF):MF:=cJ 4 (eY d c b a)
def bN (d:jj)(c:J)(b:MF)(a:MF):MS:=
  (af (az (mB (aw (bh b_) cu (ag "stop"))) (ax (ag "done")) ai)
  (af (az (lq BN (mB (aw (bh L) cu (ag "done")))) (ax cu) ai)
  (af (au (bX c "choose" 1 b aG ae) (b' 3))
  (af (az Io (ax bJ) ai)
  (af (az (mB (aw (bh b_) (aw gX bC (aq 2)) (aq 0))) (ax (ag "done")) ai)
  (af (aO (bX c "begin_within" 4 a aG (aa aR (aa (aq 0) (aa (bU (aM d.cl "slip") aR) ae)))))
  (ax bJ)))))))
def eE (d:jj)(c:J)(b:MF)(a:MF):MF:=cJ 4 (bN d c b a)
def gp (c:jj)(b:J)(a:MF):MS:=
  (af (az BN (ax cu) ai)
  (af (aO (bX b "begin_within" 4 a aG (aa aR (aa (zq (mB (gu b_ (ao (bU (aM c.cl "deed") aR) (aq 1)) (bU (aM c.cl "marks") aG))) (aq 0) (aq 1)) (aa (bU (aM c.cl "slip") aR) ae)))))
  (ax bJ)))
def i9 (c:jj)(b:J)(a:MF):MF:=cJ 3 (gp c b a)
def dn (e:jj)(d:J)(c:MF)(a:MF)(b:MF):MS:=
  (af (az Mv (af (aO (bX d "begin_room" 2 a aG (aa (ao (bU (aM e.cl "deed") aR) (aq 1)) ae)))
  (ax bJ)) ai)
  (af (az (mP (dS (ah 1 c dQ))) (ax (ag "done")) ai)
  (af (aO (bX d "tell" 2 b aG (aa (av (aa (ag "out") (aa (bU (aM e.cl "place") aR) dQ))) ae)))
  (ax cu))))
def ed (e:jj)(d:J)(c:MF)(a:MF)(b:MF):MF:=cJ 3 (dn e d c a b)
def c5 (e:jj)(d:J)(c:MF)(a:MF)(b:MF):MS:=
  (af (az (mB (aw GG (bU (aM e.cl "begun") aR) (aq 2))) (af (bM e.cl "held" aR cu)
  (af (aO (bX d "begin_within" 4 a aG (aa aR (aa (bU (aM e.cl "begun") aR) (aa (bU (aM e.cl "slip") aR) ae)))))
  (ax bJ))) ai)
  (af (az (dS (ah 1 c (aa (bU (aM e.cl "held") aR) ae))) (aO (bX d "tell" 2 b aG (aa (av (aa (zq (mB (aw (bh b_) cu (ag "done"))) (ag "kept") (ag "lost")) (aa (bU (aM e.cl "place") aR) (aa (bU (aM e.cl "held") aR) ae)))) ae))) ai)
  (ax (zq (mB (aw (bh b_) cu (ag "done"))) (bU (aM e.cl "held") aR) cu))))
def lC (e:jj)(d:J)(c:MF)(a:MF)(b:MF):MF:=cJ 3 (c5 e d c a b)
def bF (f:jj)(c:J)(e:MF)(d:MF)(a:MF)(b:MF):MS:=
  (af (az Mv (af (aO (bX c "begin_within" 4 a aG (aa aR (aa (aq 0) (aa (bU (aM f.cl "slip") aR) ae)))))
  (ax bJ)) ai)
  (af (az (qS (mB (aw (bh b_) (bU (aM f.cl "begun") aR) (aq 2))) (mP (dS (ah 1 e dQ)))) (ax cu) ai)
  (af (au (ah 3 d (aa (bU (aM f.cl "house") aG) (aa (bU (aM f.cl "deed") aR) dQ))) (b' 3))
  (af (az Io (af (aO (bX c "tell" 2 b aG (aa (av (aa (ag "by") (aa (bU (aM f.cl "place") aR) dQ))) ae)))
  (ax cu)) ai)
  (af (aO (bX c "tell" 2 b aG (aa (av (aa (ag "take") (aa (bU (aM f.cl "place") aR) Im))) ae)))
  (af (aO (bX c "begin_within" 4 a aG (aa aR (aa (aw aI (aq 1) bC) dQ))))
  (ax bJ)))))))
def dF (f:jj)(e:J)(d:MF)(b:MF)(a:MF)(c:MF):MF:=cJ 4 (bF f e d b a c)
def zS (h e b f g c d a:MF):MS:=
  (af (az (mB (aw (bh b_) bC (ag "row"))) (ax (ah 3 h lV)) ai)
  (af (az (mB (aw (bh b_) bC (ag "pick"))) (ax (ah 3 e lV)) ai)
  (af (az (mB (aw (bh b_) bC (ag "again"))) (ax (ah 3 b lV)) ai)
  (af (az (mB (aw (bh b_) bC (ag "when"))) (ax (ah 3 f lV)) ai)
  (af (az (mB (aw (bh b_) bC (ag "call"))) (ax (ah 3 g lV)) ai)
  (af (az (mB (aw (bh b_) bC (ag "clean"))) (ax (ah 3 c lV)) ai)
  (af (az (mB (aw (bh b_) bC (ag "catch"))) (ax (ah 3 d lV)) ai)
  (ax (ah 2 a wx)))))))))
def F6 (i:jj)(h:MF)(e:MF)(b:MF)(f:MF)(g:MF)(c:MF)(d:MF)(a:MF):MS:=
  (af (au (ao (bU (aM i.cl "deed") aR) (aq 0)) (b' 3)) (zS h e b f g c d a))
def zu (i:jj)(h:MF)(e:MF)(b:MF)(f:MF)(g:MF)(c:MF)(d:MF)(a:MF):MF:=cJ 4 (F6 i h e b f g c d a)
def yL (f:jj)(b:J)(g:MF)(e:MF)(c:MF)(a:MF)(d:MF):MS:=
  (af (au (rR b 4 c lV) (b' 3))
  (af (aO (bX b "begin_room" 2 a bC (aa (ao (ao (ao aG (aq 2)) (aq 0)) (aq 0)) ae)))
  (af (au bJ (b' 4))
  (af (t8 (lq (dS (bU (aM f.cl "doings") bC)) (mB (aw (d8 b_) (bU (aM f.cl "halt") bC) bJ))) (af (au (ah 3 g (aa bC (aa (ao (bU (aM f.cl "doings") bC) (bU vI (aq 1))) fZ))) (b' 4))
  (az Pa (aO (fy Eh (bU (aM f.cl "doings") bC) ae)) ai)))
  (af (az (mB (aw (d8 L) (bU (aM f.cl "halt") bC) bJ)) (ax (av (aa (bU (aM f.cl "trail") bC) (aa (bU (aM f.cl "halt") bC) (aa (bU (aM f.cl "many") bC) ae))))) ai)
  (af (az (dS (ah 1 e fZ)) (af (aO (bX b "tell" 2 d bC (aa (av (aa (ag "end") fZ)) ae)))
  (ax (av (aa (bU (aM f.cl "trail") bC) (aa (av (aa (ag "slip") fZ)) (aa (bU (aM f.cl "many") bC) ae)))))) ai)
  (ax (av (aa (bU (aM f.cl "trail") bC) (aa (av (aa (ag "done") ae)) (aa (bU (aM f.cl "many") bC) ae)))))))))))
def IV (g:jj)(f:J)(e:MF)(d:MF)(b:MF)(a:MF)(c:MF):MF:=cJ 5 (yL g f e d b a c)
def ic:MS:=
  (af (az (mB (aw GG aR O7)) (ax (ao aG aR)) ai)
  (ax (aq 0)))
def dG:MF:=cJ 2 (ic)
def iW (a:MF):MS:=
  (af (au (ah 2 a wx) (b' 2))
  (af (az (mB (aw (bh b_) cu (aq 0))) (ax (bj (aa (aq 0) ae))) ai)
  (af (az (mB (aw PH cu (aw ue (aq 10) (aq 18)))) (ax (bj (aa (aw dO cu (aw ue (aq 10) (aq 18))) ae))) ai)
  (af (au (aq 2305843009213693951) (b' 3))
  (af (au (aw gX (aw aI (aw aI (aw nV cu (aq 48271)) (aw nV (aq 69621) aR)) (aq 11)) bC) (b' 4))
  (af (au (aw gX (aw aI (aw aI (aw nV c4 c4) (aw nV (aq 40692) aR)) c4) bC) (b' 5))
  (af (au (aw gX (aw aI (aw nV jn jn) c4) bC) (b' 6))
  (af (au (aw gX (aw aI (aw nV gV gV) jn) bC) (b' 7))
  (ax (bj (aa (aw aI (aw nV (aw aI (aw nV (aw aI (aw nV c4 bC) jn) bC) gV) bC) n6) ae)))))))))))
def fD (a:MF):MF:=cJ 8 (iW a)
def oh:MS:=
  (af (au (aw gX (ao aG (aq 0)) aR) (b' 2))
  (af (aW aG (aq 0) (aw pX (ao aG (aq 0)) aR))
  (ax cu)))
def ak:MF:=cJ 3 (oh)
abbrev Pl:ME:=ao lY (ah 2 ak Pg)
abbrev BQ:ME:=av (aa lY (aa (ao pC (ah 2 ak (aa aG (aa (eB fj Ie) ae)))) ae))
def fP (a:MF):MS:=
  (af (au (ag "abcdefghijklmnopqrstuvwxyz") (b' 2))
  (af (au (ah 2 a (aa aG (aa (aq 3) ae))) (b' 3))
  (af (au (ah 2 a (aa aG (aa (aq 26) ae))) (b' 4))
  (af (au (aw dO (aq 1) (aw nV (aq 2) (ah 2 a (aa aG (aa (aq 2) ae))))) (b' 5))
  (af (az (mB (aw (bh b_) bC (aq 0))) (af (au (aw aI yC (ag "kovistu")) (b' 6))
  (au (di [O,Y 6] oY (b' 0) dB (lS aR bo (b8 (aw aI aG (aq 1))))) (b' 7))) (az (mB (aw (bh b_) bC (aq 1))) (af (au (bj (aa (ag "say") (aa (ag "slip") (aa (ag "pass") (aa (ag "of") (aa (ag "with") (aa (ag "else") (aa (ag "kinds") (aa (ag "marks") (aa (ag "front") (aa (ag "pick") (aa (ag "row") ae)))))))))))) (b' 8))
  (au (di [O,Y 4,Y 8] oY (b' 0) dB (ao (aw aI cu (bj (aa (ag "done") (aa (ag "end") ae)))) (aw gX FI (aq 13)))) (b' 7))) (af (au (ah 2 a (aa aG (aa (aq 5) ae))) (b' 9))
  (au (di [O,Y 9,Y 2,Y 4] oY (b' 0) dB (aw aI (aw aI (lS (ag "melon") bo (b8 aR)) (ao cu (aw gX Ii (aq 26)))) (lS (ag "melon") (b8 (aw aI aR (aq 1))) bo))) (b' 7)))))
  (ax Il))))))
def hG (a:MF):MF:=dw 10 (fP a)
def jA (a:MF)(b:MF):MS:=
  (af (au (aw aI (aq 1) (ah 2 a (aa aG (aa (ao (bj (aa (aq 4) (aa (aq 8) ae))) (eB oT (aa (aw (bh b_) (ah 2 a (aa aG (aa (aq 6) ae))) (aq 5)) ae))) ae)))) (b' 1))
  (af (au (ah 2 b wx) (b' 2))
  (af (au dZ (b' 3))
  (af (eJ oY (b' 4) (af (au (ah 2 a (aa aG (aa (aq 3) ae))) (b' 5))
  (az (qS (mB (aw (bh b_) c4 (aq 0))) (mB (aw (bh b_) jn (aq 0)))) (aO (fy aL bC (aa (av (aa yC (aa (ag "") ae))) ae))) (aO (fy aL bC (aa (av (aa yC (aa (ao cu (ah 2 a (aa aG fZ))) ae))) ae))))))
  (ax (eB fH n4))))))
def oK (a:MF)(b:MF):MF:=dw 6 (jA a b)
def iU (a:MF):MS:=
  (af (au cu (iC 4 (bt (b' 3) (bt (b' 4) (bt (b' 5) (bt (b' 6) iB))))))
  (af (au (bj (aa (ag "say") (aa (ag "slip") (aa (ag "slip") (aa (ag "call") (aa (ag "row") ae)))))) (b' 7))
  (af (az (mB (aw (bh b_) (ao aR (ag "slips")) (aq 0))) (au (bj (aa (ag "say") (aa (ag "say") (aa (ag "call") (aa (ag "row") (aa (ag "leave") ae)))))) (b' 7)) ai)
  (af (az (mB (aw (bh L) (ao aR (ag "marks")) dZ)) (au (aw aI n6 (bj (aa (ag "on") (aa (ag "off") ae)))) (b' 7)) ai)
  (af (az (dS bC) (au (aw aI n6 (bj (aa (ag "pass") (aa (ag "pass") ae)))) (b' 7)) ai)
  (af (az (dS c4) (aO (fy aL n6 (aa (ag "stop") ae))) ai)
  (af (au (ao (aw aI n6 (bj (aa (ag "leave") ae))) (ah 2 a (aa aG (aa (aw aI Ms (aq 1)) ae)))) (b' 8))
  (af (az (mB (gu b_ lY (av (aa (ag "pass") (aa (ag "stop") (aa (ag "leave") (aa (ag "row") ae))))))) (ax Ij) ai)
  (af (az (mB (aw (bh b_) lY (ag "slip"))) (aW aR (ag "slips") (aw dO (ao aR (ag "slips")) (aq 1))) ai)
  (af (au (ao aR (fC (eC (aB (ag "say") (ag "words") (aB (ag "slip") (ag "kinds") (aB (ag "call") (ag "rooms") eD)))) lY (ag "marks"))) (b' 9))
  (ax (av (aa lY (aa (ao pC (ah 2 a (aa aG (aa (eB fj Ie) ae)))) ae))))))))))))))
def qm (a:MF):MF:=dw 10 (iU a)
def iV (a:MF):MS:=
  (af (au (di [O] oY (b' 0) dB (aq 1)) (b' 4))
  (af (eJ oY (b' 3) (af (au (ah 2 a (aa aG (aa (aw aI Pd (aq 1)) ae))) (b' 5))
  (aW c4 bC Pb)))
  (ax c4)))
def mQ (a:MF):MF:=dw 6 (iV a)
def iT (a:MF)(b:MF)(c:MF)(d:MF):MS:=
  (af (au bC (iC 4 (bt (b' 4) (bt (b' 5) (bt (b' 6) (bt (b' 7) iB))))))
  (af (az (qS (mB (aw GG cu (aq 2))) (qS (mB (aw (bh b_) n6 (aq 12))) (mB (aw (bh b_) (ah 2 a (aa aG (aa (aq 6) ae))) (aq 5))))) (ax (ah 3 b BP)) ai)
  (af (au (bj (aa (ag "row") (aa (ag "catch") (aa (ag "pick") (aa (ag "again") (aa (ag "row") (aa (ag "catch") ae))))))) (b' 8))
  (af (az Ig (au (aw aI lY (bj (aa (ag "clean") (aa (ag "clean") ae)))) (b' 8)) ai)
  (af (az (mB (aw (bh L) (ao aR (ag "marks")) dZ)) (aO (fy aL lY (aa (ag "when") ae))) ai)
  (af (au (ao lY (ah 2 a Pg)) (b' 9))
  (af (au (ao (eC (aB (ag "row") (aq 1) (aB (ag "again") (aq 1) (aB (ag "catch") (aq 2) (aB (ag "clean") (aq 2) (aB (ag "pick") (aq 2) (aB (ag "when") (aq 2) eD))))))) pC) (b' 10))
  (af (au (ao (eC (aB (ag "row") (aq 4) (aB (ag "again") (aq 1) (aB (ag "catch") (aq 4) (aB (ag "clean") (aq 2) (aB (ag "pick") (aq 3) (aB (ag "when") (aq 2) eD))))))) pC) (b' 11))
  (af (az (mB (aw GG (aw dO cu (aq 1)) nc)) (ax (ah 3 b BP)) ai)
  (af (au (aw aI nc (ah 2 a (aa aG (aa (aw aI (aw dO (eB t9 (aa wu (aa (aw dO cu (aq 1)) ae))) nc) (aq 1)) ae)))) (b' 12))
  (af (au (ah 3 c (aa aG (aa (bZ 12) (aa (aw dO cu (aq 1)) ae)))) (b' 13))
  (af (au dZ (b' 14))
  (af (eJ (dz (aa (bZ 12) ae)) (b' 15) (af (au (ql c4 (oJ (aw (bh b_) pC (ag "catch")) (aw PJ (bZ 15) (aq 0)))) (b' 16))
  (af (au (ql gV (oJ (aw (bh b_) pC (ag "clean")) (aw (bh b_) (bZ 15) (aq 1)))) (b' 17))
  (af (au (av (aa (bZ 16) (aa (ql jn (aw (bh b_) pC (ag "again"))) (aa (bZ 17) (aa (aw aI n6 (aq 1)) ae))))) (b' 18))
  (aO (fy aL ng (aa (ah 4 d Pj) ae)))))))
  (af (az (mB (aw (bh b_) pC (ag "when"))) (ax (av (aa (ag "when") (aa (ao (ao aR (ag "marks")) (ah 2 a (aa aG (aa (eB fj (aa (ao aR (ag "marks")) ae)) ae)))) (aa (ao ng (aq 0)) (aa (ao ng (aq 1)) ae)))))) ai)
  (af (az (mB (aw (bh L) pC (ag "catch"))) (ax Ph) ai)
  (af (au dZ (b' 19))
  (af (eJ (cy (lS ng (b8 (aq 1)) bo)) (b' 20) (aO (fy aL (bZ 19) (aa (av (aa (ao (ao aR (ag "kinds")) (ah 2 a (aa aG (aa (eB fj (aa (ao aR (ag "kinds")) ae)) ae)))) (aa (bZ 20) ae))) ae))))
  (ax (aw aI (av (aa (ag "catch") (aa (ao ng (aq 0)) ae))) (eB fH (aa (bZ 19) ae)))))))))))))))))))))
def xK (b:MF)(c:MF)(a:MF)(d:MF):MF:=dw 21 (iT b c a d)
def jz (c:MF)(d:MF)(b:MF)(a:MF)(e:MF):MS:=
  (af (au (ah 2 c wx) (b' 2))
  (af (au (ah 1 d dQ) (b' 3))
  (af (au (ah 2 b (aa cu (aa (ao (bj (aa (aq 0) (aa (aq 0) (aa (aq 0) (aa (aq 1) (aa (aq 2) (aa (aq 2) ae))))))) (ah 2 a (aa cu (aa (aq 6) ae)))) ae))) (b' 4))
  (af (au (ao (bj (aa (aq 1) (aa (aq 2) (aa (aq 2) (aa (aq 3) (aa (aq 3) (aa (aq 5) ae))))))) (ah 2 a (aa cu (aa (aq 6) ae)))) (b' 5))
  (af (au (ah 2 b Mu) (b' 6))
  (af (au (eC (aB (ag "kinds") (di [O] (cy bC) (b' 0) dB (ao aG (aq 0))) (aB (ag "marks") c4 (aB (ag "rooms") gV (aB (ag "words") (ah 2 b (aa cu (aa (aq 3) ae))) eD))))) (b' 7))
  (af (aW n6 (ag "slips") (ao (bj (aa (aq 2) (aa (aq 4) (aa (aq 4) (aa (aq 8) ae))))) (ah 2 a (aa cu (aa (aq 4) ae)))))
  (af (au (aw pX (ao (bj (aa (aq 8) (aa (aq 14) (aa (aq 20) (aa (aq 45) ae))))) (ah 2 a (aa cu (aa (aq 4) ae)))) jn) (b' 8))
  (af (au dZ (b' 9))
  (af (eJ Mq (b' 10) (af (au (ah 2 c (aa aG (aa (aw aI (aw aI aR (aq 1)) nc) ae))) (b' 11))
  (aO (fy aL pC (aa (av (aa Ih (aa (ah 4 e (aa wu (aa n6 (aa (eB qo (aa (aq 1) yB)) (aa (av (aa fJ (aa fJ (aa fJ (aa (aq 0) ae))))) ae))))) ae))) ae)))))
  (ax MB)))))))))))
def jS (d:MF)(a:MF)(b:MF)(c:MF)(e:MF):MF:=dw 12 (jz d a b c e)
def ie (a:MF):MS:=
  (af (au dZ (b' 2))
  (af (eJ (dz (aa (ah 2 a (aa aG (aa (aw aI aR (aq 1)) ae))) ae)) (b' 3) (af (au (ah 2 a (aa aG (aa (aq 8) ae))) (b' 4))
  (aO (fy aL cu (aa (ao (bj (aa (aq 0) (aa (aq 1) (aa (aq 2) (aa (aq 3) (aa (aq 1) (aa (aq 0) (aa (aq 5) (aa (aw aI (aw ue (aq 10) (aq 29)) (aq 1)) ae))))))))) c4) ae)))))
  (ax cu)))
def lD (a:MF):MF:=dw 5 (ie a)
def fQ:MS:=
  (af (az (mB (aw (bh b_) (ao aG (aq 0)) (ag "when"))) (ax (eB g8 (aa (lS aG (b8 (aq 2)) bo) ae))) ai)
  (af (az (mB (aw (bh b_) (ao aG (aq 0)) (ag "catch"))) (ax (aw aI (bj (aa (ao aG (aq 1)) ae)) (di [O] (cy (lS aG (b8 (aq 2)) bo)) (b' 0) dB (ao aG (aq 1))))) ai)
  (af (az (mB (gu b_ (ao aG (aq 0)) (av (aa (ag "row") (aa (ag "pick") (aa (ag "again") (aa (ag "clean") ae))))))) (ax (eB g8 (aa (lS aG (b8 (aq 1)) bo) ae))) ai)
  (ax dZ))))
def dU:MF:=dw 1 (fQ)
def lM (a:MF)(b:MF):MS:=
  (af (au (bj (aa (av wx) ae)) (b' 2))
  (af (au (ah 1 a ni) (b' 3))
  (af (eJ (dz Pc) (b' 4) (aO (fy iX cu (aa (ah 2 b Pk) ae))))
  (ax cu))))
def xM (a:MF)(b:MF):MF:=dw 5 (lM a b)
def nD (a:MF):MS:=
  (af (au dZ (b' 1))
  (af (eJ (cy (ao aG (aq 2))) (iC 2 (bt (b' 2) (bt (b' 3) iB))) (aO (fy iX aR (aa (ah 2 a Pf) ae))))
  (ax aR)))
def rV (a:MF):MF:=dw 4 (nD a)
def jC:MS:=
  (af (au dZ (b' 2))
  (af (eJ (cy (vE aG (b8 (bU vI (aq 1))))) (iC 2 (bt (b' 3) (bt (b' 4) iB))) (az O9 (af (aO (fy aL cu n4))
  (au c4 (b' 1))) ai))
  (ax cu)))
def dW:MF:=dw 5 (jC)
def fR (a:MF):MS:=
  (af (au (ah 2 a (aa (ao aG (aq 0)) (aa (ao (ao aR bC) (aq 1)) ae))) (b' 4))
  (af (eJ (dz (aa (aw dO Ik (aq 2)) ae)) (b' 5) (az (mB (gu b_ (ao (ao cu (aw aI (aq 2) jn)) (aq 0)) c4)) (ax jn) ai))
  (ax bJ)))
def jT (a:MF):MF:=dw 6 (fR a)
def jy:MS:=
  (af (az (mB (aw (bh b_) (ao aG (ag "choices")) dZ)) (af (aW aG (ag "end") (av (aa (ag "waits") ae)))
  (ax bJ)) ai)
  (ax (aw gX (fy zD (ao aG (ag "choices")) (aa (aq 0) ae)) aR)))
def aS:MF:=dw 2 (jy)
def uM (a:MF)(b:MF):MS:=
  (t8 (dS (mC (.bl L))) (af (au (ah 2 a (aa aG (aa (aq 2) ae))) (b' 3))
  (af (az Io (ax bJ) ai)
  (af (az (mB (aw (bh b_) bC (aq 0))) (ax (ag "done")) ai)
  (af (au (ah 3 b (aa aG (aa (aw aI aR (av (aa (aq 0) ae))) dQ))) (b' 4))
  (af (az (mB (aw (bh b_) c4 (ag "stop"))) (ax (ag "done")) ai)
  (az (mB (aw (bh L) c4 (ag "done"))) (ax c4) ai)))))))
def cW (a:MF)(b:MF):MF:=cJ 5 (uM a b)
def eM (a:MF):MS:=
  (af (au (ah 3 a (aa aG (aa (aw aI aR (av (aa (aq 0) ae))) dQ))) (b' 3))
  (af (az (mB (aw (d8 L) (ao aG (ag "end")) bJ)) (ax bJ) ai)
  (af (au (ah 3 a (aa aG (aa (aw aI aR (av (aa (aq 1) ae))) dQ))) (b' 4))
  (af (az (mB (aw (d8 L) (ao aG (ag "end")) bJ)) (ax bJ) ai)
  (af (az (dS (qR "tuple" bC)) (aO (fy aL (ao aG (ag "trail")) (aa (av (aa (ao (bj (aa (ag "lost") (aa (ag "kept") ae))) (eB oT (aa (aw (bh b_) c4 (ag "done")) ae))) (aa aR n4))) ae))) ai)
  (ax (zq (mB (aw (bh b_) c4 (ag "done"))) bC c4)))))))
def cq (a:MF):MF:=dw 5 (eM a)
def fO (a:MF)(b:MF):MS:=
  (af (au (ah 3 a (aa aG (aa (aw aI aR (av (aa (aq 0) ae))) n4))) (b' 4))
  (af (az (qS (mB (aw (d8 L) (ao aG (ag "end")) bJ)) (mP (dS Mp))) (ax c4) ai)
  (af (au (ah 4 b (aa (ao aG (ag "house")) (aa (ao aG (ag "deeds")) (aa cu fZ)))) (b' 5))
  (af (az BO (af (aO (fy aL (ao aG (ag "trail")) (aa (av (aa (ag "by") (aa aR fZ))) ae)))
  (ax c4)) ai)
  (af (aO (fy aL (ao aG (ag "trail")) (aa (av (aa (ag "take") Pe)) ae)))
  (ax (ah 3 a (aa aG (aa (aw aI aR (av (aa (aw aI (aq 1) jn) ae))) fZ)))))))))
def cp (b:MF)(a:MF):MF:=cJ 6 (fO b a)
def gH (a:MF):MS:=
  (af (au (ah 3 a (aa aG (aa (av (aa (ao cu (aq 1)) ae)) FH))) (b' 3))
  (af (az (mB (aw (d8 L) (ao aG (ag "end")) bJ)) (ax bJ) ai)
  (af (az (dS (qR "tuple" bC)) (af (aO (fy aL (ao aG (ag "trail")) (aa (av (aa (ag "out") (aa aR n4))) ae)))
  (ax bC)) ai)
  (ax (ag "done")))))
def cL (a:MF):MF:=cJ 4 (gH a)
def nE (a:MF):MS:=
  (af (eJ (dz (aa (aw dO Ik (aq 1)) ae)) (b' 4) (af (au (ah 3 a My) (b' 5))
  (az (qS (mB (aw (bh L) jn (ag "done"))) (mB (aw (d8 L) (ao aG (ag "end")) bJ))) (ax jn) ai)))
  (ax (ag "done")))
def ee (a:MF):MF:=cJ 6 (nE a)
def mu (g:MF)(b:MF)(c:MF)(d:MF)(f:MF)(a:MF)(e:MF):MS:=
  (af (az (mB (aw (bh b_) (ao aG (ag "begun")) (ao aG (ag "most")))) (af (aW aG (ag "end") (av (aa (ag "long") ae)))
  (ax bJ)) ai)
  (af (aW aG (ag "begun") (aw aI (ao aG (ag "begun")) (aq 1)))
  (af (au (ao (ao aG (ag "deeds")) aR) (b' 3))
  (af (au (ao bC (aq 0)) (b' 4))
  (af (az (mB (aw (bh b_) c4 (ag "say"))) (aO (fy aL (ao aG (ag "trail")) (aa (av (aa (ag "say") (aa aR (aa (ao bC (aq 1)) ae)))) ae))) ai)
  (af (az (mB (gu b_ c4 (av (aa (ag "on") (aa (ag "off") ae))))) (aW (ao aG (ag "marks")) (ao bC (aq 1)) (aw (bh b_) c4 (ag "on"))) ai)
  (af (az (mB (aw (bh b_) c4 (ag "slip"))) (af (aO (fy aL (ao aG (ag "trail")) (aa (av (aa (ag "slip") ni)) ae)))
  (ax aR)) ai)
  (af (az (mB (aw (bh b_) c4 (ag "pass"))) (af (aO (fy aL (ao aG (ag "trail")) (aa (av (aa (ag "pass") (aa aR dQ))) ae)))
  (ax cu)) ai)
  (af (az (mB (gu b_ c4 (av (aa (ag "leave") (aa (ag "stop") ae))))) (ax c4) ai)
  (af (az (mB (aw (bh b_) c4 (ag "row"))) (ax (ah 4 g Ip)) ai)
  (af (az (mB (aw (bh b_) c4 (ag "again"))) (ax (ah 3 b lV)) ai)
  (af (az (mB (aw (bh b_) c4 (ag "clean"))) (ax (ah 3 c lV)) ai)
  (af (az (mB (aw (bh b_) c4 (ag "catch"))) (ax (ah 4 d Ip)) ai)
  (af (az (mB (aw (bh b_) c4 (ag "call"))) (ax (ah 3 f BP)) ai)
  (af (az (mB (aw (bh b_) c4 (ag "when"))) (ax (ah 3 a (aa aG (aa (aw aI aR (av (aa (aw dO (aq 1) (eB oT (aa (fC (ao aG (ag "marks")) (ao bC (aq 1)) fJ) ae))) ae))) dQ)))) ai)
  (af (az (mB (aw (bh b_) c4 (ag "pick"))) (af (au (ah 2 e (aa aG (aa (aw dO FJ (aq 1)) ae))) (b' 5))
  (ax (zq BO bJ (ah 3 a Mz)))) ai)
  (ax (ag "done"))))))))))))))))))
def jR (f:MF)(a:MF)(b:MF)(c:MF)(e:MF)(g:MF)(d:MF):MF:=cJ 6 (mu f a b c e g d)
def nF (a:MF)(b:MF):MS:=
  (af (au xJ (b' 3))
  (af (eJ (cy (ah 1 a BM)) (iC 2 (bt (b' 4) (bt (b' 5) iB))) (aW bC c4 jn))
  (af (au (eC (aB (ag "house") aG (aB (ag "deeds") bC (aB (ag "choices") Mt (aB (ag "most") cu eD))))) (b' 6))
  (af (aW gV (ag "begun") (aq 0))
  (af (aW gV (ag "trail") dZ)
  (af (aW gV (ag "marks") qk)
  (af (aW gV (ag "end") bJ)
  (af (au (ah 3 b (aa gV (aa (av (aa (ao (ao (ao aG (aq 2)) (aq 0)) (aq 0)) ae)) FH))) (b' 7))
  (af (az (lq (mB (aw (d8 b_) (ao gV (ag "end")) bJ)) Mr) (af (aO (fy aL (ao gV (ag "trail")) (aa (av (aa (ag "end") iI)) ae)))
  (aW gV (ag "end") (av (aa (ag "slip") iI)))) ai)
  (af (az (mB (aw (d8 b_) (ao gV (ag "end")) bJ)) (aW gV (ag "end") (av (aa (ag "done") ae))) ai)
  (ax (av (aa (ao gV (ag "trail")) (aa (ao gV (ag "end")) (aa (ao gV (ag "begun")) ae)))))))))))))))
def ku (a:MF)(b:MF):MF:=dw 8 (nF a b)
def jB (b:MF)(a:MF):MS:=
  (af (au Mt (b' 3))
  (af (au (ah 3 b (aa aG Im)) (b' 4))
  (af (au (ah 3 a lV) (b' 5))
  (af (az (qS (mP (dS Mp)) (qS (mB (aw (bh L) (eB fj fZ) (aq 3))) (qS (mB (aw (bh L) (eB lG fZ) (eB lG yA))) (mB (aw (bh L) bC aR))))) (ax fJ) ai)
  (af (aO (fy tm (ao c4 (aq 0)) ae))
  (ax (aw (bh b_) (eB lG (aa (ah 3 b lV) ae)) (eB lG yA))))))))
def hI (b:MF)(a:MF):MF:=dw 6 (jB b a)
def B6 (b:MF)(e:MF)(a:MF)(c:MF)(d:MF)(f:MF):MS:=
  (af (au (ah 2 b (aa aG (aa (aq 0) ae))) (b' 1))
  (af (eJ (rS (aa (aq 6) (aa (eB qo (aa (aq 8) (aa (eB t9 (aa (aq 12) Mw)) ae))) ae))) (b' 2) (af (au (ah 2 e FK) (b' 3))
  (af (au (ah 2 a (aa bC (aa (aq 40) ae))) (b' 4))
  (eJ (cy (bj (aa (aq 120) (aa (ah 2 c (aa bC (aa (aq 24) ae))) (aa (aq 0) ae))))) (b' 5) (az (mP (dS (ah 3 d Mx))) (ax fJ) ai)))))
  (af (au (av (aa (av (aa (ag "a") (aa (ag "") ae))) ae)) (b' 6))
  (af (au (av (aa (ag "a") (aa (aq 1) ae))) (b' 7))
  (af (au (aw aI (aw aI (bj (aa (av (aa (ag "slip") iI)) ae)) (aw oV (bj (aa (av (aa (ag "out") (aa (av (aa (ag "a") (aa (aq 0) ae))) iI))) ae)) (aq 900))) (bj (aa (av (aa (ag "end") iI)) ae))) (b' 8))
  (af (au (av (aa gV (aa qW (aa (av (aa (av (aa (ag "a") (aa (av (aa (ag "pick") (aa (av (aa (ag "call") (aa (ag "a") ae))) (aa (av (aa (ag "slip") (aa (ag "a") ae))) ae)))) ae))) ae)) ae)))) (b' 1))
  (af (az (mB (aw (bh L) (ah 3 f (aa aR (aa (aw aI (aw oV (bj (aa (aq 0) ae)) (aq 900)) (bj (aa (aq 1) ae))) (aa (aq 5000) ae)))) (av (aa lY (aa (av (aa (ag "slip") iI)) (aa (aq 1802) ae)))))) (ax fJ) ai)
  (af (az (mB (aw (bh L) (ah 3 f (aa (av (aa gV (aa qW (aa (av (aa (av (aa (ag "a") (aa (av (aa (ag "call") (aa (ag "a") ae))) ae))) ae)) ae)))) (aa dZ (aa (aq 5000) ae)))) (av (aa dZ (aa (av (aa (ag "long") ae)) (aa (aq 5000) ae)))))) (ax fJ) ai)
  (ax (aw (bh b_) (ah 3 f (aa (av (aa gV (aa qW (aa (av (aa (av (aa (ag "a") (aa (av (aa (ag "again") (aa (av (aa (ag "row") ae)) ae))) ae))) ae)) ae)))) (aa (aw oV (bj (aa (aq 1) ae)) (aq 900)) (aa (aq 5000) ae)))) (av (aa dZ (aa (av (aa (ag "waits") ae)) (aa (aq 901) ae))))))))))))))
def DL (b:MF)(e:MF)(a:MF)(c:MF)(d:MF)(f:MF):MF:=dw 9 (B6 b e a c d f)
end D11
namespace RN
variable {S:Type}[DecidableEq S]
inductive aA (S:Type) where
 |aq (w:S) | aE (k:S) | aj | ai | ak | on (m:S) | ao (m:S) | ae (r:S)
 |ah (ds:List (aA S)) | ag (ds:List (aA S)) | ab (d:aA S) | fz (m:S) (a b:aA S) | af (a b:aA S) | aa (a:aA S) (ts:List (S×aA S))
structure aK (S:Type) where
 ae:List (S×S)
 ab:List S
 aa:List (S×aA S)
 af:List S
abbrev h_ (S:Type):=S×List Nat
inductive n_ (S:Type) where
 |aa | ab | ae | aE (p:h_ S)
noncomputable def w_:aA S->List (aA S)
 |.ah c=>c
 |.ag c=>c
 |.ab d=>[d]
 |.fz _ a b=>[a,b]
 |.af a b=>[a,b]
 |.aa a e=>a::e.map (·.2)
 |_=>[]
noncomputable def jc:List (S×S)->S->List S
 |[],_=>[]
 |(k,o)::r,n=>if k=n then k::jc r o else jc r n
def WH (ks:List (S×S))(n:S):List S:=jc ks.reverse n
noncomputable def N_ (d:aA S):List Nat->Option (aA S)
 |[]=>Y d
 |i::r=>match(w_ d)[i]? with
  |some e=>N_ e r
  |none=>O
def bc (H:aK S)(p:h_ S):Option (aA S):=match H.aa.lookup p.1 with
 |some d=>N_ d p.2
 |none=>O
def Y0 (H:aK S)(p:h_ S):Option S:=match bc H p with
 |some (.aE k)=>Y k
 |_=>O
noncomputable def bB (os:List S):Nat->List (S×aA S)->Option Nat
 |_,[]=>O
 |n,(k,_)::r=>if k∈os then Y n else bB os (n+1) r
def aT (H:aK S)(ts:List (S×aA S))(p:h_ S):Option Nat:=match Y0 H p with
 |some k=>bB (WH H.ae k) 0 ts
 |none=>O
inductive Ev (S:Type) where
 |ag (p:h_ S) (w:S) | aE (p:h_ S) | af (p:h_ S) (s:Option (h_ S)) | take (p:h_ S) (n:Nat) (s:h_ S) | by(p s:h_ S) | aa (p s:h_ S) | nO (p s:h_ S) | ae (p s:h_ S) | ab (s:h_ S)
inductive WI (S:Type) where
 |ab | aE (p:h_ S) | cC | aa
structure q_ (S:Type) where
 ab:h_ S
 cz:aA S
 ae:Option (h_ S)
 aa:Nat
 af:Option (n_ S)
structure St (S:Type) where
 aa:List (q_ S)
 ag:List S
 ab:Nat
 ae:Nat
 ah:List (Ev S)
 af:Option (WI S)
def M_ (st:St S)(e:Ev S):St S:={st with ah:=st.ah++[e]}
def J_ (most:Nat)(st:St S)(p:h_ S)(d:aA S)(h:Option (h_ S)):St S:=
 if most<=st.ae then{st with af:=Y .aa} else{st with ae:=st.ae+1,aa:=⟨p,d,h,0,O⟩::st.aa}
noncomputable def l_ (p:h_ S)(n:Nat):h_ S:=(p.1,p.2++[n])
def ay (most:Nat)(st:St S)(f:q_ S)(rest:List (q_ S))(n:Nat)(h:Option (h_ S)):St S:=
 match(w_ f.cz)[n]? with
 |some d=>J_ most {st with aa:={f with aa:=f.aa+1}::rest} (l_ f.ab n) d h
 |none=>st
def bY (H:aK S)(most:Nat)(st:St S)(r:S):St S:=match H.aa.lookup r with
 |some d=>J_ most st (r,[]) d O
 |none=>st
def F_ (cs:List Int)(st:St S):St S×Option Int:=match cs[st.ab]? with
 |some c=>({st with ab:=st.ab+1},Y c)
 |none=>({st with af:=Y .cC},O)
def lF (H:aK S)(ms:List S)(m:S):List S:=H.ab.filter λx=>j' (x∈ms) || decide (x=m)
noncomputable def ik (ms:List S)(m:S):List S:=ms.filter λx=>!j' (x=m)
def bb (H:aK S)(cs:List Int)(most:Nat)(st:St S)(f:q_ S)(rest:List (q_ S))(e:Option (n_ S)):St S×Option (n_ S):=
 match f.cz with
 |.aq w=>(M_ st (.ag f.ab w),Y .aa)
 |.aE _=>(M_ st (.aE f.ab),Y (.aE f.ab))
 |.aj=>(M_ st (.af f.ab f.ae),f.ae.map .aE)
 |.ai=>(st,Y .ab)
 |.ak=>(st,Y .ae)
 |.on m=>({st with ag:=lF H st.ag m},Y .aa)
 |.ao m=>({st with ag:=ik st.ag m},Y .aa)
 |.ah b=>match e with
  |none=>if f.aa=b.length then(st,Y .aa) else(ay most st f rest f.aa f.ae,O)
  |some .aa=>if f.aa=b.length then(st,Y .aa) else(ay most st f rest f.aa f.ae,O)
  |some x=>(st,Y x)
 |.ag b=>match e with
  |some x=>(st,Y x)
  |none=>match F_ cs st with
   |(a,Y c)=>(ay most a f rest (c%b.length).toNat f.ae,O)
   |(a,O)=>(a,O)
 |.ab _=>match e with
  |some .ae=>(st,Y .aa)
  |some .ab=>(st,Y .ab)
  |some (.aE p)=>(st,Y (.aE p))
  |_=>match F_ cs st with
   |(a,Y c)=>if c%2=0 then(a,Y .aa) else(ay most a f rest 0 f.ae,O)
   |(a,O)=>(a,O)
 |.fz m _ _=>match e with
  |some x=>(st,Y x)
  |none=>(ay most st f rest (if m∈st.ag then 0 else 1) f.ae,O)
 |.ae r=>match e with
  |none=>(bY H most st r,O)
  |some (.aE p)=>(M_ st (.ae f.ab p),Y (.aE p))
  |some _=>(st,Y .aa)
 |.af _ _=>
  if f.aa<2 then(ay most st {f with af:=e} rest f.aa f.ae,O)
  else match f.af with
   |some (.aE p)=>match e with
    |some .aa=>(M_ st (.aa f.ab p),Y (.aE p))
    |x=>(M_ st (.nO f.ab p),x)
   |x=>match e with
    |some .aa=>(st,x)
    |y=>(st,y)
 |.aa _ d=>match e with
  |none=>(ay most st f rest 0 f.ae,O)
  |some (.aE p)=>if f.aa=2 then(st,Y (.aE p)) else match aT H d p with
   |none=>(M_ st (.by f.ab p),Y (.aE p))
   |some n=>(ay most (M_ st (.take f.ab n p)) f rest (1+n) (Y p),O)
  |some x=>(st,Y x)
def E' (H:aK S)(cs:List Int)(most:Nat)(st:St S)(e:Option (n_ S)):St S×Option (n_ S):=
 match st.aa with
 |[]=>(st,e)
 |f::a=>match bb H cs most st f a e with
  |(b,O)=>(b,O)
  |(b,Y x)=>({b with aa:=a},Y x)
structure T_ (S:Type) where
 ab:List (Ev S)
 ae:WI S
 aa:Nat
def R_ (st:St S)(e:Option (n_ S)):T_ S:=match st.af with
 |some f=>⟨st.ah,f,st.ae⟩
 |none=>match e with
  |some (.aE p)=>⟨st.ah++[.ab p],.aE p,st.ae⟩
  |_=>⟨st.ah,.ab,st.ae⟩
noncomputable def L' (H:aK S)(cs:List Int)(most:Nat):Nat->St S->Option (n_ S)->Option (T_ S)
 |0,_,_=>O
 |n+1,a,e=>if a.af.isSome=L\/a.aa=[] then Y (R_ a e) else let r:=E' H cs most a e;L' H cs most n r.1 r.2
noncomputable def W' (H:aK S)(most:Nat):St S:=match H.aa with
 |(r,_)::_=>bY H most ⟨[],[],0,0,[],O⟩ r
 |[]=>⟨[],[],0,0,[],O⟩
def run (H:aK S)(cs:List Int)(most:Nat):Option (T_ S):=L' H cs most (2*most+5) (W' H most) O
end RN
namespace RN
variable {S:Type}[DecidableEq S]{H:aK S}{cs:List Int}{most:Nat}
inductive Ok (H:aK S):Bool->aA S->Prop
 |aj {t w}:w∈H.af->Ok H t (.aq w)
 |aE {t k}:Ok H t (.aE k)
 |ak:Ok H L .aj
 |ai {t}:Ok H t .ai
 |ao {t}:Ok H t .ak
 |on {t m}:m∈H.ab->Ok H t (.on m)
 |aq {t m}:Ok H t (.ao m)
 |ab {t r d}:H.aa.lookup r=Y d->Ok H t (.ae r)
 |ah {t ds}:(∀ d∈ds,Ok H t d)->Ok H t (.ah ds)
 |ae {t ds}:ds.length=2\/ds.length=3->(∀ d∈ds,Ok H t d)->Ok H t (.ag ds)
 |aa {t d}:Ok H t d->Ok H t (.ab d)
 |fz {t m a b}:Ok H t a->Ok H t b->Ok H t (.fz m a b)
 |ag {t a b}:Ok H t a->Ok H t b->Ok H t (.af a b)
 |af {t a ts}:Ok H t a->(∀ x∈ts,Ok H L x.2)->Ok H t (.aa a ts)
theorem Ok.mU {t:Bool}(o:Ok H t .aj):t=true:=by cases o;rfl
theorem Ok.ui {t:Bool}{a:List (aA S)}(o:Ok H t (.ah a)):∀ d∈a,Ok H t d:=by cases o with | ah h=>exact h
theorem Ok.mV {t:Bool}{a:List (aA S)}(o:Ok H t (.ag a)):(a.length=2\/a.length=3)/\∀ d∈a,Ok H t d:=by cases o with | ae h g=>exact⟨h,g⟩
theorem Ok.nz {t:Bool}{d:aA S}(o:Ok H t (.ab d)):Ok H t d:=by cases o with | aa h=>exact h
theorem Ok.j5 {t:Bool}{m:S}{a b:aA S}(o:Ok H t (.fz m a b)):Ok H t a/\Ok H t b:=by cases o with | fz h g=>exact⟨h,g⟩
theorem Ok.kd {t:Bool}{a b:aA S}(o:Ok H t (.af a b)):Ok H t a/\Ok H t b:=by cases o with | ag h g=>exact⟨h,g⟩
theorem Ok.my {t:Bool}{r:S}(o:Ok H t (.ae r)):∃ d,H.aa.lookup r=Y d:=by cases o with | ab h=>exact⟨_,h⟩
theorem Ok.kb {t:Bool}{a:aA S}{ts:List (S×aA S)}(o:Ok H t (.aa a ts)):Ok H t a/\∀ x∈ts,Ok H L x.2:=by cases o with | af h g=>exact⟨h,g⟩
structure f9 (H:aK S):Prop where
 ne:H.aa≠[]
 ok:∀ r d,H.aa.lookup r=Y d->Ok H b_ d
def cD (H:aK S)(p:h_ S):Prop:=∃ k,bc H p=Y (.aE k)
def jo (H:aK S):Option (n_ S)->Prop
 |some (.aE p)=>cD H p
 |_=>True
def iu (H:aK S)(b:Bool)(f:q_ S):Prop:=
 Ok H f.ae.isSome f.cz/\bc H f.ab=Y f.cz/\(∀ p,f.ae=Y p->cD H p)/\jo H f.af/\
 match f.cz with
 |.ah a=>f.aa<=a.length/\(b=L↔f.aa=0)
 |.ag _=>True
 |.ab _=>True
 |.fz _ _ _=>True
 |.ae _=>True
 |.af _ _=>(b=L↔f.aa=0)/\f.aa<=2/\(f.aa=2->f.af≠O)
 |.aa _ _=>True
 |_=>b=L
structure Yw (H:aK S)(most:Nat)(st:St S)(e:Option (n_ S)):Prop where
 af:st.af=O->∀ f r,st.aa=f::r->iu H e.isNone f/\∀ g∈r,iu H b_ g
 ab:jo H e
 aa:st.ae<=most
 ae:st.af=Y .aa->st.ae=most
 ag:st.af=O\/st.af=Y .aa\/st.af=Y .cC
theorem qE {d:aA S}:∀ {l:List Nat}{n:Nat}{x:aA S},N_ d l=Y x->N_ d (l++[n])=(w_ x)[n]?
 |[],n,x,e=>by
  cases e;show(match(w_ d)[n]? with | some e=>N_ e [] | none=>O)=_;cases(w_ d)[n]?<;>rfl
 |i::r,n,x,e=>by
  unfold N_ at e;show(match(w_ d)[i]? with | some e=>N_ e (r++[n]) | none=>O)=_;cases h:(w_ d)[i]? with
  |none=>rw[h]at e;cases e
  |some y=>rw[h]at e;exact qE (d:=y) e
theorem c6 {p:h_ S}{n:Nat}{x:aA S}(e:bc H p=Y x):bc H (l_ p n)=(w_ x)[n]?:=by
 unfold bc at e ⊢;show(match H.aa.lookup p.1 with | some d=>N_ d (p.2++[n]) | none=>O)=_;cases h:H.aa.lookup p.1 with
 |none=>rw[h]at e;cases e
 |some d=>rw[h]at e;exact qE e
theorem iu.aa {p:h_ S}{d:aA S}{h:Option (h_ S)}(o:Ok H h.isSome d)(a:bc H p=Y d)(s:∀ q,h=Y q->cD H q):iu H L ⟨p,d,h,0,O⟩:=by
 refine⟨o,a,s,trivial,?_⟩;cases d<;>simp
inductive BY (H:aK S)(most:Nat)(st:St S)(rest:List (q_ S)):St S->Option (n_ S)->Prop
 |ab {st':St S} {x:WI S}:st'.af=Y x->(x=.aa\/x=.cC)->st'.ae=st.ae->(x=.aa->st.ae=most)->BY H most st rest st' O
 |B8 {st':St S} {f g:q_ S}:st'.af=O->st'.ae=st.ae+1->st.ae<most->st'.aa=g::f::rest->iu H L g->iu H b_ f->BY H most st rest st' O
 |aa {st':St S} {x:n_ S}:st'.af=O->st'.ae=st.ae->jo H (Y x)->BY H most st rest st' (Y x)
theorem rA {st:St S}{b:St S}{f:q_ S}{rest:List (q_ S)}{p:h_ S}{d:aA S}{h:Option (h_ S)}(g:st.af=O)(k:st.ae<=most)(i:st.aa=f::rest)(e:b.ae=st.ae)
  (j:iu H b_ f) (o:Ok H h.isSome d) (a:bc H p=Y d) (s:∀ q,h=Y q->cD H q):BY H most b rest (J_ most st p d h) none:=by
 unfold J_;by_cases c:most<=st.ae
 .rw[W0 c];exact .ab (x:=.aa) rfl (.inl rfl) e.symm (λ_=>by lia)
 .rw[W5 c];exact .B8 g (by show st.ae+1=_;rw[e]) ⋯ (by show _::st.aa=_;rw[i]) (iu.aa o a s) j
theorem dr {st:St S}{a:St S}{f:q_ S}{rest:List (q_ S)}{n:Nat}{d:aA S}{h:Option (h_ S)}(e:st.af=O)(g:st.ae<=most)(i:a.ae=st.ae)(b:(w_ f.cz)[n]?=Y d)
  (c:iu H b_ {f with aa:=f.aa+1}) (o:Ok H h.isSome d) (s:∀ q,h=Y q->cD H q):BY H most a rest (ay most st f rest n h) none:=by
 unfold ay;rw[b];exact rA (st:={st with aa:={f with aa:=f.aa+1}::rest}) e g rfl i c o (by rw[c6 c.2.1];exact b) s
theorem wj {os:List S}:∀ {ts:List (S×aA S)}{n m:Nat},bB os n ts=Y m->n<=m/\m<n+ts.length
 |[],_,_,e=>by cases e
 |(k,d)::r,n,m,e=>by
  unfold bB at e;split at e
  .cases e;simp
  .have:=wj e;simp only[Xa];lia
theorem mG {ts:List (S×aA S)}{p:h_ S}{n:Nat}(e:aT H ts p=Y n):n<ts.length:=by
 unfold aT at e;split at e
 .have:=wj e;lia
 .cases e
theorem lU {b:Type}{l:List b}{n:Nat}{a:b}(h:l[n]?=Y a):a∈l:=Xk h
theorem C9 (X:f9 H){st:St S}{e:Option (n_ S)}{f:q_ S}{rest:List (q_ S)}(j:st.af=O)(D:st.ae<=most)(Z:st.aa=f::rest)(fo:iu H e.isNone f)(C:jo H e) :
  BY H most st rest (bb H cs most st f rest e).1 (bb H cs most st f rest e).2:=by
 obtain⟨p,d,g,b,i⟩:=f;obtain⟨o,a,s,t,x⟩:=fo;dsimp only at o a s t x;cases d with
 |aq w=>exact .aa j rfl trivial
 |aE k=>exact .aa j rfl ⟨k,a⟩
 |aj=>
  cases g with
  |none=>exact absurd o.mU nofun
  |some q=>exact .aa j rfl (s q rfl)
 |ai=>exact .aa j rfl trivial
 |ak=>exact .aa j rfl trivial
 |on m=>exact .aa j rfl trivial
 |ao m=>exact .aa j rfl trivial
 |ah A=>
  have l:=o;have o:=l.ui
  .obtain⟨U,Wj⟩:=x;have I:BY H most st rest (if b=A.length then((st,Y n_.aa):St S×Option (n_ S)) else(ay most st ⟨p,.ah A,g,b,i⟩ rest b g,O)).1 (if b=A.length then((st,Y n_.aa):St S×Option (n_ S)) else(ay most st ⟨p,.ah A,g,b,i⟩ rest b g,O)).2:=by
    by_cases c:b=A.length
    .rw[W0 c];exact .aa j rfl trivial
    .rw[W5 c];have V:b<A.length:=by lia
     have E:A[b]?=Y A[b]:=W6 V;exact dr (f:=⟨p,.ah A,g,b,i⟩) j D rfl E ⟨l,a,s,t,by show b+1<=A.length;lia,by simp⟩ (o _ (lU E)) s
   cases e with
   |none=>exact I
   |some y=>
    cases y with
    |aa=>exact I
    |ab=>exact .aa j rfl trivial
    |ae=>exact .aa j rfl trivial
    |aE q=>exact .aa j rfl C
 |ag A=>
  have l:=o;obtain⟨V,o⟩:=l.mV
  .cases e with
   |some y=>exact .aa j rfl C
   |none=>
    delta bb F_;dsimp only
    cases hc:cs[st.ab]? with
    |none=>exact .ab (x:=.cC) rfl (.inr rfl) rfl (λz=>nomatch z)
    |some c=>
     have hp:(0:Int)<A.length:=by lia
     have h1:=ZI c (show(A.length:Int)≠0 by lia);have N:=ZH c hp;have P:(c%(A.length:Int)).toNat<A.length:=by lia
     have E:A[(c%(A.length:Int)).toNat]?=Y A[(c%(A.length:Int)).toNat]:=W6 P;exact dr (f:=⟨p,.ag A,g,b,i⟩) (st:={st with ab:=st.ab+1}) j D rfl E ⟨l,a,s,t,trivial⟩ (o _ (lU E)) s
 |ab d=>
  have l:=o;have o:=l.nz
  .have I:BY H most st rest (match F_ cs st with | (B,Y c)=>if c%2=0 then((B,Y n_.aa):St S×Option (n_ S)) else(ay most B ⟨p,.ab d,g,b,i⟩ rest 0 g,O) | (B,O)=>(B,O)).1 (match F_ cs st with | (B,Y c)=>if c%2=0 then((B,Y n_.aa):St S×Option (n_ S)) else(ay most B ⟨p,.ab d,g,b,i⟩ rest 0 g,O) | (B,O)=>(B,O)).2:=by
    unfold F_;cases hc:cs[st.ab]? with
    |none=>exact .ab (x:=.cC) rfl (.inr rfl) rfl (λz=>nomatch z)
    |some c=>
     dsimp only;by_cases N:c%2=0
     .rw[W0 N];exact .aa j rfl trivial
     .rw[W5 N];exact dr (f:=⟨p,.ab d,g,b,i⟩) (st:={st with ab:=st.ab+1}) (n:=0) (d:=d) j D rfl rfl ⟨l,a,s,t,trivial⟩ o s
   cases e with
   |none=>exact I
   |some y=>
    cases y with
    |aa=>exact I
    |ab=>exact .aa j rfl trivial
    |ae=>exact .aa j rfl trivial
    |aE q=>exact .aa j rfl C
 |fz m u v=>
  have l:=o;obtain⟨K,Q⟩:=l.j5
  .cases e with
   |some y=>exact .aa j rfl C
   |none=>
    show BY H most st rest (ay most st _ rest (if m∈st.ag then 0 else 1) g) O;by_cases c:m∈st.ag
    .rw[W0 c];exact dr (f:=⟨p,.fz m u v,g,b,i⟩) (n:=0) (d:=u) j D rfl rfl ⟨l,a,s,t,trivial⟩ K s
    .rw[W5 c];exact dr (f:=⟨p,.fz m u v,g,b,i⟩) (n:=1) (d:=v) j D rfl rfl ⟨l,a,s,t,trivial⟩ Q s
 |ae r=>
  have l:=o;obtain⟨d,T⟩:=l.my
  .cases e with
   |none=>
    show BY H most st rest (bY H most st r) O;unfold bY;rw[T];refine rA (f:=⟨p,.ae r,g,b,i⟩) j D Z rfl ⟨l,a,s,t,trivial⟩ (X.ok r d T) ?_ (λq z=>nomatch z);unfold bc;dsimp only;rw[T];rfl
   |some y=>
    cases y with
    |aE q=>exact .aa j rfl C
    |aa=>exact .aa j rfl trivial
    |ab=>exact .aa j rfl trivial
    |ae=>exact .aa j rfl trivial
 |af u v=>
  have l:=o;obtain⟨K,Q⟩:=l.kd
  .obtain⟨W,x2,x3⟩:=x
   delta bb;dsimp only
   by_cases c:b<2
   .rw[W0 c];have F:b=0\/b=1:=by lia
    rcases F with rfl | rfl
    .exact dr (f:=⟨p,.af u v,g,0,e⟩) (n:=0) (d:=u) j D rfl rfl ⟨l,a,s,C,by simp,by show 0+1<=2;lia,by simp⟩ K s
    .have:e.isNone=false:=by cases h:e.isNone with | true=>exact absurd (W.mp h) ∅ | false=>rfl
     refine dr (f:=⟨p,.af u v,g,1,e⟩) (n:=1) (d:=v) j D rfl rfl ⟨l,a,s,C,by simp,by show 1+1<=2;lia,λ_=>?_⟩ Q s;show e≠O;intro z;rw[z]at this;cases this
   .rw[W5 c];have U:b=2:=by lia
    have hs:=x3 U;have he:e≠none:=λz=>by
     have:=W.mp (by rw[z];rfl);lia
    cases i with
    |none=>exact absurd rfl hs
    |some y=>
     cases e with
     |none=>exact absurd rfl he
     |some z=>
      cases y<;>cases z<;>first | exact .aa j rfl trivial | exact .aa j rfl C | exact .aa j rfl t
 |aa u G=>
  have l:=o;obtain⟨K,ot⟩:=l.kb
  .cases e with
   |none=>exact dr (f:=⟨p,.aa u G,g,b,i⟩) (n:=0) (d:=u) j D rfl rfl ⟨l,a,s,t,trivial⟩ K s
   |some y=>
    cases y with
    |aa=>exact .aa j rfl trivial
    |ab=>exact .aa j rfl trivial
    |ae=>exact .aa j rfl trivial
    |aE q=>
     delta bb;dsimp only
     by_cases c:b=2
     .rw[W0 c];exact .aa j rfl C
     .rw[W5 c];cases hk:aT H G q with
      |none=>exact .aa j rfl C
      |some n=>
       have hn:=mG hk;have E:G[n]?=Y G[n]:=W6 hn;refine dr (f:=⟨p,.aa u G,g,b,i⟩) (st:=M_ st (.take p n q)) (n:=1+n) (d:=G[n].2) j D rfl ?_ ⟨l,a,s,t,trivial⟩ (ot _ (lU E)) (λr z=>by cases z;exact C);show(u::G.map (·.2))[1+n]?=_;rw[Yz 1 n,Xg,Xd,E];rfl
theorem vZ (n:f9 H){st:St S}{e:Option (n_ S)}(I:Yw H most st e)(m:st.af=O)(o:st.aa≠[]) :
  Yw H most (E' H cs most st e).1 (E' H cs most st e).2/\((E' H cs most st e).1.af≠O\/2*(most-(E' H cs most st e).1.ae)+(E' H cs most st e).1.aa.length<2*(most-st.ae)+st.aa.length):=by
 cases d:st.aa with
 |nil=>exact absurd d o
 |cons f b=>
  obtain⟨p,l⟩:=I.af m f b d;have D:=C9 (cs:=cs) n m I.aa d p I.ab;unfold E';rw[d];dsimp only;generalize bb H cs most st f b e=r at D;obtain⟨a,t⟩:=r;dsimp only at D
  induction D using BY.casesOn with
  |ab c h i k=>
   show Yw H most a O/\(a.af≠O\/_);refine⟨⟨λz=>(by rw[c]at z;cases z),trivial,by rw[i];exact I.aa,λz=>by rw[i];rw[c]at z;cases z;exact k rfl,by rw[c];rcases h with rfl | rfl<;>simp⟩,.inl (by rw[c];simp)⟩
  |B8 c h i k q s=>
   show Yw H most a O/\(_\/2*(most-a.ae)+a.aa.length<_);refine⟨⟨λ_ u r z=>?_,trivial,by rw[h];lia,λz=>(by rw[c]at z;cases z),.inl c⟩,.inr ?_⟩
   .rw[k]at z;cases z;exact⟨q,λy hy=>by
     rcases Xj.mp hy with rfl | hy
     .exact s
     .exact l y hy⟩
   .rw[h,k];simp only[Xa];lia
  |aa c h i=>
   show Yw H most {a with aa:=b} (Y _)/\(_\/2*(most-a.ae)+b.length<_);refine⟨⟨λ_ g r z=>?_,i,by show a.ae<=most;rw[h];exact I.aa,λz=>(by have j:a.af=_:=z;rw[c]at j;cases j),.inl c⟩,.inr ?_⟩
   .have j:b=g::r:=z;exact⟨l g (by rw[j];exact XI),λy hy=>l y (by rw[j];exact Xt _ hy)⟩
   .rw[h];simp only[Xa];lia
theorem rE (f:f9 H):∀ (n:Nat) {st:St S}{e:Option (n_ S)},Yw H most st e->2*(most-st.ae)+st.aa.length+1<n->∃ r,L' H cs most n st e=Y r/\(r.ae=.aa->r.aa=most)
 |0,_,_,_,h=>by lia
 |n+1,st,e,I,h=>by
  unfold L';have a:∃ r,Y (R_ st e)=Y r/\(r.ae=.aa->r.aa=most):=⟨_,rfl,λz=>by
   unfold R_ at z ⊢;cases b:st.af with
   |some x=>rw[b]at z;dsimp only at z ⊢;exact I.ae (by rw[b,z])
   |none=>
    rw[b]at z;dsimp only at z;split at z<;>cases z⟩
  by_cases c:st.af.isSome=L\/st.aa=[]
  .rw[W0 c];exact a
  .rw[W5 c];have b:st.af=none:=by cases z:st.af with | none=>rfl | some _=>exact absurd (.inl (by rw[z];rfl)) c
   obtain⟨g,d⟩:=vZ (cs:=cs) f I b (λz=>c (.inr z));show ∃ r,L' H cs most n (E' H cs most st e).1 (E' H cs most st e).2=Y r/\_;rcases d with d | d
   .cases n with
    |zero=>lia
    |succ n=>
     refine⟨R_ (E' H cs most st e).1 (E' H cs most st e).2,?_,λz=>?_⟩
     .unfold L';rw[W0 (.inl (by cases z:(E' H cs most st e).1.af with | none=>exact absurd z d | some _=>rfl))]
     .unfold R_ at z ⊢;cases b:(E' H cs most st e).1.af with
      |none=>exact absurd b d
      |some x=>rw[b]at z;dsimp only at z ⊢;exact g.ae (by rw[b,z])
   .exact rE f n g ⋯
theorem sx (b:f9 H):Yw H most (W' H most) O/\(W' H most).aa.length<=1:=by
 unfold W';cases e:H.aa with
 |nil=>exact absurd e b.ne
 |cons x l=>
  obtain⟨r,d⟩:=x;dsimp only;have a:H.aa.lookup r=Y d:=by rw[e];simp
  unfold bY;rw[a];dsimp only;unfold J_;by_cases c:most<=0
  .rw[W0 c];exact⟨⟨(λz=>nomatch z),trivial,Xl _,λ_=>(by show 0=most;lia),.inr (.inl rfl)⟩,Xl _⟩
  .rw[W5 c];refine⟨⟨λ_ f q z=>?_,trivial,by show 0+1<=most;lia,λz=>(nomatch z),.inl rfl⟩,WY _⟩;cases z;exact⟨iu.aa (b.ok r d a) (by unfold bc;dsimp only;rw[a];rfl) (λq z=>nomatch z),λg h=>absurd h nofun⟩
theorem EI (a:f9 H):∃ r,run H cs most=Y r/\(r.ae=.aa->r.aa=most):=by
 obtain⟨I,b⟩:=sx (most:=most) a;exact rE a _ I (by have:=I.aa;lia)
end RN
namespace D11
open PySem L2 S RN
variable [kf:KF]
mutual
def a_:aA M->U
 |.aq w=>.af [.ae "say",.ae w]
 |.aE k=>.af [.ae "slip",.ae k]
 |.aj=>.af [.ae "pass"]
 |.ai=>.af [.ae "leave"]
 |.ak=>.af [.ae "stop"]
 |.on m=>.af [.ae "on",.ae m]
 |.ao m=>.af [.ae "off",.ae m]
 |.ae r=>.af [.ae "call",.ae r]
 |.ah c=>.af (.ae "row"::rC c)
 |.ag c=>.af (.ae "pick"::rC c)
 |.ab d=>.af [.ae "again",a_ d]
 |.fz m a b=>.af [.ae "when",.ae m,a_ a,a_ b]
 |.af a b=>.af [.ae "clean",a_ a,a_ b]
 |.aa a e=>.af (.ae "catch"::a_ a::fg e)
def rC:List (aA M)->List U
 |[]=>[]
 |d::r=>a_ d::rC r
def fg:List (M×aA M)->List U
 |[]=>[]
 |(k,d)::r=>.af [.ae k,a_ d]::fg r
end
theorem cx:∀ a:List (aA M),rC a=a.map a_
 |[]=>rfl
 |d::r=>by rw[rC,cx r];rfl
def gW (x:M×aA M):U:=.af [.ae x.1,a_ x.2]
theorem cH:∀ ts:List (M×aA M),fg ts=ts.map gW
 |[]=>rfl
 |(k,d)::r=>by rw[fg,cH r];rfl
noncomputable def aj (p:h_ M):U:=.af (.ae p.1::p.2.map λn:Nat=>.ab (n:Int))
noncomputable def cG (ks:List (M×M)):U:=.af (ks.map λk=>.af [.ae k.1,.ae k.2])
def aJ (H:aK M):U:=.af [cG H.ae,.af (H.ab.map .ae),.af (H.aa.map λr=>.af [.ae r.1,a_ r.2])]
end D11
namespace S
open PySem L2
variable [kf:KF]
theorem ab {a b:MS}{σ σ':bu}{h h':MH}(e:a σ h=Y (.nx σ',h')):af a b σ h=b σ' h':=by unfold af;rw[e];rfl
theorem cM {a b:MS}{σ:bu}{u:U}{h h':MH}(e:a σ h=Y (.rt u,h')):af a b σ h=Y (.rt u,h'):=by unfold af;rw[e];rfl
theorem aC {a:ME}{i:Nat}{σ:bu}{h h':MH}{u:U}(e:a σ h=Y (u,h')):au a (b' i) σ h=Y (.nx (σ.set i (Y u)),h'):=by unfold au;rw[e];rfl
theorem aF {c:MT}{a b:MS}{σ:bu}{h h':MH}{k:Bool}(e:c σ h=Y (k,h')):az c a b σ h=if k=L then a σ h' else b σ h':=by unfold az;rw[e];rfl
theorem cQ {a:ME}{σ:bu}{h h':MH}{u:U}(e:a σ h=Y (u,h')):aO a σ h=Y (.nx σ,h'):=by unfold aO;rw[e];rfl
theorem a7 {a:ME}{σ:bu}{h h':MH}{u:U}(e:a σ h=Y (u,h')):ax a σ h=Y (.rt u,h'):=by unfold ax;rw[e];rfl
theorem bD {N:Nat}{m:MS}{us:List U}{h h':MH}{u:U}(e:m (us.map Y++List.replicate (N-us.length) O) h=Y (.rt u,h')):cJ N m us h=Y (u,h'):=by unfold cJ;rw[e];rfl
theorem C1 {N:Nat}{m:MS}{us:List U}{h h':MH}{σ:bu}(e:m (us.map Y++List.replicate (N-us.length) O) h=Y (.nx σ,h')):cJ N m us h=Y (.aQ,h'):=by unfold cJ;rw[e];rfl
theorem lN {it:pF}{g:MG}{c:MT}{a:ME}{n:Nat}{h1:MH}{σ0:bu}{us:List U}{G:U->bu}{p:U->Bool}{f:U->U}(t:n=h1.length)(j:∀ (i:Nat) (H:MH),it i H=Y us[i]?)(C:us.length<1000000)
  (w:∀ u∈us,∀ σ,(σ=σ0\/∃ v∈us,σ=G v)->∀ l,g u σ (h1++[.aa l])=Y (G u,h1++[.aa l])) (x:∀ u∈us,∀ l,c (G u) (h1++[.aa l])=Y (p u,h1++[.aa l]))
  (y:∀ u∈us,p u=L->∀ l,a (G u) (h1++[.aa l])=Y (f u,h1++[.aa l])):∀ (k m i:Nat) (σ:bu) (b:List U),i+k=us.length->k<m->(σ=σ0\/∃ v∈us,σ=G v)->b=((us.take i).filter p).map f->
   mz it g c a n m i σ (h1++[.aa b])=Y (h1++[.aa ((us.filter p).map f)])
 |0,m+1,i,σ,b,e,_,q,d=>by
  have e':i=us.length:=by lia
  have z:us[i]?=none:=by rw[e'];simp
  show((it i _).bind _)=_;rw[j,z];show Y (h1++[MO.aa b])=_;rw[d,e',Y7]
 |k+1,m+1,i,σ,b,e,E,q,d=>by
  have A:i<us.length:=by lia
  have z:us[i]?=Y us[i]:=W6 A;have h:us[i]∈us:=XY A;have D:us.take (i+1)=us.take i++[us[i]]:=ada A;show((it i _).bind _)=_;rw[j,z];show((g us[i] σ _).bind _)=_;rw[w _ h σ q];show((c (G us[i]) _).bind _)=_;rw[x _ h];show(if p us[i]=L then _ else _)=_;cases B:p us[i] with
  |true=>
   rw[W0 rfl];show(a (G us[i]) _).bind _=_;rw[y _ h B];show(match(h1++[MO.aa b])[n]? with | some (.aa b)=>_ | _=>O)=_;have o:(h1++[MO.aa b])[n]?=Y (.aa b):=by rw[t];simp
   have r:b.length<sizeLine:=by
    have h1:b.length<=us.length:=by
     rw[d,Xw];exact Xi (abr _ _) (ac5 _ _)
    have F:1000000<=sizeLine:=by rw[XJ];decide
    lia
   rw[o];show(if b.length<p' then _ else O)=_;rw[W0 r];have s:(h1++[MO.aa b]).set n (.aa (b++[f us[i]]))=h1++[MO.aa (b++[f us[i]])]:=by rw[t];simp
   rw[s];exact lN t j C w x y k m (i+1) (G us[i]) (b++[f us[i]]) ⋯ ⋯ (.inr ⟨_,h,rfl⟩) (by rw[D,acS,XS,<-d];simp[B])
  |false=>
   rw[W5 Xb];exact lN t j C w x y k m (i+1) (G us[i]) b ⋯ ⋯ (.inr ⟨_,h,rfl⟩) (by rw[D,acS,XS,<-d];simp[B])
theorem rp {ix:List (Option Nat)}{mi:MI}{g:MG}{c:MT}{a:ME}{σ:bu}{h h1:MH}{it:pF}{us:List U}(G:U->bu)(p:U->Bool)(f:U->U)(e:mi σ h=Y (it,h1))(b:∀ (i:Nat) (H:MH),it i H=Y us[i]?)(d:us.length<1000000)
  (j:∀ u∈us,∀ σ',(σ'=ix.map (fW σ)\/∃ v∈us,σ'=G v)->∀ l,g u σ' (h1++[.aa l])=Y (G u,h1++[.aa l])) (k:∀ u∈us,∀ l,c (G u) (h1++[.aa l])=Y (p u,h1++[.aa l]))
  (m:∀ u∈us,p u=L->∀ l,a (G u) (h1++[.aa l])=Y (f u,h1++[.aa l])):di ix mi g c a σ h=Y (.aa h1.length,h1++[.aa ((us.filter p).map f)]):=by
 unfold di;rw[e];show(mz it g c a h1.length FU 0 (ix.map (fW σ)) (h1++[.aa []])).bind _=_;rw[lN rfl b d j k m us.length FU 0 _ [] ⋯ (uC ⋯) (.inl rfl) rfl];rfl
theorem YZ {fr:List (Option Nat)}{mi:MI}{a:ME}{σ:bu}{h h1:MH}{it:pF}{us:List U}(f:U->U)(e:mi σ h=Y (it,h1))(b:∀ (i:Nat) (H:MH),it i H=Y us[i]?)(j:us.length<1000000)
  (k:∀ u∈us,∀ l,a (Y u::fr.map (fW σ)) (h1++[.aa l])=Y (f u,h1++[.aa l])):di (O::fr) mi (b' 0) dB a σ h=Y (.aa h1.length,h1++[.aa (us.map f)]):=by
 have:=rp (ix:=O::fr) (g:=b' 0) (c:=dB) (a:=a) (λu=>Y u::fr.map (fW σ)) (λ_=>L) f e b j (λu _ m d l=>by
  rcases d with rfl | ⟨v,_,rfl⟩<;>rfl) (λu _ l=>rfl) (λu n _ l=>k u n l)
 rw[this,List.filter_eq_self.mpr (λ_ _=>rfl)]
theorem oi {fr:List (Option Nat)}{mi:MI}{c:MT}{a:ME}{σ:bu}{h h1:MH}{it:pF}{us:List U}(p:U->Bool)(f:U->U)(e:mi σ h=Y (it,h1))(b:∀ (i:Nat) (H:MH),it i H=Y us[i]?)(g:us.length<1000000)
  (j:∀ u∈us,∀ l,c (Y u::fr.map (fW σ)) (h1++[.aa l])=Y (p u,h1++[.aa l]))
  (k:∀ u∈us,p u=L->∀ l,a (Y u::fr.map (fW σ)) (h1++[.aa l])=Y (f u,h1++[.aa l])):di (O::fr) mi (b' 0) c a σ h=Y (.aa h1.length,h1++[.aa ((us.filter p).map f)]):=
 rp (ix:=O::fr) (λu=>Y u::fr.map (fW σ)) p f e b g (λu _ m d l=>by
  rcases d with rfl | ⟨v,_,rfl⟩<;>rfl) j k
def Jj (I:bu->MH->Prop)(afi:Fl->MH->Prop):Fl->MH->Prop
 |.nx a,h=>I a h
 |.ct a,h=>I a h
 |.bk a,h=>afi (.nx a) h
 |.rt u,h=>afi (.rt u) h
theorem xI {it:pF}{g:MG}{b:MS}{m i:Nat}{σ c:bu}{h h1 h2:MH}{x:U}{f:Fl}(d:it i h=Y (Y x))(e:g x σ h=Y (c,h1))(j:b c h1=Y (f,h2)) :
  lz it g b (m+1) i σ h=(match(generalizing:=false) f with | .nx a=>lz it g b m (i+1) a h2 | .ct a=>lz it g b m (i+1) a h2 | .bk a=>Y (.nx a,h2) | .rt u=>Y (.rt u,h2)):=by
 show((it i h).bind _)=_;rw[d];show((g x σ h).bind _)=_;rw[e];show((b c h1).bind _)=_;rw[j];rfl
theorem dv {c:MT}{b:MS}{m:Nat}{σ:bu}{h h1 h2:MH}{f:Fl}(d:c σ h=Y (L,h1))(e:b σ h1=Y (f,h2)) :
  lA c b (m+1) σ h=(match(generalizing:=false) f with | .nx a=>lA c b m a h2 | .ct a=>lA c b m a h2 | .bk a=>Y (.nx a,h2) | .rt u=>Y (.rt u,h2)):=by
 show(c σ h).bind _=_;rw[d];show(b σ h1).bind _=_;rw[e];rfl
theorem tH {it:pF}{g:MG}{b:MS}(n:Nat)(I:Nat->bu->MH->Prop)(afi:Fl->MH->Prop)
  (turn:∀ i σ h,i<n->I i σ h->∃ x d h1 f h2,it i h=Y (Y x)/\g x σ h=Y (d,h1)/\b d h1=Y (f,h2)/\Jj (I (i+1)) afi f h2)
  (a:∀ σ h,I n σ h->it n h=Y O/\afi (.nx σ) h):∀ (k m i:Nat) (σ:bu) (h:MH),i+k=n->k<m->I i σ h->∃ f h',lz it g b m i σ h=Y (f,h')/\afi f h'
 |0,m+1,i,σ,h,e,_,q=>by
  have e':i=n:=by lia
  subst e';obtain⟨j,l⟩:=a σ h q;refine⟨.nx σ,h,?_,l⟩;show((it i h).bind _)=_;rw[j];rfl
 |k+1,m+1,i,σ,h,e,s,q=>by
  obtain⟨x,d,h1,f,h2,o,p,r,z⟩:=turn i σ h ⋯ q;rw[xI o p r];cases f with
  |nx c=>exact tH n I afi turn a k m (i+1) c h2 ⋯ ⋯ z
  |ct c=>exact tH n I afi turn a k m (i+1) c h2 ⋯ ⋯ z
  |bk c=>exact⟨_,_,rfl,z⟩
  |rt u=>exact⟨_,_,rfl,z⟩
theorem pb {mi:MI}{g:MG}{b:MS}{σ:bu}{h h1:MH}{it:pF}(n:Nat)(d:n<1000000000)(I:Nat->bu->MH->Prop)(afi:Fl->MH->Prop)(e:mi σ h=Y (it,h1))(j:I 0 σ h1)
  (turn:∀ i σ h,i<n->I i σ h->∃ x a h1 f h2,it i h=Y (Y x)/\g x σ h=Y (a,h1)/\b a h1=Y (f,h2)/\Jj (I (i+1)) afi f h2)
  (c:∀ σ h,I n σ h->it n h=Y O/\afi (.nx σ) h):∃ f h',eJ mi g b σ h=Y (f,h')/\afi f h':=by
 obtain⟨f,h',k,l⟩:=tH n I afi turn c n FU 0 σ h1 ⋯ (uC d) j;refine⟨f,h',?_,l⟩;unfold eJ;rw[e];show lz it g b FU 0 σ h1=_;exact k
theorem bA {h:MH}{n:Nat}{o:MO}(e:h[n]?=Y o):n<h.length:=(W2.mp e).1
theorem cn {h:MH}{o:MO}:(h++[o])[h.length]?=Y o:=by simp
theorem Ya {h:MH}{n:Nat}{o p:MO}(e:h[n]?=Y o):(h.set n p)[n]?=Y p:=XC (bA e)
section
variable {σ:bu}{h:MH}
theorem c8 {i:Nat}:bZ i σ h=(σ[i]?).bind λo=>o.bind λu=>Y (u,h):=rfl
@[simp] theorem BW {u:U}:mC u σ h=Y (u,h):=rfl
theorem EB {x:M}:ag x σ h=Y (.ae x,h):=rfl
theorem Lr {x:Int}:aq x σ h=Y (.ab x,h):=rfl
theorem mX {g:M2}{a b:ME}:aw g a b σ h=(a σ h).bind λp=>(b σ p.2).bind λq=>g p.1 q.1 q.2:=rfl
theorem OG {g:M1}{a:ME}:bU g a σ h=(a σ h).bind λp=>g p.1 p.2:=rfl
@[simp] theorem Rx {a b:ME}:oJ a b σ h=(a σ h).bind λp=>match p.1 with | .bl L=>b σ p.2 | .bl b_=>Y (.bl b_,p.2) | _=>none:=rfl
@[simp] theorem TX {a b:ME}:ql a b σ h=(a σ h).bind λp=>match p.1 with | .bl L=>Y (.bl L,p.2) | .bl b_=>b σ p.2 | _=>none:=rfl
@[simp] theorem RM {a:ME}:DK a σ h=(a σ h).bind λp=>match p.1 with | .bl c=>Y (.bl (!c),p.2) | _=>none:=rfl
theorem TJ {a:ME}:mB a σ h=(a σ h).bind λp=>match p.1 with | .bl c=>Y (c,p.2) | _=>none:=rfl
theorem Ox {a b:MT}:lq a b σ h=(a σ h).bind λp=>if p.1=L then b σ p.2 else Y (b_,p.2):=rfl
theorem OC {a b:MT}:qS a b σ h=(a σ h).bind λp=>if p.1=L then Y (L,p.2) else b σ p.2:=rfl
theorem EA {a:MT}:mP a σ h=(a σ h).bind λp=>Y (!p.1,p.2):=rfl
theorem Rz {c:MT}{a b:ME}:zq c a b σ h=(c σ h).bind λp=>if p.1=L then a σ p.2 else b σ p.2:=rfl
theorem OF {a:ME}:dS a σ h=(a σ h).bind λp=>(eS p.1 p.2).bind λb=>Y (b,p.2):=rfl
@[simp] theorem eP:ae σ h=Y ([],h):=rfl
theorem bI {a:ME}{r:MA}:aa a r σ h=(a σ h).bind λp=>(r σ p.2).bind λq=>Y (p.1::q.1,q.2):=rfl
theorem vT {a:MA}:av a σ h=(a σ h).bind λp=>if p.1.length<=p' then Y (.af p.1,p.2) else none:=rfl
theorem vR {a:MA}:bj a σ h=(a σ h).bind λp=>if p.1.length<=p' then Y (.aa p.2.length,p.2++[.aa p.1]) else none:=rfl
theorem jW {n:Nat}{f:MF}{a:MA}:ah n f a σ h=(a σ h).bind λp=>if p.1.length=n then f p.1 p.2 else none:=rfl
theorem qT {f:MF}{a:MA}:eB f a σ h=(a σ h).bind λp=>f p.1 p.2:=rfl
@[simp] theorem RL:ai σ h=Y (.nx σ,h):=rfl
theorem OD {a:ME}:ax a σ h=(a σ h).bind λp=>Y (.rt p.1,p.2):=rfl
@[simp] theorem RO:zr σ h=Y (.rt .aQ,h):=rfl
theorem TY {a b:MS}:af a b σ h=(a σ h).bind λp=>match p.1 with | .nx σ'=>b σ' p.2 | f=>Y (f,p.2):=rfl
theorem Oy {a:ME}{g:MG}:au a g σ h=(a σ h).bind λp=>(g p.1 σ p.2).bind λq=>Y (.nx q.1,q.2):=rfl
@[simp] theorem RK {i:Nat}{u:U}:b' i u σ h=Y (σ.set i (Y u),h):=rfl
@[simp] theorem RI:iB [] σ h=Y (σ,h):=rfl
@[simp] theorem PV {g:MG}{r:B1}{u:U}{us:List U}:bt g r (u::us) σ h=(g u σ h).bind λp=>r us p.1 p.2:=rfl
@[simp] theorem RJ {n:Nat}{r:B1}{us:List U}:iC n r (.af us) σ h=if us.length=n then r us σ h else none:=rfl
@[simp] theorem T1 {t:List (M×List Int)}{a:ME}:pv t a σ h=(a σ h).bind λp=>match p.1 with | .ae z=>(t.lookup z).bind λns=>Y (.ir (ns.map .ab),p.2) | _=>none:=rfl
theorem ye {a:ME}:b8 a σ h=(a σ h).bind λp=>match p.1 with | .ab i=>Y (Y i,p.2) | _=>none:=rfl
@[simp] theorem vS:bo σ h=Y (O,h):=rfl
theorem OE {a:ME}{d e:sN}:lS a d e σ h=(a σ h).bind λp=>(d σ p.2).bind λl=>(e σ l.2).bind λk=>BX p.1 l.1 k.1 k.2:=rfl
theorem nW {a b:ME}:ao a b σ h=(a σ h).bind λp=>(b σ p.2).bind λq=>if cU q.2 p.1=L then(bS q.2 p.1 q.1).bind λo=>o.bind λu=>Y (u,q.2) else tU p.1 q.1 q.2:=rfl
noncomputable def bd {d β:Type}(f:d->Option β)(o:Option d):Option β:=o.bind f
@[simp] theorem UD {d e:Type}{f:d->Option e}{x:d}:bd f (Y x)=f x:=rfl
variable {u w:U}{g:M2}{a b:ME}{us:List U}{r:MA}{n:Nat}{f:MF}{s t:MT}{c:Bool}{k l:MS}
noncomputable def kV (h:MH):Option U->Option (U×MH):=λo=>o.bind λu=>Y (u,h)
@[simp] theorem VE:kV h (Y u)=Y (u,h):=rfl
@[simp] theorem Ux {i:Nat}:bZ i σ h=bd (kV h) (σ[i]?):=rfl
noncomputable def Rc (g:M2)(u:U):U×MH->Option (U×MH):=λq=>g u q.1 q.2
def kO (g:M2)(b:ME)(σ:bu):U×MH->Option (U×MH):=λp=>bd (Rc g p.1) (b σ p.2)
@[simp] theorem Tr:Rc g u (w,h)=g u w h:=rfl
@[simp] theorem Vt:kO g b σ (u,h)=bd (Rc g u) (b σ h):=rfl
@[simp] theorem Wa:aw g a b σ h=bd (kO g b σ) (a σ h):=rfl
noncomputable def kU (g:M1):U×MH->Option (U×MH):=λp=>g p.1 p.2
@[simp] theorem VD {g:M1}:kU g (u,h)=g u h:=rfl
@[simp] theorem We {g:M1}:bU g a σ h=bd (kU g) (a σ h):=rfl
def Rh (u:U):U×MH->Option (U×MH):=λq=>if cU q.2 u=L then(bS q.2 u q.1).bind λo=>o.bind λu=>Y (u,q.2) else tU u q.1 q.2
def kX (b:ME)(σ:bu):U×MH->Option (U×MH):=λp=>bd (Rh p.1) (b σ p.2)
@[simp] theorem Tv:Rh u (w,h)=if cU h u=L then bd (kV h) (bS h u w) else tU u w h:=rfl
@[simp] theorem VG:kX b σ (u,h)=bd (Rh u) (b σ h):=rfl
@[simp] theorem V9:ao a b σ h=bd (kX b σ) (a σ h):=rfl
def Rb (n:Bool)(u:U):U×MH->Option (U×MH):=λq=>if cU q.2 q.1=L then(bS q.2 q.1 u).bind λo=>Y (.bl (if n then !o.isSome else o.isSome),q.2) else Dn n u q.1 q.2
def kN (n:Bool)(b:ME)(σ:bu):U×MH->Option (U×MH):=λp=>bd (Rb n p.1) (b σ p.2)
@[simp] theorem Tq {n:Bool}:Rb n u (w,h)=if cU h w=L then(bS h w u).bind λo=>Y (.bl (if n then !o.isSome else o.isSome),h) else Dn n u w h:=rfl
@[simp] theorem Vs {n:Bool}:kN n b σ (u,h)=bd (Rb n u) (b σ h):=rfl
@[simp] theorem V8 {n:Bool}:gu n a b σ h=bd (kN n b σ) (a σ h):=rfl
noncomputable def kB:U×MH->Option (Bool×MH):=λp=>match p.1 with | .bl c=>Y (c,p.2) | _=>O
@[simp] theorem Vg:kB (.bl c,h)=Y (c,h):=rfl
@[simp] theorem WD:mB a σ h=bd kB (a σ h):=rfl
noncomputable def kE (t:MT)(σ:bu):Bool×MH->Option (Bool×MH):=λp=>if p.1=L then t σ p.2 else Y (b_,p.2)
@[simp] theorem Vj:kE s σ (c,h)=if c=L then s σ h else Y (b_,h):=rfl
@[simp] theorem Ul:lq s t σ h=bd (kE t σ) (s σ h):=rfl
noncomputable def kQ (t:MT)(σ:bu):Bool×MH->Option (Bool×MH):=λp=>if p.1=L then Y (L,p.2) else t σ p.2
@[simp] theorem Vv:kQ s σ (c,h)=if c=L then Y (L,h) else s σ h:=rfl
@[simp] theorem Wb:qS s t σ h=bd (kQ t σ) (s σ h):=rfl
noncomputable def kW:Bool×MH->Option (Bool×MH):=λp=>Y (!p.1,p.2)
@[simp] theorem VF:kW (c,h)=Y (!c,h):=rfl
@[simp] theorem Ur:mP s σ h=bd kW (s σ h):=rfl
noncomputable def kI {d:Type}(a b:bu->MH->Option (d×MH))(σ:bu):Bool×MH->Option (d×MH):=λp=>if p.1=L then a σ p.2 else b σ p.2
@[simp] theorem Vm {d:Type}{a b:bu->MH->Option (d×MH)}:kI a b σ (c,h)=if c=L then a σ h else b σ h:=rfl
@[simp] theorem V7:zq s a b σ h=bd (kI a b σ) (s σ h):=rfl
@[simp] theorem Uo:az s k l σ h=bd (kI k l σ) (s σ h):=rfl
noncomputable def Q6 (u:U):List U×MH->Option (List U×MH):=λq=>Y (u::q.1,q.2)
def kC (r:MA)(σ:bu):U×MH->Option (List U×MH):=λp=>bd (Q6 p.1) (r σ p.2)
@[simp] theorem Tg:Q6 u (us,h)=Y (u::us,h):=rfl
@[simp] theorem Vh:kC r σ (u,h)=bd (Q6 u) (r σ h):=rfl
@[simp] theorem Sw:aa a r σ h=bd (kC r σ) (a σ h):=rfl
noncomputable def kT:List U×MH->Option (U×MH):=λp=>if p.1.length<=p' then Y (.af p.1,p.2) else O
@[simp] theorem VC:kT (us,h)=if us.length<=p' then Y (.af us,h) else none:=rfl
@[simp] theorem Uw:av r σ h=bd kT (r σ h):=rfl
noncomputable def kY:List U×MH->Option (U×MH):=λp=>if p.1.length<=p' then Y (.aa p.2.length,p.2++[.aa p.1]) else O
@[simp] theorem VH:kY (us,h)=if us.length<=p' then Y (.aa h.length,h++[.aa us]) else none:=rfl
@[simp] theorem Uq:bj r σ h=bd kY (r σ h):=rfl
noncomputable def kL (n:Nat)(f:MF):List U×MH->Option (U×MH):=λp=>if p.1.length=n then f p.1 p.2 else O
@[simp] theorem Vq:kL n f (us,h)=if us.length=n then f us h else none:=rfl
@[simp] theorem x_call:ah n f r σ h=bd (kL n f) (r σ h):=rfl
noncomputable def kF (f:MF):List U×MH->Option (U×MH):=λp=>f p.1 p.2
@[simp] theorem Vk:kF f (us,h)=f us h:=rfl
@[simp] theorem V6:eB f r σ h=bd (kF f) (r σ h):=rfl
noncomputable def kD (σ:bu):U×MH->Option (Fl×MH):=λp=>Y (.nx σ,p.2)
@[simp] theorem Vi:kD σ (u,h)=Y (.nx σ,h):=rfl
@[simp] theorem Sx:aO a σ h=bd (kD σ) (a σ h):=rfl
noncomputable def kR:U×MH->Option (Fl×MH):=λp=>Y (.rt p.1,p.2)
@[simp] theorem Vw:kR (u,h)=Y (.rt u,h):=rfl
@[simp] theorem Ut:ax a σ h=bd kR (a σ h):=rfl
noncomputable def kJ (b:MS):Fl×MH->Option (Fl×MH):=λp=>match p.1 with | .nx d=>b d p.2 | f=>Y (f,p.2)
@[simp] theorem Vo:kJ k (.nx σ,h)=k σ h:=rfl
@[simp] theorem Vn:kJ k (.rt u,h)=Y (.rt u,h):=rfl
@[simp] theorem Uu:af k l σ h=bd (kJ l) (k σ h):=rfl
noncomputable def Q5:bu×MH->Option (Fl×MH):=λq=>Y (.nx q.1,q.2)
def kA (g:MG)(σ:bu):U×MH->Option (Fl×MH):=λp=>bd Q5 (g p.1 σ p.2)
@[simp] theorem Tf:Q5 (σ,h)=Y (.nx σ,h):=rfl
@[simp] theorem Vf {g:MG}:kA g σ (u,h)=bd Q5 (g u σ h):=rfl
@[simp] theorem Um {g:MG}:au a g σ h=bd (kA g σ) (a σ h):=rfl
noncomputable def kZ (h:MH):Bool->Option (Bool×MH):=λb=>Y (b,h)
@[simp] theorem VI:kZ h c=Y (c,h):=rfl
def Tw:U×MH->Option (Bool×MH):=λp=>bd (kZ p.2) (eS p.1 p.2)
@[simp] theorem Tx:Tw (u,h)=bd (kZ h) (eS u h):=rfl
@[simp] theorem Uv:dS a σ h=bd Tw (a σ h):=rfl
def Q8 (u:U)(l:Option Int):Option Int×MH->Option (U×MH):=λk=>BX u l k.1 k.2
def Q7 (d:sN)(σ:bu)(u:U):Option Int×MH->Option (U×MH):=λl=>bd (Q8 u l.1) (d σ l.2)
def kK (d e:sN)(σ:bu):U×MH->Option (U×MH):=λp=>bd (Q7 e σ p.1) (d σ p.2)
@[simp] theorem Tn {i j:Option Int}:Q8 u i (j,h)=BX u i j h:=rfl
@[simp] theorem Tj {i:Option Int}{d:sN}:Q7 d σ u (i,h)=bd (Q8 u i) (d σ h):=rfl
@[simp] theorem Vp {d e:sN}:kK d e σ (u,h)=bd (Q7 e σ u) (d σ h):=rfl
@[simp] theorem Wc {d e:sN}:lS a d e σ h=bd (kK d e σ) (a σ h):=rfl
noncomputable def kH:U×MH->Option (Option Int×MH):=λp=>match p.1 with | .ab i=>Y (Y i,p.2) | _=>O
@[simp] theorem Vl {i:Int}:kH (.ab i,h)=Y (Y i,h):=rfl
@[simp] theorem Sy:b8 a σ h=bd kH (a σ h):=rfl
def Th (T:String):U×MH->Option (U×MH):=λp=>(qU p.2 p.1).bind λA=>Y (.bl (qe A T),p.2)
@[simp] theorem Ti {T:String}:Th T (u,h)=(qU h u).bind λA=>Y (.bl (qe A T),h):=rfl
@[simp] theorem Up {T:String}:qR T a σ h=bd (Th T) (a σ h):=rfl
end
@[simp] theorem VW {n:Nat}(h:n<=1000000):(n<=p')=True:=eq_true (Xi h (by rw[XJ];decide))
@[simp] theorem pQ {h:MH}{i:Int}:∀ n,aZ h n (.ab i)=Y (.int i)
 |0=>rfl
 |_+1=>rfl
@[simp] theorem mD {h:MH}{i:M}:∀ n,aZ h n (.ae i)=Y (.str i)
 |0=>rfl
 |_+1=>rfl
@[simp] theorem Px {h:MH}{i:Bool}:∀ n,aZ h n (.bl i)=Y (.bool i)
 |0=>rfl
 |_+1=>rfl
@[simp] theorem Nv {h:MH}:∀ n,aZ h n .aQ=Y .none
 |0=>rfl
 |_+1=>rfl
@[simp] theorem TM {neg:Bool}{a b:M}{h:MH}:bh neg (.ae a) (.ae b) h=Y (.bl (if neg then !(a == b) else a == b),h):=by
 simp[bh,F']
@[simp] theorem TL {neg:Bool}{a b:Int}{h:MH}:bh neg (.ab a) (.ab b) h=Y (.bl (if neg then !(a == b) else a == b),h):=by
 simp[bh,F']
@[simp] theorem RE {h:MH}{us:List U}:cU h (.af us)=false:=rfl
@[simp] theorem Ex {h:MH}{us:List U}:cU h (.ag us)=false:=rfl
@[simp] theorem RB {h:MH}{us:List U}:cU h (.ir us)=false:=rfl
@[simp] theorem RC {h:MH}{us:List U}:cU h (.dM us)=false:=rfl
@[simp] theorem TR {h:MH}{us:List U}{i:Int}:tU (.af us) (.ab i) h=(L2.iw us i).bind λu=>Y (u,h):=rfl
@[simp] theorem Ez {h:MH}{us:List U}{i:Int}:tU (.ag us) (.ab i) h=(L2.iw us i).bind λu=>Y (u,h):=rfl
@[simp] theorem TQ {h:MH}{us:List U}{i:Int}:tU (.ir us) (.ab i) h=(L2.iw us i).bind λu=>Y (u,h):=rfl
theorem cv {d:Type}{us:List d}{n:Nat}:L2.iw us (n:Int)=us[n]?:=by
 unfold L2.iw L2.BV;by_cases h:n<us.length
 .simp[h]
 .simp[h]
@[simp] theorem Iu {d:Type}{u:d}{us:List d}:L2.iw (u::us) 0=Y u:=by
 have:=cv (us:=u::us) (n:=0);simpa using this
@[simp] theorem Nm {d:Type}{u v:d}{us:List d}:L2.iw (u::v::us) 1=Y v:=by
 have:=cv (us:=u::v::us) (n:=1);simpa using this
@[simp] theorem SR {d:Type}{u v w:d}{us:List d}:L2.iw (u::v::w::us) 2=Y w:=by
 have:=cv (us:=u::v::w::us) (n:=2);simpa using this
@[simp] theorem SV {d:Type}{u v w x:d}{us:List d}:L2.iw (u::v::w::x::us) 3=Y x:=by
 have:=cv (us:=u::v::w::x::us) (n:=3);simpa using this
@[simp] theorem yd {a b:Int}{h:MH}:aI (.ab a) (.ab b) h=Y (.ab (a+b),h):=rfl
@[simp] theorem Lk {a b:List U}{h:MH}:aI (.af a) (.af b) h=if a.length+b.length<=p' then Y (.af (a++b),h) else none:=rfl
@[simp] theorem Rw {a b:List U}{h:MH}:aI (.ag a) (.ag b) h=if a.length+b.length<=p' then Y (.aa h.length,h++[.aa (a++b)]) else none:=rfl
theorem qu {a b:U}{us ws:List U}{h:MH}(d:dy h a=Y us)(hb:dy h b=Y ws)(hz:us.length+ws.length<=1000000)(e:∀ x,a≠.ab x)(ns:∀ x,a≠.ae x)(i:∀ x,a≠.af x):aI a b h=Y (.aa h.length,h++[.aa (us++ws)]):=by
 have Te:us.length+ws.length<=sizeLine:=Xi hz (by rw[XJ];decide);cases a with
 |ag x=>show((dy h (.ag x)).bind λp=>(dy h b).bind λq=>if p.length+q.length<=p' then Y (U.aa h.length,h++[MO.aa (p++q)]) else O)=_;rw[d,hb];simp[Te]
 |aa n=>show((dy h (.aa n)).bind λp=>(dy h b).bind λq=>if p.length+q.length<=p' then Y (U.aa h.length,h++[MO.aa (p++q)]) else O)=_;rw[d,hb];simp[Te]
 |ab x=>exact absurd rfl (e x)
 |ae x=>exact absurd rfl (ns x)
 |af x=>exact absurd rfl (i x)
 |aQ=>cases d
 |bl _=>cases d
 |dM _=>cases d
 |ir _=>cases d
@[simp] theorem PU {us:List U}{h:MH}:g8 [.af us] h=Y (.aa h.length,h++[.aa us]):=rfl
@[simp] theorem PR {us:List U}{h:MH}:g8 [.ag us] h=Y (.aa h.length,h++[.aa us]):=rfl
@[simp] theorem RS {us:List U}{h:MH}:fH [.af us] h=Y (.af us,h):=rfl
@[simp] theorem Lu {us:List U}{h:MH}:fH [.ag us] h=Y (.af us,h):=rfl
theorem nX {n:Nat}{us:List U}{h:MH}(e:h[n]?=Y (.aa us)):fH [.aa n] h=Y (.af us,h):=by
 show(if jd (.aa n)=L then(cK h (.aa n)).bind λd=>Y (U.af d,h) else O)=_;rw[W0 (show jd (U.aa n)=L from rfl)];show(match h[n]? with | some (.aa us)=>Y us | _=>O).bind _=_;rw[e];rfl
@[simp] theorem RH {us:List U}{h:MH}:fj [.af us] h=Y (.ab us.length,h):=rfl
@[simp] theorem RG {us:List U}{h:MH}:fj [.ag us] h=Y (.ab us.length,h):=rfl
@[simp] theorem Lo {us:List U}{h:MH}:fj [.dM us] h=Y (.ab us.length,h):=rfl
theorem zM {n d k:Nat}:HT.eT n d (Y (k:Int))=WT k n:=by
 unfold HT.eT;simp
 try lia
theorem u3 {us:List U}{k:Nat}:u0 us (Y (k:Int)) O=us.drop k:=by
 unfold u0;rw[zM];show(us.drop (WT k us.length)).take (us.length-WT k us.length)=_;by_cases h:k<=us.length
 .rw[aas h,X6 nofun]
 .rw[adj ⋯,abl (WY _),abl ⋯];simp
theorem uq {us:List U}{k:Nat}{h:MH}(d:0<k)(e:0<us.length):BX (.af us) (Y (k:Int)) O h=Y (.af (us.drop k),h):=by
 show(if HT.eT us.length 0 (Y (k:Int))=0/\_ then O else Y (U.af (u0 us (Y (k:Int)) O),h))=_;rw[zM,W5 (λz=>by lia),u3]
@[simp] theorem VY {u:U}{us:List U}{h:MH}:BX (.af (u::us)) (Y 1) O h=Y (.af us,h):=uq (k:=1) ∅ nofun
@[simp] theorem VZ {u v:U}{us:List U}{h:MH}:BX (.af (u::v::us)) (Y 2) O h=Y (.af us,h):=uq (k:=2) ∅ nofun
@[simp] theorem Q4 {us:List U}{i:Nat}{H:MH}:lX us i H=Y us[i]?:=rfl
theorem Ls {a:ME}{σ:bu}{h:MH}:cy a σ h=(a σ h).bind λp=>match p.1 with | .af us=>Y (lX us,p.2) | .ag us=>Y (lX us,p.2) | .dM us=>Y (lX us,p.2) | .ir us=>Y (lX us,p.2) | .aa n=>(match p.2[n]? with | some (.aa _)=>Y (qf n,p.2) | _=>O) | _=>none:=rfl
def kS:U×MH->Option (pF×MH):=λp=>match p.1 with | .af us=>Y (lX us,p.2) | .ag us=>Y (lX us,p.2) | .dM us=>Y (lX us,p.2) | .ir us=>Y (lX us,p.2) | .aa n=>(match p.2[n]? with | some (.aa _)=>Y (qf n,p.2) | _=>O) | _=>O
@[simp] theorem VB {us:List U}{h:MH}:kS (.af us,h)=Y (lX us,h):=rfl
@[simp] theorem Vy {us:List U}{h:MH}:kS (.ag us,h)=Y (lX us,h):=rfl
@[simp] theorem Vx {us:List U}{h:MH}:kS (.dM us,h)=Y (lX us,h):=rfl
@[simp] theorem Vz {us:List U}{h:MH}:kS (.ir us,h)=Y (lX us,h):=rfl
@[simp] theorem VA {n:Nat}{h:MH}:kS (.aa n,h)=match h[n]? with | some (.aa _)=>Y (qf n,h) | _=>none:=rfl
@[simp] theorem SD {a:ME}{σ:bu}{h:MH}:cy a σ h=bd kS (a σ h):=rfl
mutual
theorem ip.af {j k:Nat}(d:j<=k):∀ {u:U},ip j u->ip k u
 |_,.aQ=>.aQ
 |_,.bl=>.bl
 |_,.ae=>.ae
 |_,.aa=>.aa
 |_,.ab r=>.ab (cE.ab d r)
 |_,.ah r=>.ah (cE.ab d r)
 |_,.ag l=>.ag (Xr l d)
 |_,.dM r=>.dM (cE.ab d r)
 |_,.ir r=>.ir (cE.ab d r)
theorem cE.ab {j k:Nat}(d:j<=k):∀ {us:List U},cE j us->cE k us
 |_,.nil=>.nil
 |_,.aa a r=>.aa (ip.af d a) (cE.ab d r)
end
theorem bL {k:Nat}:∀ {us:List U},cE k us↔∀ u∈us,ip k u
 |[]=>⟨λ_ u h=>absurd h nofun,λ_=>.nil⟩
 |u::us=>⟨λh v hv=>by
   cases h with
   |aa a r=>
    rcases Xj.mp hv with rfl | hv
    .exact a
    .exact bL.mp r v hv,λh=>.aa (h u nofun) (bL.mpr λv hv=>h v (by simp[hv]))⟩
theorem dE {k:Nat}{ns:List M}:cE k (ns.map .ae):=bL.mpr λu d=>by
 obtain⟨x,_,rfl⟩:=Xp.mp d;exact .aa
theorem cE.ae {k:Nat}{us:List U}(h:cE k us)(n:Nat):cE k (us.drop n):=bL.mpr λu d=>bL.mp h u (List.mem_of_mem_drop d)
theorem eA {N:Nat}{m:MS}{us xs:List U}{h g:MH}{n:Nat}(e:cJ N m us h=Y (.aa n,h++g))(d:h.length<=n)(i:(h++g)[n]?=Y (.aa xs))(l:cE 0 xs):dw N m us h=Y (.ag xs,h):=
 iy e (.xT d i (l.ab (Xl _)).ji)
theorem o7 {N:Nat}{m:MS}{us:List U}{u:U}{h g:MH}(e:cJ N m us h=Y (u,h++g))(l:ip 0 u):dw N m us h=Y (u,h):=
 iy e (l.af (Xl _)).ji
theorem mH {N:Nat}{m:MS}{us:List U}{u:U}{h:MH}(e:cJ N m us h=Y (u,h))(l:ip 0 u):dw N m us h=Y (u,h):=o7 (g:=[]) (by rw[XF];exact e) l
theorem ub {a b:String}(h:i_ a=i_ b):a=b:=by
 rw[aeR,aeR]at h;injection h with h;have d:=congrArg abA h;dsimp only at d;exact String.toList_inj.mp ((acX (λx y e=>Char.ext (UInt32.toNat_inj.mp e))).mp d)
@[simp] theorem aeV {a b:String}:(i_ a=i_ b)=(a=b):=propext ⟨ub,λe=>by rw[e]⟩
@[simp] theorem ua {a b:String}:(i_ a == i_ b)=j' (a=b):=by
 by_cases h:a=b
 .subst h;simp
 .simp[h]
end S
namespace D11
open PySem L2 S RN
variable [kf:KF]
@[simp] theorem DE:cj.lookup ("say":M)=Y [1,0,0]:=by decide +kernel
@[simp] theorem A0:cj.lookup ("slip":M)=Y [1,0,0]:=by decide +kernel
@[simp] theorem AY:cj.lookup ("pass":M)=Y [0,0,0]:=by decide +kernel
@[simp] theorem xH:cj.lookup ("leave":M)=Y [0,0,0]:=by decide +kernel
@[simp] theorem A1:cj.lookup ("stop":M)=Y [0,0,0]:=by decide +kernel
@[simp] theorem GD:cj.lookup ("on":M)=Y [1,0,0]:=by decide +kernel
@[simp] theorem DC:cj.lookup ("off":M)=Y [1,0,0]:=by decide +kernel
@[simp] theorem AX:cj.lookup ("call":M)=Y [1,0,0]:=by decide +kernel
@[simp] theorem DD:cj.lookup ("row":M)=Y [0,0,4]:=by decide +kernel
@[simp] theorem AZ:cj.lookup ("pick":M)=Y [0,2,3]:=by decide +kernel
@[simp] theorem xF:cj.lookup ("again":M)=Y [0,1,1]:=by decide +kernel
@[simp] theorem A2:cj.lookup ("when":M)=Y [1,2,2]:=by decide +kernel
@[simp] theorem xG:cj.lookup ("clean":M)=Y [0,2,2]:=by decide +kernel
@[simp] theorem Kc:cj.lookup ("catch":M)=Y [0,2,4]:=by decide +kernel
mutual
theorem a6:∀ d:aA M,ip 0 (a_ d)
 |.aq w=>.ab (.aa .aa (.aa .aa .nil))
 |.aE k=>.ab (.aa .aa (.aa .aa .nil))
 |.aj=>.ab (.aa .aa .nil)
 |.ai=>.ab (.aa .aa .nil)
 |.ak=>.ab (.aa .aa .nil)
 |.on m=>.ab (.aa .aa (.aa .aa .nil))
 |.ao m=>.ab (.aa .aa (.aa .aa .nil))
 |.ae r=>.ab (.aa .aa (.aa .aa .nil))
 |.ah c=>.ab (.aa .aa (fA c))
 |.ag c=>.ab (.aa .aa (fA c))
 |.ab d=>.ab (.aa .aa (.aa (a6 d) .nil))
 |.fz m a b=>.ab (.aa .aa (.aa .aa (.aa (a6 a) (.aa (a6 b) .nil))))
 |.af a b=>.ab (.aa .aa (.aa (a6 a) (.aa (a6 b) .nil)))
 |.aa a e=>.ab (.aa .aa (.aa (a6 a) (rD e)))
theorem fA:∀ a:List (aA M),cE 0 (rC a)
 |[]=>.nil
 |d::r=>.aa (a6 d) (fA r)
theorem rD:∀ ts:List (M×aA M),cE 0 (fg ts)
 |[]=>.nil
 |(k,d)::r=>.aa (.ab (.aa .aa (.aa (a6 d) .nil))) (rD r)
end
theorem bK {s:M}{us:List U}{n:Nat}{m k:Int}{h:MH}(b:cj.lookup s=Y [(n:Int),m,k])(c:(s == ("catch":M))=b_)(d:cE 0 us):cf [.af (.ae s::us)] h=Y (.ag (us.drop n),h):=by
 have a:BX (.af (.ae s::us)) (Y (1+(n:Int))) O h=Y (.af (us.drop n),h):=by
  have:=uq (us:=.ae s::us) (k:=1+n) (h:=h) ⋯ nofun;rw[Yz 1 n,List.drop_succ_cons]at this;rw[<-this,Yz n 1];rfl
 refine eA (g:=[.aa (us.drop n)]) (n:=h.length) ?_ (WY _) nofun (d.ae n);simp[cJ,ib,c,b,a]
theorem dj {a:String}(h:a≠"catch"):((i_ a) == i_ "catch")=false:=by rw[ua];simp[h]
theorem vr {a:U}{ts:List (M×aA M)}{h:MH}(hz:ts.length<1000)(j:ip 0 a):cf [.af (.ae "catch"::a::fg ts)] h=Y (.ag (a::ts.map λx=>a_ x.2),h):=by
 have f:=YZ (fr:=[]) (mi:=cy (lS aG (b8 (aq 2)) bo)) (a:=ao aG (aq 1)) (σ:=[Y (.af (.ae "catch"::a::fg ts)),O]) (h:=h++[MO.aa [a]]) (h1:=h++[MO.aa [a]]) (it:=lX (fg ts)) (us:=fg ts)
  (λu=>match u with | .af [_,d]=>d | _=>.aQ) nofun (λi H=>rfl) (by rw[cH];simp;lia) (λu e l=>by
   rw[cH]at e;obtain⟨x,_,rfl⟩:=Xp.mp e;simp[gW])
 have k:(fg ts).map (λu=>match u with | .af [_,d]=>d | _=>U.aQ)=ts.map λx=>a_ x.2:=by
  rw[cH,X7];rfl
 rw[k]at f;have c:=qu (a:=.aa h.length) (b:=.aa (h++[MO.aa [a]]).length) (us:=[a]) (ws:=ts.map λx=>a_ x.2) (h:=h++[MO.aa [a]]++[MO.aa (ts.map λx=>a_ x.2)]) (by simp[dy]) (by simp[dy]) (by simp;try lia) (λ_ z=>nomatch z) (λ_ z=>nomatch z) (λ_ z=>nomatch z);refine eA (g:=[MO.aa [a]]++[MO.aa (ts.map λx=>a_ x.2)]++[MO.aa (a::ts.map λx=>a_ x.2)]) (n:=(h++[MO.aa [a]]++[MO.aa (ts.map λx=>a_ x.2)]).length) ?_ nofun nofun (.aa j (bL.mpr λu e=>?_))
 .simp at f c;simp[cJ,ib,f,c]
 .obtain⟨x,_,rfl⟩:=Xp.mp e;exact a6 _
theorem vt (d:aA M)(h:MH)(hz:(w_ d).length<1000):cf [a_ d] h=Y (.ag ((w_ d).map a_),h):=by
 cases d with
 |aq w=>exact bK (n:=1) DE (dj ∅) (.aa .aa .nil)
 |aE w=>exact bK (n:=1) A0 (dj ∅) (.aa .aa .nil)
 |aj=>exact bK (n:=0) AY (dj ∅) .nil
 |ai=>exact bK (n:=0) xH (dj ∅) .nil
 |ak=>exact bK (n:=0) A1 (dj ∅) .nil
 |on w=>exact bK (n:=1) GD (dj ∅) (.aa .aa .nil)
 |ao w=>exact bK (n:=1) DC (dj ∅) (.aa .aa .nil)
 |ae w=>exact bK (n:=1) AX (dj ∅) (.aa .aa .nil)
 |ah c=>rw[a_];refine(bK (n:=0) DD (dj ∅) (fA c)).trans ?_;rw[cx];rfl
 |ag c=>rw[a_];refine(bK (n:=0) AZ (dj ∅) (fA c)).trans ?_;rw[cx];rfl
 |ab d=>exact bK (n:=0) xF (dj ∅) (.aa (a6 d) .nil)
 |fz m a b=>exact bK (n:=1) A2 (dj ∅) (.aa .aa (.aa (a6 a) (.aa (a6 b) .nil)))
 |af a b=>exact bK (n:=0) xG (dj ∅) (.aa (a6 a) (.aa (a6 b) .nil))
 |aa a e=>
  rw[a_];refine(vr (by simpa [w_]using Nat.lt_of_succ_lt hz) (a6 a)).trans ?_;simp[w_]
end D11
namespace S
open PySem L2
variable [kf:KF]
theorem d7 {mi:MI}{g:MG}{b:MS}{σ:bu}{h h1:MH}{it:pF}{us:List U}(I:Nat->bu->MH->Prop)(afi:Fl->MH->Prop)(e:mi σ h=Y (it,h1))(c:∀ (i:Nat) (H:MH),it i H=Y us[i]?)(o:us.length<1000000)(k:I 0 σ h1)
  (turn:∀ i u σ H,us[i]?=Y u->I i σ H->∃ a h1 f h2,g u σ H=Y (a,h1)/\b a h1=Y (f,h2)/\Jj (I (i+1)) afi f h2)
  (d:∀ σ H,I us.length σ H->afi (.nx σ) H):∃ f h',eJ mi g b σ h=Y (f,h')/\afi f h':=
 pb us.length ⋯ I afi e k (λi σ H l q=>by
  have j:us[i]?=Y us[i]:=W6 l;obtain⟨a,h1,f,h2,m,n,z⟩:=turn i _ σ H j q;exact⟨us[i],a,h1,f,h2,by rw[c,j],m,n,z⟩) (λσ H q=>⟨by rw[c];simp,d σ H q⟩)
@[simp] theorem RP {a:MA}{σ:bu}{h:MH}:vF a σ h=(a σ h).bind λp=>match p.1 with | [.af us]=>Y (JZ us,p.2) | _=>none:=rfl
@[simp] theorem TK {a:MA}{σ:bu}{h:MH}:DJ a σ h=(a σ h).bind λp=>match p.1 with | [.af us]=>Y (Dr us,p.2) | _=>none:=rfl
theorem Ew {g:U->List U->MH->Option (U×MH)}{o:ME}{a:MA}{σ:bu}{h:MH}:fy g o a σ h=(o σ h).bind λp=>(b7 p.2 p.1).bind λ_=>(a σ p.2).bind λq=>g p.1 q.1 q.2:=rfl
noncomputable def Q9 (o:U)(g:U->List U->MH->Option (U×MH)):List U×MH->Option (U×MH):=λq=>g o q.1 q.2
def Ra (g:U->List U->MH->Option (U×MH))(r:MA)(σ:bu)(u:U)(h:MH):Nat×List U->Option (U×MH):=λ_=>bd (Q9 u g) (r σ h)
def kM (g:U->List U->MH->Option (U×MH))(r:MA)(σ:bu):U×MH->Option (U×MH):=λp=>bd (Ra g r σ p.1 p.2) (b7 p.2 p.1)
@[simp] theorem To {u:U}{us:List U}{h:MH}{g:U->List U->MH->Option (U×MH)}:Q9 u g (us,h)=g u us h:=rfl
@[simp] theorem Tp {u:U}{h:MH}{r:MA}{σ:bu}{x:Nat×List U}{g:U->List U->MH->Option (U×MH)}:Ra g r σ u h x=bd (Q9 u g) (r σ h):=rfl
@[simp] theorem Vr {u:U}{h:MH}{r:MA}{σ:bu}{g:U->List U->MH->Option (U×MH)}:kM g r σ (u,h)=bd (Ra g r σ u h) (b7 h u):=rfl
@[simp] theorem V5 {g:U->List U->MH->Option (U×MH)}{a:ME}{r:MA}{σ:bu}{h:MH}:fy g a r σ h=bd (kM g r σ) (a σ h):=rfl
theorem cg {n:Nat}{us:List U}{h:MH}(e:h[n]?=Y (.aa us)):b7 h (.aa n)=Y (n,us):=by unfold b7;dsimp only;rw[e]
theorem cX {n:Nat}{us:List U}{u:U}{h:MH}(e:h[n]?=Y (.aa us))(a:us.length<1000000):aL (.aa n) [u] h=Y (.aQ,h.set n (.aa (us++[u]))):=by
 show((b7 h (.aa n)).bind λp=>if p.2.length<p' then Y (U.aQ,h.set p.1 (.aa (p.2++[u]))) else O)=_;rw[cg e];exact W0 (Xr a (by rw[XJ];decide))
@[simp] theorem OP {h:MH}{a b:MO}:(h++[a]).set h.length b=h++[b]:=by simp
end S
namespace D11
open PySem L2 S RN
variable [kf:KF]
theorem D0 {ks:List (M×M)}{n:M}{h:MH}(hz:ks.length<1000):eK [cG ks,.ae n] h=Y (.ag ((WH ks n).map .ae),h):=by
 let it (k:M×M):U:=.af [.ae k.1,.ae k.2];obtain⟨f,z,e,j,l,w,rfl,rfl⟩:=d7 (mi:=vF BM) (g:=iC 2 (bt (b' 4) (bt (b' 5) iB))) (b:=az O8 (af (aO (fy aL cu fZ)) (au jn (b' 3))) ai)
  (σ:=[Y (cG ks),Y (.ae n),Y (.aa h.length),Y (.ae n),O,O]) (h:=h++[MO.aa []]) (h1:=h++[MO.aa []]) (it:=JZ (ks.map it)) (us:=(ks.map it).reverse)
  (λi σ H=>∃ a w j l,σ=[Y (cG ks),Y (.ae n),Y (.aa h.length),Y (.ae w),j,l]/\H=h++[MO.aa (a.map .ae)]/\a.length<=i/\a++jc (ks.reverse.drop i) w=WH ks n)
  (λf H=>∃ j l w,f=.nx [Y (cG ks),Y (.ae n),Y (.aa h.length),Y (.ae w),j,l]/\H=h++[MO.aa ((WH ks n).map .ae)])
  (by simp[cG,it]) (λi H=>rfl) (by simp;lia) ⟨[],n,O,O,rfl,rfl,WY _,rfl⟩
  (λi u σ H s q=>by
   obtain⟨a,w,j,l,rfl,rfl,x,d⟩:=q;rw[<-abu,Xd]at s;obtain⟨k,p,rfl⟩:=XD.mp s;have r:=(W2.mp p).1;rw[XZ r]at d;have Dg:ks.reverse[i]=k:=by rw[W6 r]at p;exact Xe p
   rw[Dg]at d;have t:i<ks.length:=by simpa using r
   obtain⟨m,o⟩:=k;unfold jc at d;refine⟨[Y (cG ks),Y (.ae n),Y (.aa h.length),Y (.ae w),Y (.ae m),Y (.ae o)],h++[MO.aa (a.map .ae)],?_⟩;by_cases c:m=w
   .rw[W0 c]at d;subst c;have v:=cX (n:=h.length) (us:=a.map U.ae) (u:=.ae m) (h:=h++[MO.aa (a.map U.ae)]) nofun (by simp;lia);refine⟨.nx [Y (cG ks),Y (.ae n),Y (.aa h.length),Y (.ae o),Y (.ae m),Y (.ae o)],h++[MO.aa ((a++[m]).map .ae)],by simp[it],?_,⟨a++[m],o,_,_,rfl,rfl,by simp;lia,by simpa using d⟩⟩;simp at v;simp[v,b7]
   .rw[W5 c]at d;refine⟨.nx [Y (cG ks),Y (.ae n),Y (.aa h.length),Y (.ae w),Y (.ae m),Y (.ae o)],h++[MO.aa (a.map .ae)],by simp[it],?_,⟨a,w,_,_,rfl,rfl,by lia,d⟩⟩;simp[c])
  (λσ H q=>by
   obtain⟨a,w,j,l,rfl,rfl,x,d⟩:=q;have y:ks.reverse.drop (ks.map it).reverse.length=[]:=by simp
   rw[y]at d;have QZ:a=WH ks n:=by simpa [jc]using d
   exact⟨j,l,w,rfl,by rw[QZ]⟩)
 refine eA (g:=[MO.aa ((WH ks n).map .ae)]) (n:=h.length) ?_ (WY _) nofun dE;simp[cJ,pL,e]
end D11
namespace S
open PySem L2
variable [kf:KF]
theorem Hh {a:Type}[DecidableEq a]{kvs:List (a×U)}{k:a}{v:U}(h:k∉kvs.map (·.1)):c7 kvs k v=kvs++[(k,v)]:=by
 unfold c7;rw[W5];intro z;obtain⟨x,b,e⟩:=acP.mp z;exact h (Xp.mpr ⟨x,b,of_decide_eq_true e⟩)
theorem oM:∀ {a kvs:List (j_×U)},((kvs++a).map (·.1)).Nodup->et kvs a=kvs++a
 |[],kvs,_=>by simp[et]
 |(k,v)::r,kvs,h=>by
  show et (c7 kvs k v) r=_;have b:k∉kvs.map (·.1):=λz=>by
   rw[XS,aao]at h;exact h.2.2 k z k nofun rfl
  rw[Hh b,oM (by simpa using h)];simp
theorem zX {a:Type}{n:M}{f:M×a->U}:∀ {l:List (M×a)},bx (l.map λr=>((p_ r.1:j_),f r)) (p_ n)=(l.find? λr=>j' (r.1=n)).map f
 |[]=>rfl
 |(k,d)::r=>by
  have b:=zX (n:=n) (f:=f) (l:=r);unfold bx at b ⊢;rw[Xq,XR,XR];by_cases c:k=n
  .subst c;simp
  .have e:¬ (p_ k:j_)=p_ n:=λz=>c (ZE z)
   simp only[c,e,decide_false];exact b
theorem oq {a:Type}{n:M}:∀ {l:List (M×a)},(l.find? λr=>j' (r.1=n)).map (·.2)=l.lookup n
 |[]=>rfl
 |(k,d)::r=>by
  rw[XR,Xf];by_cases c:k=n
  .subst c;simp
  .have b:(n == k)=false:=beq_false_of_ne (λz=>c z.symm);simp only[c,decide_false,b];exact oq
theorem rZ {a:Type}{f:a->U}:∀ {l:List (M×a)},jV (l.map λr=>.af [.ae r.1,f r.2])=Y (l.map λr=>((p_ r.1:j_),f r.2))
 |[]=>rfl
 |(k,d)::r=>by
  show(lR (.ae k)).bind _=_;show(jV (r.map λr=>U.af [U.ae r.1,f r.2])).bind _=_;rw[rZ];rfl
@[simp] theorem NS {h:MH}{kvs:List (j_×U)}:cU (h++[.dK kvs]) (.aa h.length)=true:=by simp[cU]
theorem rx {h:MH}{kvs:List (j_×U)}{n:M}:bS (h++[.dK kvs]) (.aa h.length) (.ae n)=Y (bx kvs (p_ n)):=by simp[bS,lR]
end S
namespace D11
open PySem L2 S RN
variable [kf:KF]
inductive Sm:aA M->Prop
 |mk {d:aA M}:(w_ d).length<1000->(∀ e∈w_ d,Sm e)->Sm d
theorem Sm.aa {d:aA M}(h:Sm d):(w_ d).length<1000:=by cases h with | mk a b=>exact a
theorem Sm.ab {d e:aA M}(h:Sm d)(m:e∈w_ d):Sm e:=by cases h with | mk a b=>exact b e m
inductive yD:Nat->aA M->Prop
 |mk {n:Nat} {d:aA M}:(∀ e∈w_ d,yD n e)->yD (n+1) d
structure qY (H:aK M):Prop where
 aa:H.ae.length<1000
 ab:H.ab.length<1000
 ae:H.aa.length<1000
 nd:(H.aa.map (·.1)).Nodup
 sm:∀ r∈H.aa,Sm r.2
 af:∀ r∈H.aa,yD 900 r.2
theorem YI {a:Type}{n:M}{d:a}:∀ {l:List (M×a)},l.lookup n=Y d->(n,d)∈l
 |[],e=>by cases e
 |(k,x)::r,e=>by
  rw[Xf]at e;by_cases c:n=k
  .subst c;simp at e;subst e;simp
  .rw[beq_false_of_ne c]at e;exact Xt _ (YI e)
theorem zJ {H:aK M}{n:M}{d:aA M}{h:MH}(a:qY H)(e:H.aa.lookup n=Y d) :
  kg [.af (H.aa.map λr=>.af [.ae r.1,a_ r.2])] h=Y (.aa h.length,h++[.dK (H.aa.map λr=>((p_ r.1:j_),a_ r.2))])/\bx (H.aa.map λr=>((p_ r.1:j_),a_ r.2)) (p_ n)=Y (a_ d):=by
 constructor
 .show(jV (H.aa.map λr=>U.af [U.ae r.1,a_ r.2])).bind _=_;rw[rZ];show Y (U.aa h.length,h++[MO.dK (et [] _)])=_;rw[oM]
  .rfl
  .have:=a.nd;rw[ZJ,X7];have b:((λx:j_×U=>x.1)∘λr:M×aA M=>((p_ r.1:j_),a_ r.2))=(λx:M=>(p_ x:j_))∘λr:M×aA M=>r.1:=rfl
   rw[b,<-X7];rw[acL,List.pairwise_map];exact aeX (λh z=>h (ZE z)) this
 .rw[zX (f:=λr=>a_ r.2)];have:=oq (n:=n) (l:=H.aa);rw[e]at this;obtain⟨x,c,g⟩:=XD.mp this;rw[c];show Y (a_ x.2)=_;rw[g]
theorem xb {H:aK M}{p:h_ M}{d:aA M}{h:MH}(v:qY H)(F:p.2.length<1000)(e:bc H p=Y d):nQ cf [aJ H,aj p] h=Y (a_ d,h):=by
 unfold bc at e;cases k:H.aa.lookup p.1 with
 |none=>rw[k]at e;cases e
 |some d0=>
  rw[k]at e;dsimp only at e;obtain⟨A,B⟩:=zJ (h:=h) v k;have C:Sm d0:=v.sm _ (YI k);let c:MH:=h++[MO.dK (H.aa.map λr=>((p_ r.1:j_),a_ r.2))];obtain⟨f,G,D,j,rfl,rfl⟩:=d7 (mi:=cy (lS aR (b8 (aq 1)) bo)) (g:=b' 3) (b:=au (ao (ah 1 cf dQ) bC) (b' 2))
   (σ:=[Y (aJ H),Y (aj p),Y (a_ d0),O]) (h:=c) (h1:=c) (it:=lX (p.2.map λn:Nat=>U.ab (n:Int))) (us:=p.2.map λn:Nat=>U.ab (n:Int))
   (λi σ K=>K=c/\∃ x j,σ=[Y (aJ H),Y (aj p),Y (a_ x),j]/\Sm x/\N_ x (p.2.drop i)=Y d)
   (λf K=>∃ j,f=.nx [Y (aJ H),Y (aj p),Y (a_ d),j]/\K=c)
   (by simp[aj]) (λi K=>rfl) (by simp;lia) ⟨rfl,d0,O,rfl,C,e⟩
   (λi u σ K w q=>by
    obtain⟨rfl,x,j,rfl,o,a⟩:=q;rw[Xd]at w;obtain⟨n,s,rfl⟩:=XD.mp w;have z:=(W2.mp s).1;rw[XZ z]at a;have MM:p.2[i]=n:=by rw[W6 z]at s;exact Xe s
    rw[MM]at a;unfold N_ at a;cases l:(w_ x)[n]? with
    |none=>rw[l]at a;cases a
    |some y=>
     rw[l]at a;refine⟨[Y (aJ H),Y (aj p),Y (a_ x),Y (.ab (n:Int))],c,.nx [Y (aJ H),Y (aj p),Y (a_ y),Y (.ab (n:Int))],c,rfl,?_,⟨rfl,y,_,rfl,o.ab (Xk l),a⟩⟩;have t:=vt x c o.aa;have E:L2.iw ((w_ x).map a_) (n:Int)=Y (a_ y):=by rw[S.cv,Xd,l];rfl
     simp[t,E])
   (λσ K q=>by
    obtain⟨rfl,x,j,rfl,o,a⟩:=q;have m:p.2.drop (p.2.map λn:Nat=>U.ab (n:Int)).length=[]:=by simp
    rw[m]at a;have:x=d:=Xe a;subst this;exact⟨j,rfl,rfl⟩)
  refine o7 (g:=[MO.dK (H.aa.map λr=>((p_ r.1:j_),a_ r.2))]) ?_ (a6 d);have m:bS c (.aa h.length) (.ae p.1)=Y (Y (a_ d0)):=by rw[rx,B]
  have a:(ao (eB kg (aa (ao aG (aq 2)) ae)) (ao aR (aq 0))) [Y (aJ H),Y (aj p),O,O] h=Y (a_ d0,c):=by
   simp[aJ,aj,A,c]at m ⊢;simp[m]
  refine bD ?_;show nB cf [Y (aJ H),Y (aj p),O,O] h=_;unfold nB;rw[ab (aC a)];show af (eJ _ _ _) _ [Y (aJ H),Y (aj p),Y (a_ d0),O] c=_;rw[ab D];rfl
end D11
namespace S
open PySem L2
variable [kf:KF]
theorem nR {h:MH}{n:Nat}:∀ {os:List M},eR (aZ h n) (os.map .ae)=Y (os.map aci)
 |[]=>rfl
 |x::r=>by
  show(aZ h n (.ae x)).bind _=_;rw[mD];show(eR (aZ h n) (r.map U.ae)).bind _=_;rw[nR];rfl
theorem uJ {k:M}:∀ {os:List M},((os.map aci).any λe=>F' e (.str k))=j' (k∈os)
 |[]=>rfl
 |x::r=>by
  rw[Xq,Yy,uJ,F'];by_cases c:x=k
  .subst c;simp
  .have:¬ k=x:=λz=>c z.symm
   simp[c,this]
theorem zc {neg:Bool}{k:M}{u:U}{os:List M}{h:MH}(a:jd u=L)(e:cK h u=Y (os.map .ae)):Dn neg (.ae k) u h=Y (.bl (if neg then !j' (k∈os) else j' (k∈os)),h):=by
 unfold Dn;rw[mD];show(if jd u=L then _ else O)=_;rw[W0 a,e];show((eR (aZ h Dp) (os.map U.ae)).bind _)=_;rw[nR];show Y _=_;rw[uJ]
@[simp] theorem Q3 {neg:Bool}{k:M}{os:List M}{h:MH}:Dn neg (.ae k) (.ag (os.map .ae)) h=Y (.bl (if neg then !j' (k∈os) else j' (k∈os)),h):=zc rfl rfl
@[simp] theorem Dq {neg:Bool}{k:M}{os:List M}{h:MH}:Dn neg (.ae k) (.af (os.map .ae)) h=Y (.bl (if neg then !j' (k∈os) else j' (k∈os)),h):=zc rfl rfl
noncomputable def iA:U->Bool
 |.aQ=>L
 |_=>b_
@[simp] theorem MR:iA .aQ=true:=rfl
@[simp] theorem MQ {i:Int}:iA (.ab i)=false:=rfl
@[simp] theorem MU {i:M}:iA (.ae i)=false:=rfl
@[simp] theorem MV {i:List U}:iA (.af i)=false:=rfl
@[simp] theorem TN {a:U}{h:MH}:d8 b_ a .aQ h=Y (.bl (iA a),h):=by cases a<;>rfl
@[simp] theorem RF {a:U}{h:MH}:d8 L a .aQ h=Y (.bl (!iA a),h):=by cases a<;>rfl
theorem Gk {us:List U}{i:Nat}{H:MH}:Dr us i H=Y (us.zipIdx.map λx=>U.af [.ab (x.2:Nat),x.1])[i]?:=by
 unfold Dr;rw[Xd,ac7];cases us[i]?<;>simp
end S
namespace D11
open PySem L2 S RN
variable [kf:KF]
abbrev yW:MF:=nQ cf
abbrev kr:MF:=rT yW
abbrev yv:MF:=lB eK kr
theorem Gx {H:aK M}{p:h_ M}{k:M}{h:MH}(a:qY H)(b:p.2.length<1000)(e:Y0 H p=Y k):kr [aJ H,aj p] h=Y (.ae k,h):=by
 have e':bc H p=Y (.aE k):=by
  unfold Y0 at e;split at e
  .rename_i f c;rcases e;exact c
  .cases e
 have d:=xb (h:=h) a b e';refine mH ?_ .aa;simp[cJ,q5,yW,d,a_]
theorem jZ {os:List M}{i:Nat}{k:M}{d:aA M}{r:List (M×aA M)}:bB os i ((k,d)::r)=if k∈os then Y i else bB os (i+1) r:=rfl
noncomputable def oQ:Option Nat->U
 |none=>.aQ
 |some n=>.ab (n:Int)
theorem Fv {H:aK M}{a:aA M}{ts:List (M×aA M)}{p:h_ M}{h:MH}(C:qY H)(F:p.2.length<1000)(Q:ts.length<1000)(t:∃ k,Y0 H p=Y k) :
  yv [aJ H,a_ (.aa a ts),aj p] h=Y (oQ (aT H ts p),h):=by
 obtain⟨k,t⟩:=t;have w:aT H ts p=bB (WH H.ae k) 0 ts:=by unfold aT;rw[t]
 rw[w];generalize y:WH H.ae k=d;have h1:=Gx (h:=h) C F t;have D:=D0 (ks:=H.ae) (n:=k) (h:=h) C.aa;rw[y]at D;obtain⟨f,S,z,G,I⟩:=d7 (mi:=DJ (aa (lS aR (b8 (aq 2)) bo) ae)) (g:=iC 2 (bt (b' 4) (bt (b' 5) iB))) (b:=az (mB (gu b_ (ao jn (aq 0)) bC)) (ax c4) ai)
  (σ:=[Y (aJ H),Y (a_ (.aa a ts)),Y (aj p),Y (.ag (d.map .ae)),O,O]) (h:=h) (h1:=h) (it:=Dr (fg ts)) (us:=(fg ts).zipIdx.map λx=>U.af [.ab (x.2:Nat),x.1])
  (λi σ K=>K=h/\∃ j l,σ=[Y (aJ H),Y (a_ (.aa a ts)),Y (aj p),Y (.ag (d.map .ae)),j,l]/\bB d i (ts.drop i)=bB d 0 ts)
  (λf K=>K=h/\((∃ n,f=.rt (.ab (n:Nat))/\bB d 0 ts=Y n)\/(∃ j l,f=.nx [Y (aJ H),Y (a_ (.aa a ts)),Y (aj p),Y (.ag (d.map .ae)),j,l]/\bB d 0 ts=O)))
  (by simp[a_]) (λi K=>Gk) (by simp[cH];lia) ⟨rfl,O,O,rfl,rfl⟩
  (λi u σ K m q=>by
   obtain⟨rfl,j,l,rfl,e⟩:=q;rw[Xd,ac7,cH,Xd]at m;cases o:ts[i]? with
   |none=>rw[o]at m;cases m
   |some x=>
    rw[o]at m;obtain⟨r,v⟩:=x;have NQ:u=.af [.ab (i:Nat),gW (r,v)]:=by simpa using m.symm
    subst NQ;have E:=(W2.mp o).1;rw[XZ E]at e;have hx':ts[i]=(r,v):=by rw[W6 E]at o;exact Xe o
    rw[hx']at e;rw[jZ]at e;refine⟨[Y (aJ H),Y (a_ (.aa a ts)),Y (aj p),Y (.ag (d.map .ae)),Y (.ab (i:Nat)),Y (gW (r,v))],K,?_⟩;by_cases c:r∈d
    .rw[W0 c]at e;refine⟨.rt (.ab (i:Nat)),K,by simp,?_,⟨rfl,.inl ⟨i,rfl,?_⟩⟩⟩
     .simp[gW,c]
     .exact e.symm
    .rw[W5 c]at e;refine⟨.nx [Y (aJ H),Y (a_ (.aa a ts)),Y (aj p),Y (.ag (d.map .ae)),Y (.ab (i:Nat)),Y (gW (r,v))],K,by simp,?_,⟨rfl,_,_,rfl,e⟩⟩;simp[gW,c])
  (λσ K q=>by
   obtain⟨rfl,j,l,rfl,e⟩:=q;refine⟨rfl,.inr ⟨j,l,rfl,?_⟩⟩;have N:ts.drop ((fg ts).zipIdx.map λx=>U.af [.ab (x.2:Nat),x.1]).length=[]:=by simp[cH]
   rw[N]at e;rw[<-e];rfl)
 rw[G]at z;have s:au (ah 2 eK (aa (ao aG (aq 0)) (aa (ah 2 kr FK) ae))) (b' 3) [Y (aJ H),Y (a_ (.aa a ts)),Y (aj p),O,O,O] h=Y (.nx [Y (aJ H),Y (a_ (.aa a ts)),Y (aj p),Y (.ag (d.map .ae)),O,O],h):=by
  have P:ao aG (aq 0) [Y (aJ H),Y (a_ (.aa a ts)),Y (aj p),O,O,O] h=Y (cG H.ae,h):=by simp[aJ]
  simp only[Oy,jW,bI,P,eP,WZ];simp[h1,D]
 have A:cJ 6 (dD eK kr) [aJ H,a_ (.aa a ts),aj p] h=Y (oQ (bB d 0 ts),h):=by
  rcases I with⟨n,rfl,B⟩ | ⟨j,l,rfl,B⟩
  .refine bD ?_;show dD eK kr [Y (aJ H),Y (a_ (.aa a ts)),Y (aj p),O,O,O] h=_;unfold dD;rw[ab s,cM z,B];rfl
  .refine bD ?_;show dD eK kr [Y (aJ H),Y (a_ (.aa a ts)),Y (aj p),O,O,O] h=_;unfold dD;rw[ab s,ab z,B];rfl
 refine mH A ?_;cases bB d 0 ts with
 |none=>exact .aQ
 |some n=>exact .ae
end D11
namespace S
open PySem L2
variable [kf:KF]
theorem p8 {h:MH}{n:Nat}{C:J}{fs:List (M×U)}(e:h[n]?=Y (.ab C fs)):oS h (.aa n)=Y (n,C,fs):=by unfold oS;dsimp only;rw[e]
open Classical in
theorem CZ {cl:CL}{f:M}{h:MH}{n:Nat}{C:J}{fs:List (M×U)}{x:U}(e:h[n]?=Y (.ab C fs))(a:cl C f)(b:fs.lookup f=Y x):aM cl f (.aa n) h=Y (x,h):=by
 unfold aM;rw[p8 e];show(if cl C f then _ else O)=_;rw[W0 a,b];rfl
open Classical in
theorem qx {cl:CL}{f:M}{h:MH}{n:Nat}{C:J}{fs:List (M×U)}{x:U}(e:h[n]?=Y (.ab C fs))(a:cl C f)(b:fs.length<1000):jg cl f (.aa n) x h=Y (h.set n (.ab C (dJ f x fs))):=by
 unfold jg;rw[p8 e];show(if cl C f/\fs.length<1000 then _ else O)=_;rw[W0 ⟨a,b⟩]
section
variable {σ:bu}{h:MH}
@[simp] theorem EC {cl:CL}{f:M}{o v:ME}:bM cl f o v σ h=(v σ h).bind λp=>(o σ p.2).bind λq=>(jg cl f q.1 p.1 q.2).bind λh'=>Y (.nx σ,h'):=rfl
open Classical in
theorem wI {cl:CL}{f:M}{g:Int->Int->Int}{o v:ME}{n:Nat}{C:J}{fs:List (M×U)}{i j:Int}(a:o σ h=Y (.aa n,h))(b:v σ h=Y (.ab j,h))(e:h[n]?=Y (.ab C fs))(c:cl C f)(d:fs.length<1000)(k:fs.lookup f=Y (.ab i)) :
  i7 cl f g o v σ h=Y (.nx σ,h.set n (.ab C (dJ f (.ab (g i j)) fs))):=by
 unfold i7;rw[a];show((oS h (.aa n)).bind _)=_;rw[p8 e];show(if cl C f then _ else O)=_;rw[W0 c,k];show(v σ h).bind _=_;rw[b];show((oS h (.aa n)).bind _)=_;rw[p8 e];exact W0 ⟨rfl,d⟩
theorem GK {C:J}{m:M}{k:Nat}{f:MF}{o:ME}{a:MA}{n:Nat}{fs:List (M×U)}{us:List U}{h':MH}(b:o σ h=Y (.aa n,h))(e:h[n]?=Y (.ab C fs))(c:fs.lookup m=O)(d:a σ h=Y (us,h'))(g:us.length+1=k):bX C m k f o a σ h=f (.aa n::us) h':=by
 unfold bX;rw[b];show((oS h (.aa n)).bind _)=_;rw[p8 e];show(if C=C/\fs.lookup m=O then _ else O)=_;rw[W0 ⟨rfl,c⟩,d];exact W0 g
end
end S
namespace D11
open PySem L2 S RN
variable [kf:KF]
def aH:RN.n_ M->U
 |.aa=>.ae "done"
 |.ab=>.ae "leave"
 |.ae=>.ae "stop"
 |.aE p=>aj p
def aN:Option (RN.n_ M)->U
 |none=>.aQ
 |some e=>aH e
def aV:Option (RN.h_ M)->U
 |none=>.aQ
 |some p=>aj p
def bw:RN.WI M->U
 |.ab=>.af [.ae "done"]
 |.aE p=>.af [.ae "slip",aj p]
 |.cC=>.af [.ae "waits"]
 |.aa=>.af [.ae "long"]
def cF:Option (RN.WI M)->U
 |none=>.aQ
 |some f=>bw f
def bO:RN.Ev M->U
 |.ag p w=>.af [.ae "say",aj p,.ae w]
 |.aE p=>.af [.ae "slip",aj p]
 |.af p s=>.af [.ae "pass",aj p,aV s]
 |.take p n s=>.af [.ae "take",aj p,.ab (n:Nat),aj s]
 |.by p s=>.af [.ae "by",aj p,aj s]
 |.aa p s=>.af [.ae "kept",aj p,aj s]
 |.nO p s=>.af [.ae "lost",aj p,aj s]
 |.ae p s=>.af [.ae "out",aj p,aj s]
 |.ab s=>.af [.ae "end",aj s]
theorem bP (p:RN.h_ M):ip 0 (aj p):=.ab (.aa .aa (bL.mpr λu a=>by obtain⟨n,_,rfl⟩:=Xp.mp a;exact .ae))
theorem CT (p:Option (RN.h_ M)):ip 0 (aV p):=by cases p with | none=>exact .aQ | some p=>exact bP p
theorem Aw (e:RN.Ev M):ip 0 (bO e):=by
 cases e with
 |ag p w=>exact .ab (.aa .aa (.aa (bP p) (.aa .aa .nil)))
 |aE p=>exact .ab (.aa .aa (.aa (bP p) .nil))
 |af p s=>exact .ab (.aa .aa (.aa (bP p) (.aa (CT s) .nil)))
 |take p n s=>exact .ab (.aa .aa (.aa (bP p) (.aa .ae (.aa (bP s) .nil))))
 |«by» p s=>exact .ab (.aa .aa (.aa (bP p) (.aa (bP s) .nil)))
 |aa p s=>exact .ab (.aa .aa (.aa (bP p) (.aa (bP s) .nil)))
 |nO p s=>exact .ab (.aa .aa (.aa (bP p) (.aa (bP s) .nil)))
 |ae p s=>exact .ab (.aa .aa (.aa (bP p) (.aa (bP s) .nil)))
 |ab s=>exact .ab (.aa .aa (.aa (bP s) .nil))
theorem DO {H:aK M}{ms:List M}{m:M}{h:MH}(o:H.ab.length<1000):bQ [aJ H,a_ (.on m),.af (ms.map .ae)] h=Y (.af ((lF H ms m).map .ae),h):=by
 have b:=oi (fr:=[Y 1,Y 2]) (mi:=cy (ao aG (aq 1))) (c:=qS (mB (gu b_ aG cu)) (mB (aw (bh b_) aG (ao aR (aq 1))))) (a:=aG)
  (σ:=[Y (aJ H),Y (a_ (.on m)),Y (.af (ms.map .ae))]) (h:=h) (h1:=h) (it:=lX (H.ab.map .ae)) (us:=H.ab.map .ae)
  (λu=>match u with | .ae x=>j' (x∈ms) || decide (x=m) | _=>b_) id (by simp[aJ]) (λi K=>rfl) (by simp;lia)
  (λu e l=>by
   obtain⟨x,_,rfl⟩:=Xp.mp e;by_cases c:x∈ms
   .simp[fW,c]
   .by_cases d:x=m<;>simp[fW,c,a_,d])
  (λu e _ l=>rfl)
 have f:((H.ab.map U.ae).filter λu=>match u with | .ae x=>j' (x∈ms) || decide (x=m) | _=>b_).map id=(lF H ms m).map .ae:=by
  rw[acW,acT];rfl
 rw[f]at b;refine o7 (g:=[MO.aa ((lF H ms m).map .ae)]) ?_ (.ab dE);have j:=nX (n:=h.length) (us:=(lF H ms m).map U.ae) (h:=h++[MO.aa ((lF H ms m).map .ae)]) nofun;have k:mB (aw (bh b_) (ao aR (aq 0)) (ag "on")) [Y (aJ H),Y (a_ (.on m)),Y (.af (ms.map .ae))] h=Y (L,h):=by simp[a_]
 refine bD ?_;show dh [Y (aJ H),Y (a_ (.on m)),Y (.af (ms.map .ae))] h=_;unfold dh;refine cM ?_;rw[aF k,W0 rfl];refine a7 ?_;simp only[qT,bI,b,eP,WZ,j]
theorem A4 {H:aK M}{ms:List M}{m:M}{h:MH}(o:ms.length<1000):bQ [aJ H,a_ (.ao m),.af (ms.map .ae)] h=Y (.af ((ik ms m).map .ae),h):=by
 have b:=oi (fr:=[Y 1]) (mi:=cy cu) (c:=mB (aw (bh L) aG (ao aR (aq 1)))) (a:=aG)
  (σ:=[Y (aJ H),Y (a_ (.ao m)),Y (.af (ms.map .ae))]) (h:=h) (h1:=h) (it:=lX (ms.map .ae)) (us:=ms.map .ae)
  (λu=>match u with | .ae x=>!j' (x=m) | _=>b_) id nofun (λi K=>rfl) (by simp;lia)
  (λu d l=>by
   obtain⟨x,_,rfl⟩:=Xp.mp d;by_cases c:x=m<;>simp[fW,a_,c])
  (λu d _ l=>rfl)
 have e:((ms.map U.ae).filter λu=>match u with | .ae x=>!j' (x=m) | _=>b_).map id=(ik ms m).map .ae:=by
  rw[acW,acT];rfl
 rw[e]at b;refine o7 (g:=[MO.aa ((ik ms m).map .ae)]) ?_ (.ab dE);have f:=nX (n:=h.length) (us:=(ik ms m).map U.ae) (h:=h++[MO.aa ((ik ms m).map .ae)]) nofun;have j:mB (aw (bh b_) (ao aR (aq 0)) (ag "on")) [Y (aJ H),Y (a_ (.ao m)),Y (.af (ms.map .ae))] h=Y (b_,h):=by simp[a_]
 have k:mB (aw (bh b_) (ao aR (aq 0)) (ag "off")) [Y (aJ H),Y (a_ (.ao m)),Y (.af (ms.map .ae))] h=Y (L,h):=by simp[a_]
 refine bD ?_;show dh [Y (aJ H),Y (a_ (.ao m)),Y (.af (ms.map .ae))] h=_;unfold dh;rw[ab (σ':=[Y (aJ H),Y (a_ (.ao m)),Y (.af (ms.map .ae))]) (h':=h) (by rw[aF j,W5 Xb];rfl)];refine cM ?_;rw[aF k,W0 rfl];refine a7 ?_;simp only[qT,bI,b,eP,WZ,f]
theorem gK {s:String}{us ms:List U}{a:U}{h:MH}(h1:s≠"on")(h2:s≠"off")(b:cE 0 ms):bQ [a,.af (.ae s::us),.af ms] h=Y (.af ms,h):=by
 refine mH ?_ (.ab b);simp[cJ,dh,h1,h2]
theorem vW {p:RN.h_ M}{k:M}{s:U}{h:MH}:bg [aj p,a_ (.aE k),s] h=Y (aj p,h):=by
 simp[bg,cJ,d5,a_]
theorem vV {p s:U}{h:MH}:bg [p,a_ .aj,s] h=Y (s,h):=by
 simp[bg,cJ,d5,a_]
theorem nK {a b c:String}{h:MH}:Dn b_ (.ae c) (.af [.ae a,.ae b]) h=Y (.bl (j' (c=a\/c=b)),h):=by
 have:=Dq (neg:=b_) (k:=i_ c) (os:=[i_ a,i_ b]) (h:=h);simp at this;simpa using this
theorem uo {p s:U}{h:MH}:bg [p,a_ .ai,s] h=Y (.ae "leave",h):=by
 simp[bg,cJ,d5,a_,nK]
theorem vX {p s:U}{h:MH}:bg [p,a_ .ak,s] h=Y (.ae "stop",h):=by
 simp[bg,cJ,d5,a_,nK]
theorem jY {a:String}{us:List U}{p s:U}{h:MH}(h1:a≠"slip")(h2:a≠"pass")(b:a≠"leave")(c:a≠"stop"):bg [p,.af (.ae a::us),s] h=Y (.ae "done",h):=by
 simp[bg,cJ,d5,nK,h1,h2,b,c]
end D11
namespace RN
variable {S:Type}[DecidableEq S]{H:aK S}{cs:List Int}{most:Nat}
def FX (n:Nat)(a b:St S):Prop:=b.ah.length<=a.ah.length+n/\(b.aa.length<=a.aa.length+1)
theorem bz {a:St S}{n:Nat}:FX n a a:=⟨ZN _ _,Yo _⟩
theorem gJ {st:St S}{e:Ev S}:FX 1 st (M_ st e):=⟨by simp[M_],Yo _⟩
theorem AV {st:St S}{p:h_ S}{d:aA S}{h:Option (h_ S)}{n:Nat}:FX n st (J_ most st p d h):=by
 unfold J_;split
 .exact bz
 .exact⟨ZN _ _,by simp⟩
theorem eI {st:St S}{f:q_ S}{rest:List (q_ S)}{n k:Nat}{h:Option (h_ S)}(l:rest.length<st.aa.length):FX k st (ay most st f rest n h):=by
 unfold ay;split
 .unfold J_;split
  .exact⟨ZN _ _,by simp;lia⟩
  .exact⟨ZN _ _,by simp;lia⟩
 .exact bz
theorem oH {st:St S}{f:q_ S}{rest:List (q_ S)}{n k u:Nat}{h:Option (h_ S)}(l:rest.length<st.aa.length):FX k st (ay most {st with ab:=u} f rest n h):=by
 have:=eI (most:=most) (st:={st with ab:=u}) (f:=f) (n:=n) (k:=k) (h:=h) l;exact this
theorem vB {st:St S}{f:q_ S}{rest:List (q_ S)}{n:Nat}{h:Option (h_ S)}{e:Ev S}(l:rest.length<st.aa.length):FX 1 st (ay most (M_ st e) f rest n h):=by
 have:=eI (most:=most) (st:=M_ st e) (f:=f) (n:=n) (k:=0) (h:=h) l;refine⟨?_,this.2⟩;have a:=this.1;simp[M_]at a ⊢;lia
theorem Dz {st:St S}{r:S}{k:Nat}:FX k st (bY H most st r):=by
 unfold bY;split
 .exact AV
 .exact bz
theorem Dc {st:St S}{f:q_ S}{rest:List (q_ S)}{e:Option (n_ S)}(l:rest.length<st.aa.length):FX 1 st (bb H cs most st f rest e).1:=by
 obtain⟨p,d,h,j,i⟩:=f;cases d with
 |aq w=>exact gJ
 |aE k=>exact gJ
 |aj=>exact gJ
 |ai=>exact bz
 |ak=>exact bz
 |on m=>exact bz
 |ao m=>exact bz
 |ah s=>cases e with
  |none=>delta bb F_;dsimp only;split<;>first | exact bz | exact eI l
  |some x=>cases x<;>(delta bb F_;dsimp only)<;>first | exact bz | (split<;>first | exact bz | exact eI l)
 |ag s=>
  cases e with
  |some x=>exact bz
  |none=>
   delta bb F_;dsimp only
   cases cs[st.ab]? with
   |none=>exact bz
   |some c=>exact oH l
 |ab d=>
  have o:FX 1 st (match(match cs[st.ab]? with | some c=>({st with ab:=st.ab+1},Y c) | none=>({st with af:=Y .cC},O):St S×Option Int) with | (g,Y c)=>if c%2=0 then((g,Y n_.aa):St S×Option (n_ S)) else(ay most g ⟨p,.ab d,h,j,i⟩ rest 0 h,O) | (g,O)=>(g,O)).1:=by
   cases cs[st.ab]? with
   |none=>exact bz
   |some c=>
    dsimp only;split
    .exact bz
    .exact oH l
  cases e with
  |none=>exact o
  |some x=>cases x<;>first | exact bz | exact o
 |fz m a b=>cases e<;>first | exact bz | exact eI l
 |ae r=>cases e with
  |none=>exact Dz
  |some x=>cases x<;>first | exact bz | exact gJ
 |af a b=>
  delta bb F_;dsimp only
  split
  .exact eI l
  .cases i with
   |none=>cases e with
    |none=>exact bz
    |some x=>cases x<;>exact bz
   |some y=>cases e with
    |none=>cases y<;>first | exact bz | exact gJ
    |some x=>cases y<;>cases x<;>first | exact bz | exact gJ
 |aa a t=>cases e with
  |none=>exact eI l
  |some x=>cases x with
   |aE q=>
    delta bb F_;dsimp only
    split
    .exact bz
    .cases aT H t q with
     |none=>exact gJ
     |some n=>exact vB l
   |_=>exact bz
def Mk (H:aK S)(a b:St S):Prop:=a.ag.length<=H.ab.length->b.ag.length<=H.ab.length
theorem br {a:St S}:Mk H a a:=id
theorem DS {st:St S}{p:h_ S}{d:aA S}{h:Option (h_ S)}:Mk H st (J_ most st p d h):=by
 unfold J_;split<;>exact br
theorem fF {st:St S}{f:q_ S}{rest:List (q_ S)}{n:Nat}{h:Option (h_ S)}:Mk H st (ay most st f rest n h):=by
 unfold ay;split
 .unfold J_;split<;>exact br (H:=H) (a:=st)
 .exact br
theorem qp {st:St S}{f:q_ S}{rest:List (q_ S)}{n u:Nat}{h:Option (h_ S)}:Mk H st (ay most {st with ab:=u} f rest n h):=fF (H:=H) (st:={st with ab:=u})
theorem xQ {st:St S}{f:q_ S}{rest:List (q_ S)}{n:Nat}{h:Option (h_ S)}{e:Ev S}:Mk H st (ay most (M_ st e) f rest n h):=fF (H:=H) (st:=M_ st e)
theorem GL {st:St S}{r:S}:Mk H st (bY H most st r):=by
 unfold bY;split
 .exact DS
 .exact br
theorem Gq {st:St S}{f:q_ S}{rest:List (q_ S)}{e:Option (n_ S)}:Mk H st (bb H cs most st f rest e).1:=by
 obtain⟨p,d,i,l,j⟩:=f;cases d with
 |aq w=>exact br
 |aE k=>exact br
 |aj=>exact br
 |ai=>exact br
 |ak=>exact br
 |on m=>exact λ_=>abr _ _
 |ao m=>exact λh=>Xi (abr _ _) h
 |ah s=>cases e with
  |none=>delta bb F_;dsimp only;split<;>first | exact br | exact fF
  |some x=>cases x<;>(delta bb F_;dsimp only)<;>first | exact br | (split<;>first | exact br | exact fF)
 |ag s=>
  cases e with
  |some x=>exact br
  |none=>
   delta bb F_;dsimp only
   cases cs[st.ab]? with
   |none=>exact br
   |some c=>exact qp
 |ab d=>
  have o:Mk H st (match(match cs[st.ab]? with | some c=>({st with ab:=st.ab+1},Y c) | none=>({st with af:=Y .cC},O):St S×Option Int) with | (g,Y c)=>if c%2=0 then((g,Y n_.aa):St S×Option (n_ S)) else(ay most g ⟨p,.ab d,i,l,j⟩ rest 0 i,O) | (g,O)=>(g,O)).1:=by
   cases cs[st.ab]? with
   |none=>exact br
   |some c=>
    dsimp only;split
    .exact br
    .exact qp
  cases e with
  |none=>exact o
  |some x=>cases x<;>first | exact br | exact o
 |fz m a b=>cases e<;>first | exact br | exact fF
 |ae r=>cases e with
  |none=>exact GL
  |some x=>cases x<;>first | exact br | exact br
 |af a b=>
  delta bb F_;dsimp only
  split
  .exact fF
  .cases j with
   |none=>cases e with
    |none=>exact br
    |some x=>cases x<;>exact br
   |some y=>cases e with
    |none=>cases y<;>first | exact br | exact br
    |some x=>cases y<;>cases x<;>first | exact br | exact br
 |aa a t=>cases e with
  |none=>exact fF
  |some x=>cases x with
   |aE q=>
    delta bb F_;dsimp only
    split
    .exact br
    .cases aT H t q with
     |none=>exact br
     |some n=>exact xQ
   |_=>exact br
end RN
namespace D11
open PySem L2 S RN
variable [kf:KF]
theorem jh {n:Nat}:∀ {l:List Nat}{d x:aA M},yD n d->N_ d l=Y x->l.length<n
 |[],d,x,h,_=>by cases h with | mk _=>simp
 |i::r,d,x,h,e=>by
  unfold N_ at e;cases h with
  |mk b=>
   cases a:(w_ d)[i]? with
   |none=>rw[a]at e;cases e
   |some y=>
    rw[a]at e;have:=jh (b y (Xk a)) e;simp;lia
theorem sG:∀ {l:List Nat}{d x:aA M},Sm d->N_ d l=Y x->Sm x
 |[],d,x,h,e=>by rcases e;exact h
 |i::r,d,x,h,e=>by
  unfold N_ at e;cases a:(w_ d)[i]? with
  |none=>rw[a]at e;cases e
  |some y=>rw[a]at e;exact sG (h.ab (Xk a)) e
theorem d6 {H:aK M}(b:qY H){p:h_ M}{d:aA M}(e:bc H p=Y d):Sm d/\p.2.length<900:=by
 unfold bc at e;cases a:H.aa.lookup p.1 with
 |none=>rw[a]at e;cases e
 |some f=>rw[a]at e;exact⟨sG (b.sm _ (YI a)) e,jh (b.af _ (YI a)) e⟩
class Cw [KF] where
 ck:jj
 cw:J
 cd:J
 fw:∀ f∈["house","choices","most","used","many","marks","trail","doings","halt"],ck.cl cw (i_ f)
 fd:∀ f∈["place","deed","slip","begun","held"],ck.cl cd (i_ f)
variable [c:Cw]
def wf (H:aK M)(uc:U)(most k:Nat)(st:St M):List (M×U):=
 [("house",aJ H),("choices",uc),("most",.ab most),("used",.ab st.ab),("many",.ab st.ae),("marks",.af (st.ag.map .ae)),("trail",.aa (k+1)),("doings",.aa (k+2)),("halt",cF st.af)]
def df (f:q_ M):List (M×U):=[("place",aj f.ab),("deed",a_ f.cz),("slip",aV f.ae),("begun",.ab f.aa),("held",aN f.af)]
inductive Fr (k:Nat)(h:MH):List Nat->List (q_ M)->Prop
 |nil:Fr k h [] []
 |aa {r:Nat} {rs:List Nat} {f:q_ M} {fs:List (q_ M)}:h[r]?=Y (.ab c.cd (df f))->k+2<r->r∉rs->Fr k h rs fs->Fr k h (r::rs) (f::fs)
theorem Fr.ab {k:Nat}{h h':MH}:∀ {rs:List Nat}{fs:List (q_ M)},Fr k h rs fs->(∀ r∈rs,r<h.length->h'[r]?=h[r]?)->Fr k h' rs fs
 |_,_,.nil,_=>.nil
 |_,_,.aa a b n q,e=>.aa ((e _ nofun (bA a)).trans a) b n (Fr.ab q λr m=>e r (by simp[m]))
theorem Fr.lo {k:Nat}{h:MH}:∀ {rs:List Nat}{fs:List (q_ M)},Fr k h rs fs->∀ r∈rs,k+2<r
 |_,_,.nil,r,m=>absurd m nofun
 |_,_,.aa a b n q,r,m=>by
  rcases Xj.mp m with rfl | m
  .exact b
  .exact Fr.lo q r m
theorem Fr.hi {k:Nat}{h:MH}:∀ {rs:List Nat}{fs:List (q_ M)},Fr k h rs fs->∀ r∈rs,r<h.length
 |_,_,.nil,r,m=>absurd m nofun
 |_,_,.aa a b n q,r,m=>by
  rcases Xj.mp m with rfl | m
  .exact bA a
  .exact Fr.hi q r m
theorem Fr.ae {k:Nat}{h:MH}:∀ {rs:List Nat}{fs:List (q_ M)},Fr k h rs fs->rs.length=fs.length
 |_,_,.nil=>rfl
 |_,_,.aa a b n q=>by rw[Xa,Xa,Fr.ae q]
structure Wm where
 H:aK M
 uc:U
 cs:List Int
 aa:Nat
 h0:MH
structure At (w:Wm)(h:MH)(rs:List Nat)(st:St M):Prop where
 wk:h[w.h0.length]?=Y (.ab c.cw (wf w.H w.uc w.aa w.h0.length st))
 tr:h[w.h0.length+1]?=Y (.aa (st.ah.map bO))
 dg:h[w.h0.length+2]?=Y (.aa (rs.reverse.map .aa))
 fr:Fr w.h0.length h rs st.aa
 aa:∀ n,n<w.h0.length->h[n]?=w.h0[n]?
 us:st.ab<=w.cs.length
variable {w:Wm}{h:MH}{rs:List Nat}{st:St M}
theorem At.ai (a:At w h rs st):w.h0.length+2<h.length:=bA a.dg
theorem At.aj (a:At w h rs st)(g:MH):At w (h++g) rs st:=by
 have l:=a.ai;exact⟨(W3 ⋯).trans a.wk,(W3 ⋯).trans a.tr,(W3 ⋯).trans a.dg,a.fr.ab λr _ l=>W3 l,λn l=>(W3 ⋯).trans (a.aa n l),a.us⟩
theorem At.ah {st':St M}(a:At w h rs st)(b:st'.aa=st.aa)(d:st'.ah=st.ah)(e:st'.ab<=w.cs.length):At w (h.set w.h0.length (.ab c.cw (wf w.H w.uc w.aa w.h0.length st'))) rs st':=by
 have l:=a.ai;refine⟨Ya a.wk,?_,?_,?_,λn l=>?_,e⟩
 .rw[W9 ⋯,d];exact a.tr
 .rw[W9 ⋯];exact a.dg
 .rw[b];exact a.fr.ab λr m _=>W9 (by have:=a.fr.lo r m;lia)
 .rw[W9 ⋯];exact a.aa n l
theorem At.av (a:At w h rs st)(e:Ev M):At w (h.set (w.h0.length+1) (.aa (st.ah.map bO++[bO e]))) rs (M_ st e):=by
 have l:=a.ai;refine⟨?_,?_,?_,?_,λn l=>?_,a.us⟩
 .rw[W9 ⋯];exact a.wk
 .rw[Ya a.tr];simp[M_]
 .rw[W9 ⋯];exact a.dg
 .exact a.fr.ab λr m _=>W9 (by have:=a.fr.lo r m;lia)
 .rw[W9 ⋯];exact a.aa n l
theorem At.ar {r:Nat}{f f':q_ M}{rest:List (q_ M)}(a:At w h (r::rs) st)(e:st.aa=f::rest):At w (h.set r (.ab c.cd (df f'))) (r::rs) {st with aa:=f'::rest}:=by
 have l:=a.ai;have b:=a.fr;rw[e]at b;cases b with
 |aa g i d j=>
  refine⟨?_,?_,?_,?_,λn l=>?_,a.us⟩
  .rw[W9 ⋯];exact a.wk
  .rw[W9 ⋯];exact a.tr
  .rw[W9 ⋯];exact a.dg
  .exact .aa (Ya g) i d (j.ab λx m _=>W9 (λz:r=x=>d (by rw[z];exact m)))
  .rw[W9 ⋯];exact a.aa n l
theorem At.au (a:At w h rs st)(f:q_ M):At w ((h++[MO.ab c.cd (df f)]).set (w.h0.length+2) (MO.aa (rs.reverse.map U.aa++[U.aa h.length]))) (h.length::rs) {st with aa:=f::st.aa}:=by
 have l:=a.ai;have b:=a.aj [.ab c.cd (df f)];refine⟨?_,?_,?_,?_,λn l=>?_,a.us⟩
 .rw[W9 ⋯];exact b.wk
 .rw[W9 ⋯];exact b.tr
 .rw[Ya b.dg];simp
 .refine .aa ?_ l (λm=>absurd (a.fr.hi _ m) ⋯) (b.fr.ab λx m _=>W9 (by have:=a.fr.lo x m;lia));rw[W9 ⋯];simp
 .rw[W9 ⋯];exact b.aa n l
theorem At.aw {r:Nat}{f:q_ M}{rest:List (q_ M)}(a:At w h (r::rs) st)(e:st.aa=f::rest):At w (h.set (w.h0.length+2) (.aa (rs.reverse.map .aa))) rs {st with aa:=rest}:=by
 have l:=a.ai;have b:=a.fr;rw[e]at b;cases b with
 |aa g i j d=>
  refine⟨?_,?_,?_,?_,λn l=>?_,a.us⟩
  .rw[W9 ⋯];exact a.wk
  .rw[W9 ⋯];exact a.tr
  .exact Ya a.dg
  .exact d.ab λx m _=>W9 (by have:=d.lo x m;lia)
  .rw[W9 ⋯];exact a.aa n l
theorem At.ab (a:At w h rs st){f:String}{x:U}(b:f∈["house","choices","most","used","many","marks","trail","doings","halt"])(d:(wf w.H w.uc w.aa w.h0.length st).lookup (i_ f)=Y x):aM c.ck.cl (i_ f) (.aa w.h0.length) h=Y (x,h):=CZ a.wk (c.fw f b) d
theorem pZ {r:Nat}{f:q_ M}(e:h[r]?=Y (.ab c.cd (df f))){s:String}{x:U}(a:s∈["place","deed","slip","begun","held"])(b:(df f).lookup (i_ s)=Y x):aM c.ck.cl (i_ s) (.aa r) h=Y (x,h):=CZ e (c.fd s a) b
theorem At.Dh (a:At w h rs st):aM c.ck.cl "house" (.aa w.h0.length) h=Y (aJ w.H,h):=a.ab (f:="house") nofun (by simp[wf,L_])
theorem At.tj (a:At w h rs st):aM c.ck.cl "choices" (.aa w.h0.length) h=Y (w.uc,h):=a.ab (f:="choices") nofun (by simp[wf,L_])
theorem At.aq (a:At w h rs st):aM c.ck.cl "most" (.aa w.h0.length) h=Y (.ab w.aa,h):=a.ab (f:="most") nofun (by simp[wf,L_])
theorem At.ak (a:At w h rs st):aM c.ck.cl "used" (.aa w.h0.length) h=Y (.ab st.ab,h):=a.ab (f:="used") nofun (by simp[wf,L_])
theorem At.ag (a:At w h rs st):aM c.ck.cl "many" (.aa w.h0.length) h=Y (.ab st.ae,h):=a.ab (f:="many") nofun (by simp[wf,L_])
theorem At.ao (a:At w h rs st):aM c.ck.cl "marks" (.aa w.h0.length) h=Y (.af (st.ag.map .ae),h):=a.ab (f:="marks") nofun (by simp[wf,L_])
theorem At.ae (a:At w h rs st):aM c.ck.cl "trail" (.aa w.h0.length) h=Y (.aa (w.h0.length+1),h):=a.ab (f:="trail") nofun (by simp[wf,L_])
theorem At.nG (a:At w h rs st):aM c.ck.cl "doings" (.aa w.h0.length) h=Y (.aa (w.h0.length+2),h):=a.ab (f:="doings") nofun (by simp[wf,L_])
theorem At.af (a:At w h rs st):aM c.ck.cl "halt" (.aa w.h0.length) h=Y (cF st.af,h):=a.ab (f:="halt") nofun (by simp[wf,L_])
theorem ki {r:Nat}{f:q_ M}(e:h[r]?=Y (.ab c.cd (df f))):aM c.ck.cl "place" (.aa r) h=Y (aj f.ab,h):=pZ e (s:="place") nofun (by simp[df,L_])
theorem iY {r:Nat}{f:q_ M}(e:h[r]?=Y (.ab c.cd (df f))):aM c.ck.cl "deed" (.aa r) h=Y (a_ f.cz,h):=pZ e (s:="deed") nofun (by simp[df,L_])
theorem jH {r:Nat}{f:q_ M}(e:h[r]?=Y (.ab c.cd (df f))):aM c.ck.cl "slip" (.aa r) h=Y (aV f.ae,h):=pZ e (s:="slip") nofun (by simp[df,L_])
theorem fh {r:Nat}{f:q_ M}(e:h[r]?=Y (.ab c.cd (df f))):aM c.ck.cl "begun" (.aa r) h=Y (.ab f.aa,h):=pZ e (s:="begun") nofun (by simp[df,L_])
theorem tF {r:Nat}{f:q_ M}(e:h[r]?=Y (.ab c.cd (df f))):aM c.ck.cl "held" (.aa r) h=Y (aN f.af,h):=pZ e (s:="held") nofun (by simp[df,L_])
end D11
namespace S
open PySem L2
variable [kf:KF]
@[simp] theorem VR {a b:Int}{h:MH}:PH (.ab a) (.ab b) h=Y (.bl (j' (b<=a)),h):=rfl
@[simp] theorem VU {a b:Int}{h:MH}:GG (.ab a) (.ab b) h=Y (.bl (j' (a<b)),h):=rfl
@[simp] theorem VT {a b:Int}{h:MH}:Tz (.ab a) (.ab b) h=Y (.bl (j' (a<=b)),h):=rfl
@[simp] theorem VS {a b:Int}{h:MH}:PJ (.ab a) (.ab b) h=Y (.bl (j' (b<a)),h):=rfl
@[simp] theorem TZ {a b:Int}{h:MH}:dO (.ab a) (.ab b) h=Y (.ab (a-b),h):=rfl
@[simp] theorem TV {a:Int}{h:MH}:vI (.ab a) h=Y (.ab (-a),h):=rfl
theorem sf {a b:Int}{h:MH}(hb:0<b):gX (.ab a) (.ab b) h=Y (.ab (a%b),h):=by
 show(if 0<b then Y (U.ab (a%b)) else O).bind _=_;rw[W0 hb];rfl
@[simp] theorem Lp {C:J}{n:Nat}{f:MF}{a:MA}{σ:bu}{h:MH}:rR C n f a σ h=(a σ h).bind λp=>if p.1.length+1=n then(f (.aa p.2.length::p.1) (p.2++[.ab C []])).bind λq=>match q.1 with | .aQ=>Y (.aa p.2.length,q.2) | _=>O else none:=rfl
theorem aa9 {cl:CL}{f:M}{h g:MH}{C:J}{fs:List (M×U)}{x:U}(a:cl C f)(b:fs.length<1000):jg cl f (.aa h.length) x (h++.ab C fs::g)=Y (h++.ab C (dJ f x fs)::g):=by
 rw[qx (C:=C) (fs:=fs) nofun a b];simp
end S
namespace D11
open PySem L2 S RN
variable [kf:KF][c:Cw]
abbrev j0:MF:=jP c.ck
abbrev sY:MF:=i8 c.ck c.cd (gv c.ck)
abbrev sj:MF:=hE c.ck c.cw sY
abbrev fx:MF:=gj c.ck c.cw cf sY
abbrev kc:MF:=ij c.ck
variable {w:Wm}{h:MH}{rs:List Nat}{st:St M}
theorem HQ (a:At w h rs st)(f:st.ah.length<900000)(e:Ev M):∃ h',j0 [.aa w.h0.length,bO e] h=Y (.aQ,h')/\At w h' rs (M_ st e)/\h'.length=h.length/\∀ n,n≠w.h0.length+1->h'[n]?=h[n]?:=by
 refine⟨_,?_,a.av e,by simp,λn b=>W9 (λz=>b z.symm)⟩;have d:=cX (u:=bO e) a.tr (by simp;lia);simp[j0,jP,cJ,og,a.ae,cg a.tr,d]
theorem CP {p:h_ M}{d:aA M}{s:Option (h_ M)}:gv c.ck [.aa h.length,aj p,a_ d,aV s] (h++[.ab c.cd []])=Y (.aQ,h++[.ab c.cd (df ⟨p,d,s,0,O⟩)]):=by
 have a:=c.fd "place" nofun;have b:=c.fd "deed" nofun;have e:=c.fd "slip" nofun;have f:=c.fd "begun" nofun;have g:=c.fd "held" nofun;simp[gv,cJ,mq,aa9,a,b,e,f,g,dJ,df,aN]
theorem z5 {H:aK M}{uc:U}{most k:Nat}{x:WI M}:dJ "halt" (bw x) (wf H uc most k st)=wf H uc most k {st with af:=Y x}:=by simp[dJ,wf,cF]
theorem H0 {H:aK M}{uc:U}{most k:Nat}:dJ "many" (.ab ((st.ae:Int)+1)) (wf H uc most k st)=wf H uc most k {st with ae:=st.ae+1}:=by simp[dJ,wf]
theorem Ia {H:aK M}{uc:U}{most k:Nat}:dJ "used" (.ab ((st.ab:Int)+1)) (wf H uc most k st)=wf H uc most k {st with ab:=st.ab+1}:=by simp[dJ,wf]
theorem FD {H:aK M}{uc:U}{most k:Nat}{ms:List M}:dJ "marks" (.af (ms.map .ae)) (wf H uc most k st)=wf H uc most k {st with ag:=ms}:=by simp[dJ,wf]
theorem CK {f:q_ M}:dJ "begun" (.ab ((f.aa:Int)+1)) (df f)=df {f with aa:=f.aa+1}:=by simp[dJ,df]
theorem Gh {f:q_ M}{e:Option (n_ M)}:dJ "held" (aN e) (df f)=df {f with af:=e}:=by simp[dJ,df]
theorem qD {H:aK M}{uc:U}{most k:Nat}:(wf H uc most k st).length<1000:=by simp[wf]
theorem CM {f:q_ M}:(df f).length<1000:=by simp[df]
theorem uN (a:At w h rs st)(r:rs.length<900000){p:h_ M}{d:aA M}{s:Option (h_ M)}:∃ h' k,sY [.aa w.h0.length,aj p,a_ d,aV s] h=Y (.aQ,h')/\At w h' k (J_ w.aa st p d s):=by
 by_cases f:w.aa<=st.ae
 .refine⟨h.set w.h0.length (.ab c.cw (wf w.H w.uc w.aa w.h0.length {st with af:=Y .aa})),rs,?_,?_⟩
  rotate_left
  .unfold J_;rw[W0 f];exact a.ah (st':={st with af:=Y .aa}) rfl rfl a.us
  have e:=qx (x:=.af [.ae "long"]) a.wk (c.fw "halt" nofun) qD;rw[show U.af [.ae "long"]=bw .aa from rfl,z5]at e;rw[show bw .aa=U.af [.ae "long"] from rfl]at e;simp[sY,i8,cJ,gn,a.ag,a.aq,f,e]
 .have b:=a.ah (st':={st with ae:=st.ae+1}) rfl rfl a.us;have e:=wI (σ:=[Y (.aa w.h0.length),Y (aj p),Y (a_ d),Y (aV s)]) (o:=aG) (v:=aq 1) (g:=λu v=>u+v) (i:=st.ae) (j:=1) rfl rfl a.wk (c.fw "many" nofun) qD (by simp[wf,L_]);rw[H0]at e;have q:=b.au ⟨p,d,s,0,O⟩;refine⟨_,_,?_,by unfold J_;rw[W5 f];exact q⟩;clear q;refine C1 (σ:=[Y (.aa w.h0.length),Y (aj p),Y (a_ d),Y (aV s)]) ?_;show gn _ _ _ [Y (.aa w.h0.length),Y (aj p),Y (a_ d),Y (aV s)] h=_;unfold gn;rw[ab (σ':=[Y (.aa w.h0.length),Y (aj p),Y (a_ d),Y (aV s)]) (h':=h) (by simp[a.ag,a.aq,f]),ab e];have l:=cg b.dg;have m:=CP (h:=h.set w.h0.length (.ab c.cw (wf w.H w.uc w.aa w.h0.length {st with ae:=st.ae+1}))) (p:=p) (d:=d) (s:=s);have n:=cX (u:=.aa (h.set w.h0.length (.ab c.cw (wf w.H w.uc w.aa w.h0.length {st with ae:=st.ae+1}))).length) (b.aj [.ab c.cd (df ⟨p,d,s,0,O⟩)]).dg (by simp;lia);refine cQ (u:=.aQ) ?_;rw[Ew,OG];simp only[c8,Xm,Xg,WZ,b.nG,l,bI,Lp,eP,Xa,Xy,Nat.reduceAdd,if_true,m,n]
theorem hJ (a:At w h rs st){m:M}{k:Nat}{f:MF}{o:ME}{ar:MA}{σ:bu}{us:List U}{h':MH}(e:o σ h=Y (.aa w.h0.length,h))(b:m∉["house","choices","most","used","many","marks","trail","doings","halt"].map i_)(g:ar σ h=Y (us,h'))(i:us.length+1=k):bX c.cw m k f o ar σ h=f (.aa w.h0.length::us) h':=by
 refine GK e a.wk ?_ g i;simp only[Xq,aai,Xj,not_or]at b;have d {x:String} (h:m≠i_ x):(m == i_ x)=false:=by simpa using h
 simp[wf,L_,d b.1,d b.2.1,d b.2.2.1,d b.2.2.2.1,d b.2.2.2.2.1,d b.2.2.2.2.2.1,d b.2.2.2.2.2.2.1,d b.2.2.2.2.2.2.2.1,d b.2.2.2.2.2.2.2.2.1]
theorem zK (f:qY w.H)(a:At w h rs st)(g:rs.length<900000){r:M}{d:aA M}(e:w.H.aa.lookup r=Y d):∃ h' b,sj [.aa w.h0.length,.ae r] h=Y (.aQ,h')/\At w h' b (bY w.H w.aa st r):=by
 obtain⟨i,j⟩:=zJ (h:=h) f e;have a':=a.aj [.dK (w.H.aa.map λr=>((p_ r.1:j_),a_ r.2))];obtain⟨h',b,l,m⟩:=uN a' g (p:=(r,[])) (d:=d) (s:=O);refine⟨h',b,?_,by unfold bY;rw[e];exact m⟩;refine C1 (σ:=[Y (.aa w.h0.length),Y (.ae r)]) ?_;show eX _ _ _ [Y (.aa w.h0.length),Y (.ae r)] h=_;unfold eX;refine cQ (u:=.aQ) ?_;rw[hJ a (k:=4) (us:=[.af [.ae r],a_ d,.aQ]) (h':=h++[.dK (w.H.aa.map λr=>((p_ r.1:j_),a_ r.2))]) rfl nofun ?_ rfl]
 .exact l
 .simp[a.Dh,aJ,i,rx,j]
theorem BK {r n:Nat}{f:q_ M}{rest:List (q_ M)}{d:aA M}{s:Option (h_ M)}(a:At w h (r::rs) st)(l:st.aa=f::rest)(m:(w_ f.cz)[n]?=Y d)(x:Sm f.cz)(D:f.ab.2.length<900)(E:rs.length<800000) :
  ∃ h' e,fx [.aa w.h0.length,.aa r,.ab (n:Int),aV s] h=Y (.aQ,h')/\At w h' e (ay w.aa st f rest n s):=by
 have b:=a.ar (f':={f with aa:=f.aa+1}) l;have g:h[r]?=Y (.ab c.cd (df f)):=by
  have:=a.fr;rw[l]at this;cases this with | aa y _ _ _=>exact y
 have q:(h.set r (.ab c.cd (df {f with aa:=f.aa+1})))[r]?=Y (.ab c.cd (df {f with aa:=f.aa+1})):=Ya g;obtain⟨h',e,z,A⟩:=uN b (by simp;lia) (p:=l_ f.ab n) (d:=d) (s:=s);refine⟨h',e,?_,by unfold ay;rw[m];exact A⟩;have t:=wI (σ:=[Y (.aa w.h0.length),Y (.aa r),Y (.ab (n:Int)),Y (aV s)]) (o:=aR) (v:=aq 1) (g:=λu v=>u+v) (i:=f.aa) (j:=1) rfl rfl g (c.fd "begun" nofun) CM (by simp[df,L_]);rw[CK]at t;refine C1 (σ:=[Y (.aa w.h0.length),Y (.aa r),Y (.ab (n:Int)),Y (aV s)]) ?_;show eg _ _ _ _ [Y (.aa w.h0.length),Y (.aa r),Y (.ab (n:Int)),Y (aV s)] h=_;unfold eg;rw[ab t];refine cQ (u:=.aQ) ?_;rw[hJ b (k:=4) (us:=[aj (l_ f.ab n),a_ d,aV s]) (h':=h.set r (.ab c.cd (df {f with aa:=f.aa+1}))) rfl nofun ?_ rfl]
 .exact z
 .have B:=vt f.cz (h.set r (.ab c.cd (df {f with aa:=f.aa+1}))) x.aa;have C:L2.iw ((w_ f.cz).map a_) (n:Int)=Y (a_ d):=by rw[S.cv,Xd,m];rfl
  have hz:f.ab.2.length+1+1<=1000000:=by lia
  simp[ki q,iY q,B,C,aj,l_,hz]
def Ch (w:Wm):Prop:=w.uc=.ag (w.cs.map .ab)\/∃ n,w.uc=.aa n/\n<w.h0.length/\w.h0[n]?=Y (.aa (w.cs.map .ab))
theorem JC (a:At w h rs st)(d:Ch w):fj [w.uc] h=Y (.ab w.cs.length,h):=by
 rcases d with e | ⟨n,e,l,g⟩
 .rw[e];simp
 .rw[e];have:h[n]?=Y (.aa (w.cs.map .ab)):=(a.aa n l).trans g;show(match h[n]? with | some (.dK b)=>Y (U.ab b.length,h) | some (.aa f)=>Y (U.ab f.length,h) | _=>O)=_;rw[this];simp
theorem Nt (a:At w h rs st)(f:Ch w){i:Nat}{x:Int}(b:w.cs[i]?=Y x):cU h w.uc=b_/\tU w.uc (.ab (i:Int)) h=Y (.ab x,h):=by
 rcases f with e | ⟨n,e,l,g⟩
 .rw[e];refine⟨rfl,?_⟩;rw[Ez,S.cv,Xd,b];rfl
 .rw[e];have d:h[n]?=Y (.aa (w.cs.map .ab)):=(a.aa n l).trans g;constructor
  .simp[cU,d]
  .simp[tU,cK,d,S.cv,b]
noncomputable def Ye:Option Int->U
 |none=>.aQ
 |some i=>.ab i
theorem rk (a:At w h rs st)(l:Ch w):∃ h',kc [.aa w.h0.length] h=Y (Ye (RN.F_ w.cs st).2,h')/\At w h' rs (RN.F_ w.cs st).1/\h'.length=h.length/\∀ n,n≠w.h0.length->h'[n]?=h[n]?:=by
 have m:=JC a l;cases f:w.cs[st.ab]? with
 |none=>
  have p:st.ab=w.cs.length:=by have:=XA.mp f;have:=a.us;lia
  have d:RN.F_ w.cs st=({st with af:=Y .cC},O):=by unfold RN.F_;rw[f]
  rw[d];refine⟨_,?_,a.ah (st':={st with af:=Y .cC}) rfl rfl a.us,by simp,λn k=>W9 (λz=>k z.symm)⟩;have e:=qx (x:=bw .cC) a.wk (c.fw "halt" nofun) qD;rw[z5]at e;rw[show bw .cC=U.af [.ae "waits"] from rfl]at e;have NQ:(st.ab:Int)=(w.cs.length:Int):=by lia
  simp[kc,ij,cJ,fK,a.ak,a.tj,m,NQ,e,Ye]
 |some x=>
  have p:st.ab<w.cs.length:=(W2.mp f).1;have d:RN.F_ w.cs st=({st with ab:=st.ab+1},Y x):=by unfold RN.F_;rw[f]
  rw[d];have b:=a.ah (st':={st with ab:=st.ab+1}) rfl rfl (show st.ab+1<=_ by lia);refine⟨_,?_,b,by simp,λn k=>W9 (λz=>k z.symm)⟩;have e:=wI (σ:=[Y (.aa w.h0.length)]) (o:=aG) (v:=aq 1) (g:=λu v=>u+v) (i:=st.ab) (j:=1) rfl rfl a.wk (c.fw "used" nofun) qD (by simp[wf,L_]);rw[Ia]at e;have NQ:¬ (st.ab:Int)=(w.cs.length:Int):=by lia
  obtain⟨q,r⟩:=Nt b l f;refine bD ?_;show fK _ [Y (.aa w.h0.length)] h=_;unfold fK;rw[ab (σ':=[Y (.aa w.h0.length)]) (h':=h) (by simp[a.ak,a.tj,m,NQ]),ab e];refine a7 ?_;have s:((st.ab:Int)+1-1)=(st.ab:Int):=by lia
  simp[b.tj,b.ak,s,q,r,Ye]
end D11
namespace D11
open PySem L2 S RN
variable [kf:KF][c:Cw]
abbrev Hn:MF:=fV c.ck c.cw fx
abbrev Ef:MF:=gw c.ck c.cw kc fx
abbrev pJ:MF:=eE c.ck c.cw kc fx
abbrev FE:MF:=i9 c.ck c.cw fx
abbrev Cy:MF:=ed c.ck c.cw b4 sj j0
abbrev pO:MF:=lC c.ck c.cw b4 fx j0
abbrev wW:MF:=dF c.ck c.cw b4 yv fx j0
abbrev pA:MF:=jQ c.ck c.cw bQ bg j0
abbrev ML:MF:=zu c.ck Hn Ef pJ FE Cy pO wW pA
variable {w:Wm}{h:MH}{rs:List Nat}{st:RN.St M}
theorem rW {n:Nat}:∀ {ns:List Nat},eR (aZ h n) (ns.map λn:Nat=>U.ab (n:Int))=Y (ns.map λn:Nat=>Ze (n:Int))
 |[]=>rfl
 |a::r=>by
  show(aZ h n (.ab (a:Int))).bind _=_;rw[pQ];show(eR (aZ h n) (r.map λn:Nat=>U.ab (n:Int))).bind _=_;rw[rW];rfl
theorem xa {p:RN.h_ M}:∃ a,aZ h Dp (aj p)=Y (.tuple a):=by
 refine⟨.str p.1::p.2.map λn:Nat=>Ze (n:Int),?_⟩;show(eR (aZ h _) (.ae p.1::p.2.map λn:Nat=>U.ab (n:Int))).bind _=_;show((aZ h _ (.ae p.1)).bind _).bind _=_;rw[mD];show((eR (aZ h _) (p.2.map λn:Nat=>U.ab (n:Int))).bind _).bind _=_;rw[rW];rfl
@[simp] theorem ND {neg:Bool}{p:RN.h_ M}{x:M}:bh neg (aj p) (.ae x) h=Y (.bl neg,h):=by
 obtain⟨a,e⟩:=xa (h:=h) (p:=p);unfold S.bh;rw[e];simp[F']
@[simp] theorem QG {neg:Bool}{x:M}:bh neg .aQ (.ae x) h=Y (.bl neg,h):=by
 unfold S.bh;simp[F']
@[simp] theorem MN {p:RN.h_ M}:iA (aj p)=false:=rfl
@[simp] theorem LU {p:RN.h_ M}:b4 [aj p] h=Y (.bl L,h):=by
 simp[b4,cJ,j9,aj,qU,qe]
@[simp] theorem EX {x:M}:b4 [.ae x] h=Y (.bl b_,h):=by
 simp[b4,cJ,j9,qU,qe]
@[simp] theorem EW:b4 [.aQ] h=Y (.bl b_,h):=by
 simp[b4,cJ,j9,qU,qe]
def iK (w:Wm)(r:Nat)(rs:List Nat)(st:RN.St M)(a:RN.St M×Option (n_ M))(o:Option (U×MH)):Prop:=∃ d b,o=Y (aN a.2,d)/\At w d b a.1/\(a.2≠O->b=r::rs/\a.1.aa=st.aa)
theorem bE {r:Nat}{st':RN.St M}{x:n_ M}{o:Option (U×MH)}{h':MH}(e:o=Y (aH x,h'))(a:At w h' (r::rs) st')(b:st'.aa=st.aa):iK w r rs st (st',Y x) o:=⟨h',_,e,a,λ_=>⟨rfl,b⟩⟩
theorem gr {r:Nat}{b:List Nat}{st':RN.St M}{o:Option (U×MH)}{h':MH}(e:o=Y (.aQ,h'))(a:At w h' b st'):iK w r rs st (st',O) o:=⟨h',b,e,a,λz=>absurd rfl z⟩
theorem At.FQ {r:Nat}{f:q_ M}{rest:List (q_ M)}(a:At w h (r::rs) st)(b:st.aa=f::rest):h[r]?=Y (.ab c.cd (df f))/\w.h0.length+2<r:=by
 have:=a.fr;rw[b]at this;cases this with | aa d e _ _=>exact⟨d,e⟩
theorem fI {r n:Nat}{f:q_ M}{rest:List (q_ M)}{d:aA M}{s:Option (RN.h_ M)}{σ:bu}{o:ME}{ar:MA}(a:At w h (r::rs) st)(e:st.aa=f::rest)(g:(w_ f.cz)[n]?=Y d)(i:Sm f.cz)(j:f.ab.2.length<900)(l:rs.length<800000)
  (m:o σ h=Y (.aa w.h0.length,h)) (p:ar σ h=Y ([.aa r,.ab (n:Int),aV s],h)) :
  ∃ h' b,aO (bX c.cw "begin_within" 4 fx o ar) σ h=Y (.nx σ,h')/\At w h' b (ay w.aa st f rest n s):=by
 obtain⟨h',b,q,t⟩:=BK (s:=s) a e g i j l;refine⟨h',b,cQ (u:=.aQ) ?_,t⟩;rw[hJ a (k:=4) m nofun p rfl];exact q
theorem fX {σ:bu}{o:ME}{ar:MA}(a:At w h rs st)(b:st.ah.length<900000)(e:Ev M)(d:o σ h=Y (.aa w.h0.length,h))(f:ar σ h=Y ([bO e],h)) :
  ∃ h',aO (bX c.cw "tell" 2 j0 o ar) σ h=Y (.nx σ,h')/\At w h' rs (M_ st e)/\∀ n,n≠w.h0.length+1->h'[n]?=h[n]?:=by
 obtain⟨h',g,i,l,j⟩:=HQ a b e;refine⟨h',cQ (u:=.aQ) ?_,i,j⟩;rw[hJ a (k:=2) d nofun f rfl];exact g
theorem oz {r n:Nat}{f:q_ M}{rest:List (q_ M)}{d:aA M}{s:Option (RN.h_ M)}{σ:bu}{o:ME}{ar:MA}{N:Nat}{m:MS}{us:List U}{b:MH}(a:At w h (r::rs) st)(e:st.aa=f::rest)(g:(w_ f.cz)[n]?=Y d)(i:Sm f.cz)(j:f.ab.2.length<900)(k:rs.length<800000)
  (l:o σ h=Y (.aa w.h0.length,h)) (p:ar σ h=Y ([.aa r,.ab (n:Int),aV s],h))
  (q:m (us.map Y++List.replicate (N-us.length) O) b=af (aO (bX c.cw "begin_within" 4 fx o ar)) (ax bJ) σ h):iK w r rs st (ay w.aa st f rest n s,O) (cJ N m us b):=by
 obtain⟨x,t,u,v⟩:=fI (s:=s) a e g i j k l p;refine gr ?_ v;refine bD ?_;rw[q,ab u];exact a7 rfl
theorem Lw {r:Nat}{f:q_ M}{rest:List (q_ M)}{b:List (aA M)}{e:Option (n_ M)}(n:qY w.H)(B:Ch w)(a:At w h (r::rs) st)(j:st.aa=f::rest)(i:f.cz=.ah b)(s:iu w.H e.isNone f)(t:rs.length<800000) :
  iK w r rs st (bb w.H w.cs w.aa st f rest e) (Hn [.aa w.h0.length,.aa r,aN e] h):=by
 obtain⟨g,_⟩:=a.FQ j;obtain⟨C,u,D,E,k⟩:=s;obtain⟨v,y⟩:=d6 n u;have TF:f.aa<=b.length:=by rw[i]at k;exact k.1
 have d (e:Option (n_ M)) (m:az (lq BN (mB (aw (bh L) cu (ag "done")))) (ax cu) ai [Y (.aa w.h0.length),Y (.aa r),Y (aN e)] h=Y (.nx [Y (.aa w.h0.length),Y (.aa r),Y (aN e)],h)) :
   iK w r rs st (if f.aa=b.length then(st,Y .aa) else(ay w.aa st f rest f.aa f.ae,O)) (Hn [.aa w.h0.length,.aa r,aN e] h):=by
  by_cases q:f.aa=b.length
  .rw[W0 q];refine bE (h':=h) ?_ a rfl;refine bD ?_;show dk _ _ _ [Y (.aa w.h0.length),Y (.aa r),Y (aN e)] h=_;unfold dk;rw[ab m];refine cM ?_;have:(f.aa:Int)=((b.length:Nat):Int)+1-1:=by lia
   simp[fh g,iY g,i,a_,cx,this,aH]
  .rw[W5 q];have z:f.aa<b.length:=by lia
   have A:(w_ f.cz)[f.aa]?=Y b[f.aa]:=by rw[i];exact W6 (l:=b) z
   refine oz (σ:=[Y (.aa w.h0.length),Y (.aa r),Y (aN e)]) (o:=aG) (ar:=(aa aR (aa (bU (aM c.ck.cl "begun") aR) (aa (bU (aM c.ck.cl "slip") aR) ae)))) a j A v y t rfl (by simp[fh g,jH g]) ?_;show dk _ _ _ [Y (.aa w.h0.length),Y (.aa r),Y (aN e)] h=_;unfold dk;rw[ab m,ab];have:¬ (f.aa:Int)=((b.length:Nat):Int):=by lia
   simp[fh g,iY g,i,a_,cx,this]
 unfold bb;rw[i];cases e with
 |none=>exact d O (by simp[aN])
 |some x=>
  cases x with
  |aa=>exact d (Y .aa) (by simp[aN,aH])
  |ab=>exact bE (h':=h) (by simp[fV,cJ,dk,aN,aH]) a rfl
  |ae=>exact bE (h':=h) (by simp[fV,cJ,dk,aN,aH]) a rfl
  |aE p=>exact bE (h':=h) (by simp[fV,cJ,dk,aN,aH]) a rfl
end D11
namespace D11
open PySem L2 S RN
variable [kf:KF][c:Cw]
variable {w:Wm}{h:MH}{rs:List Nat}{st:RN.St M}
theorem At.MJ {r:Nat}{f:q_ M}{rest:List (q_ M)}(a:At w h (r::rs) st)(b:st.aa=f::rest){h':MH}{n:Nat}(d:n<=w.h0.length+1)(k:∀ m,m≠n->h'[m]?=h[m]?):h'[r]?=Y (.ab c.cd (df f)):=by
 obtain⟨g,l⟩:=a.FQ b;rw[k r ⋯];exact g
theorem acv {x:Int}{n:Nat}(a:0<n):(x%(n:Int)).toNat<n/\((x%(n:Int)).toNat:Int)=x%(n:Int):=by
 have d:=ZI x (b:=(n:Int)) ⋯;have e:=ZH x (b:=(n:Int)) ⋯;lia
theorem G8 {r:Nat}{f:q_ M}{rest:List (q_ M)}{b:List (aA M)}{e:Option (n_ M)}(z:qY w.H)(A:Ch w)(a:At w h (r::rs) st)(n:st.aa=f::rest)(i:f.cz=.ag b)(B:iu w.H e.isNone f)(C:rs.length<800000) :
  iK w r rs st (bb w.H w.cs w.aa st f rest e) (Ef [.aa w.h0.length,.aa r,aN e] h):=by
 obtain⟨g,_⟩:=a.FQ n;obtain⟨t,D,V,W,X⟩:=B;obtain⟨E,F⟩:=d6 z D;have p:0<b.length:=by rw[i]at t;have:=t.mV.1;lia
 unfold bb;rw[i];cases e with
 |some x=>exact bE (h':=h) (by cases x<;>simp[gw,cJ,eY,aN,aH]) a rfl
 |none=>
  dsimp only;obtain⟨q,G,j,Z,I⟩:=rk a A;have m:bX c.cw "choose" 1 kc aG ae [Y (.aa w.h0.length),Y (.aa r),Y .aQ,O] h=Y (Ye (RN.F_ w.cs st).2,q):=by
   rw[hJ a (k:=1) (us:=[]) rfl nofun rfl rfl];exact G
  cases u:w.cs[st.ab]? with
  |none=>
   have d:RN.F_ w.cs st=({st with af:=Y .cC},O):=by unfold RN.F_;rw[u]
   rw[d]at j m ⊢;refine gr (h':=q) ?_ j;simp[gw,cJ,eY,aN,m,Ye]
  |some x=>
   have d:RN.F_ w.cs st=({st with ab:=st.ab+1},Y x):=by unfold RN.F_;rw[u]
   rw[d]at j m ⊢;obtain⟨K,N⟩:=acv (x:=x) p;have v:=a.MJ n (Yo _) I;have P:(w_ f.cz)[(x%b.length).toNat]?=Y b[(x%b.length).toNat]:=by rw[i];exact W6 (l:=b) K
   obtain⟨y,Q,S,T⟩:=fI (s:=f.ae) (σ:=[Y (.aa w.h0.length),Y (.aa r),Y .aQ,Y (.ab x)]) (o:=aG) (ar:=(aa aR (aa (aw gX bC (aw dO (eB fj (aa (bU (aM c.ck.cl "deed") aR) ae)) (aq 1))) (aa (bU (aM c.ck.cl "slip") aR) ae)))) j n P E F C rfl (by
     have U:0<((b.length:Nat):Int):=by lia
     simp[iY v,jH v,i,a_,cx,sf U,N])
   refine gr (h':=y) ?_ T;refine bD ?_;show eY _ _ _ _ [Y (.aa w.h0.length),Y (.aa r),Y .aQ,O] h=_;unfold eY;rw[ab (σ':=[Y (.aa w.h0.length),Y (.aa r),Y .aQ,O]) (h':=h) nofun,ab (aC m),ab (σ':=[Y (.aa w.h0.length),Y (.aa r),Y .aQ,Y (.ab x)]) (h':=y)]
   .exact a7 rfl
   .rw[aF (k:=L) (h':=q) (by simp[Ye]),W0 rfl];exact S
theorem B4 {r:Nat}{f:q_ M}{rest:List (q_ M)}{d:aA M}{e:Option (n_ M)}(z:qY w.H)(A:Ch w)(a:At w h (r::rs) st)(u:st.aa=f::rest)(i:f.cz=.ab d)(B:iu w.H e.isNone f)(C:rs.length<800000) :
  iK w r rs st (bb w.H w.cs w.aa st f rest e) (pJ [.aa w.h0.length,.aa r,aN e] h):=by
 obtain⟨g,_⟩:=a.FQ u;obtain⟨Z,D,o3,o4,o5⟩:=B;obtain⟨E,F⟩:=d6 z D;have j (e:Option (n_ M)) (G:∀ x,w.cs[st.ab]?=Y x->bb w.H w.cs w.aa st f rest e=if x%2=0 then({st with ab:=st.ab+1},Y .aa) else(ay w.aa {st with ab:=st.ab+1} f rest 0 f.ae,O)) (I:w.cs[st.ab]?=O->bb w.H w.cs w.aa st f rest e=({st with af:=Y .cC},O)) (v:az (mB (aw (S.bh b_) cu (ag "stop"))) (ax (ag "done")) ai [Y (.aa w.h0.length),Y (.aa r),Y (aN e),O] h=Y (.nx [Y (.aa w.h0.length),Y (.aa r),Y (aN e),O],h))
   (y:az (lq BN (mB (aw (S.bh L) cu (ag "done")))) (ax cu) ai [Y (.aa w.h0.length),Y (.aa r),Y (aN e),O] h=Y (.nx [Y (.aa w.h0.length),Y (.aa r),Y (aN e),O],h)) :
   iK w r rs st (bb w.H w.cs w.aa st f rest e) (pJ [.aa w.h0.length,.aa r,aN e] h):=by
  obtain⟨n,K,t,k3,N⟩:=rk a A;have m:bX c.cw "choose" 1 kc aG ae [Y (.aa w.h0.length),Y (.aa r),Y (aN e),O] h=Y (Ye (RN.F_ w.cs st).2,n):=by
   rw[hJ a (k:=1) (us:=[]) rfl nofun rfl rfl];exact K
  have P:∃ o,pJ [.aa w.h0.length,.aa r,aN e] h=o:=⟨_,rfl⟩;cases b:w.cs[st.ab]? with
  |none=>
   have l:RN.F_ w.cs st=({st with af:=Y .cC},O):=by unfold RN.F_;rw[b]
   rw[l]at t m;rw[I b];refine gr (h':=n) ?_ t;refine bD ?_;show bN _ _ _ _ [Y (.aa w.h0.length),Y (.aa r),Y (aN e),O] h=_;unfold bN;rw[ab v,ab y,ab (aC m)];simp[Ye]
  |some x=>
   have l:RN.F_ w.cs st=({st with ab:=st.ab+1},Y x):=by unfold RN.F_;rw[b]
   rw[l]at t m;rw[G x b];dsimp only at m;have Q:=a.MJ u (Yo _) N;by_cases q:x%2=0
   .rw[W0 q];refine bE (h':=n) ?_ t rfl;refine bD ?_;show bN _ _ _ _ [Y (.aa w.h0.length),Y (.aa r),Y (aN e),O] h=_;unfold bN;rw[ab v,ab y,ab (aC m)];simp[Ye,sf,q,aH]
   .rw[W5 q];have T:(w_ f.cz)[0]?=Y d:=by rw[i];rfl
    obtain⟨U,V,W,X⟩:=fI (s:=f.ae) (σ:=[Y (.aa w.h0.length),Y (.aa r),Y (aN e),Y (.ab x)]) (o:=aG) (ar:=(aa aR (aa (aq 0) (aa (bU (aM c.ck.cl "slip") aR) ae)))) t u T E F C rfl (by simp[jH Q]);refine gr (h':=U) ?_ X;refine bD ?_;show bN _ _ _ _ [Y (.aa w.h0.length),Y (.aa r),Y (aN e),O] h=_;unfold bN;rw[ab v,ab y,ab (aC m),ab (σ':=[Y (.aa w.h0.length),Y (.aa r),Y (aN e),Y (.ab x)]) (h':=n) (by simp[Ye]),ab (σ':=[Y (.aa w.h0.length),Y (.aa r),Y (aN e),Y (.ab x)]) (h':=n) (by simp[sf,q]),ab W];exact a7 rfl
 cases e with
 |none=>exact j O (λx b=>by unfold bb RN.F_;rw[i,b]) (λb=>by unfold bb RN.F_;rw[i,b]) (by simp[aN]) (by simp[aN])
 |some x=>
  cases x with
  |aa=>exact j (Y .aa) (λx b=>by unfold bb RN.F_;rw[i,b]) (λb=>by unfold bb RN.F_;rw[i,b]) (by simp[aN,aH]) (by simp[aN,aH])
  |ab=>unfold bb;rw[i];exact bE (h':=h) (by simp[eE,cJ,bN,aN,aH]) a rfl
  |ae=>unfold bb;rw[i];exact bE (h':=h) (by simp[eE,cJ,bN,aN,aH]) a rfl
  |aE p=>unfold bb;rw[i];exact bE (h':=h) (by simp[eE,cJ,bN,aN,aH]) a rfl
theorem Ic {r:Nat}{f:q_ M}{rest:List (q_ M)}{m:M}{j k:aA M}{e:Option (n_ M)}(n:qY w.H)(a:At w h (r::rs) st)(l:st.aa=f::rest)(b:f.cz=.fz m j k)(p:iu w.H e.isNone f)(s:rs.length<800000) :
  iK w r rs st (bb w.H w.cs w.aa st f rest e) (FE [.aa w.h0.length,.aa r,aN e] h):=by
 obtain⟨g,_⟩:=a.FQ l;obtain⟨y,t,z,A,B⟩:=p;obtain⟨u,v⟩:=d6 n t;unfold bb;rw[b];cases e with
 |some x=>exact bE (h':=h) (by cases x<;>simp[i9,cJ,gp,aN,aH]) a rfl
 |none=>
  have i:∃ d,(w_ f.cz)[if m∈st.ag then 0 else 1]?=Y d:=by
   rw[b];split
   .exact⟨j,rfl⟩
   .exact⟨k,rfl⟩
  obtain⟨d,i⟩:=i;refine oz (σ:=[Y (.aa w.h0.length),Y (.aa r),Y .aQ]) (o:=aG) (ar:=(aa aR (aa (zq (mB (gu b_ (ao (bU (aM c.ck.cl "deed") aR) (aq 1)) (bU (aM c.ck.cl "marks") aG))) (aq 0) (aq 1)) (aa (bU (aM c.ck.cl "slip") aR) ae)))) a l i u v s rfl ?_ ?_
  .by_cases q:m∈st.ag<;>simp[iY g,jH g,a.ao,b,a_,q]
  .show gp _ _ _ [Y (.aa w.h0.length),Y (.aa r),Y .aQ] h=_;unfold gp;rw[ab];simp
theorem Gb {r:Nat}{f:q_ M}{rest:List (q_ M)}{m:M}{e:Option (n_ M)}(j:qY w.H)(a:At w h (r::rs) st)(l:st.aa=f::rest)(b:f.cz=.ae m)(n:iu w.H e.isNone f)(C:rs.length<800000)(q:st.ah.length<900000) :
  iK w r rs st (bb w.H w.cs w.aa st f rest e) (Cy [.aa w.h0.length,.aa r,aN e] h):=by
 obtain⟨g,_⟩:=a.FQ l;obtain⟨i,D,E,F,G⟩:=n;unfold bb;rw[b];cases e with
 |none=>
  dsimp only;rw[b]at i;obtain⟨d,s⟩:=i.my;obtain⟨h',t,u,v⟩:=zK j a (by simp;lia) s;refine gr (h':=h') ?_ v;have y:bX c.cw "begin_room" 2 sj aG (aa (ao (bU (aM c.ck.cl "deed") aR) (aq 1)) ae) [Y (.aa w.h0.length),Y (.aa r),Y .aQ] h=Y (.aQ,h'):=by
   rw[hJ a (k:=2) (us:=[.ae m]) (h':=h) rfl nofun (by simp[iY g,b,a_]) rfl];exact u
  simp[ed,cJ,dn,aN,y]
 |some x=>
  cases x with
  |aa=>exact bE (h':=h) (by simp[ed,cJ,dn,aN,aH,eS]) a rfl
  |ab=>exact bE (h':=h) (by simp[ed,cJ,dn,aN,aH,eS]) a rfl
  |ae=>exact bE (h':=h) (by simp[ed,cJ,dn,aN,aH,eS]) a rfl
  |aE p=>
   obtain⟨z,A,B,I⟩:=fX (σ:=[Y (.aa w.h0.length),Y (.aa r),Y (aj p)]) (o:=aG) (ar:=(aa (av (aa (ag "out") (aa (bU (aM c.ck.cl "place") aR) dQ))) ae)) a q (.ae f.ab p) rfl (by simp[ki g,bO]);refine bE (h':=z) ?_ B rfl;refine bD ?_;show dn _ _ _ _ _ [Y (.aa w.h0.length),Y (.aa r),Y (aj p)] h=_;unfold dn;rw[ab (σ':=[Y (.aa w.h0.length),Y (.aa r),Y (aj p)]) (h':=h) nofun,ab (σ':=[Y (.aa w.h0.length),Y (.aa r),Y (aj p)]) (h':=h) (by simp[eS]),ab A];exact a7 rfl
noncomputable def Yc:n_ M->Bool
 |.aa=>L
 |_=>b_
theorem CF {r:Nat}{f:q_ M}{rest:List (q_ M)}{D E:aA M}{e:Option (n_ M)}(N:qY w.H)(a:At w h (r::rs) st)(v:st.aa=f::rest)(m:f.cz=.af D E)(P:iu w.H e.isNone f)(Q:rs.length<800000)(T:st.ah.length<900000) :
  iK w r rs st (bb w.H w.cs w.aa st f rest e) (pO [.aa w.h0.length,.aa r,aN e] h):=by
 obtain⟨g,gl⟩:=a.FQ v;obtain⟨o1,U,o3,o4,F⟩:=P;obtain⟨V,W⟩:=d6 N U;rw[m]at F;obtain⟨X,p2,Z⟩:=F;by_cases q:f.aa<2
 .have hg:bb w.H w.cs w.aa st f rest e=(ay w.aa st {f with af:=e} rest f.aa f.ae,O):=by unfold bb;rw[m];exact W0 q
  rw[hg];have a1:=a.ar (f':={f with af:=e}) v;have n:(h.set r (.ab c.cd (df {f with af:=e})))[r]?=Y (.ab c.cd (df {f with af:=e})):=Ya g;have t:∃ d,(w_ ({f with af:=e}:q_ M).cz)[f.aa]?=Y d:=by
   show ∃ d,(w_ f.cz)[f.aa]?=Y d;rw[m];rcases(show f.aa=0\/f.aa=1 by lia) with z | z<;>rw[z]
   .exact⟨D,rfl⟩
   .exact⟨E,rfl⟩
  obtain⟨d,t⟩:=t;obtain⟨h2,Wz,A,u⟩:=fI (s:=f.ae) (σ:=[Y (.aa w.h0.length),Y (.aa r),Y (aN e)]) (o:=aG) (ar:=(aa aR (aa (bU (aM c.ck.cl "begun") aR) (aa (bU (aM c.ck.cl "slip") aR) ae)))) a1 rfl t V W Q rfl (by simp[fh n,jH n]);have hb:ay w.aa {st with aa:={f with af:=e}::rest} {f with af:=e} rest f.aa f.ae=ay w.aa st {f with af:=e} rest f.aa f.ae:=by
   unfold ay;rw[t]
  rw[hb]at u;refine gr (h':=h2) ?_ u;refine bD ?_;show c5 _ _ _ _ _ [Y (.aa w.h0.length),Y (.aa r),Y (aN e)] h=_;unfold c5;refine cM ?_;have q':(f.aa:Int)<2:=by lia
  rw[aF (k:=L) (h':=h) (by simp[fh g,q']),W0 rfl];have G:=qx (x:=aN e) g (c.fd "held" nofun) CM;rw[Gh]at G;rw[ab (σ':=[Y (.aa w.h0.length),Y (.aa r),Y (aN e)]) (h':=h.set r (.ab c.cd (df {f with af:=e}))) (by simp[G]),ab A];exact a7 rfl
 .have q':¬ (f.aa:Int)<2:=by lia
  have en:e≠none:=λz=>by
   have:f.aa=0:=X.mp (by rw[z];rfl);lia
  have hn:f.af≠none:=Z ⋯;have I:az (mB (aw GG (bU (aM c.ck.cl "begun") aR) (aq 2))) (af (bM c.ck.cl "held" aR cu) (af (aO (bX c.cw "begin_within" 4 fx aG (aa aR (aa (bU (aM c.ck.cl "begun") aR) (aa (bU (aM c.ck.cl "slip") aR) ae))))) (ax bJ))) ai [Y (.aa w.h0.length),Y (.aa r),Y (aN e)] h=Y (.nx [Y (.aa w.h0.length),Y (.aa r),Y (aN e)],h):=by
   rw[aF (k:=b_) (h':=h) (by simp[fh g,q']),W5 Xb];rfl
  have b {x:n_ M} (i:f.af=Y x) (np:∀ p,x≠.aE p) {y:n_ M} (B:e=Y y):iK w r rs st (st,if Yc y=L then Y x else Y y) (pO [.aa w.h0.length,.aa r,aN e] h):=by
   subst B;have:((st,if Yc y=L then Y x else Y y):RN.St M×Option (n_ M))=(st,Y (if Yc y=L then x else y)):=by split<;>rfl
   rw[this];refine bE (h':=h) ?_ a rfl;refine bD ?_;show c5 _ _ _ _ _ [Y (.aa w.h0.length),Y (.aa r),Y (aN (Y y))] h=_;unfold c5;rw[ab I];cases x with
   |aE p=>exact absurd rfl (np p)
   |_=>cases y<;>simp[tF g,i,aN,aH,eS,Yc]
  have j {p:RN.h_ M} (i:f.af=Y (.aE p)) {y:n_ M} (B:e=Y y) (l:Ev M) (C:bO l=.af [.ae (if Yc y=L then "kept" else "lost"),aj f.ab,aj p]):iK w r rs st (M_ st l,if Yc y=L then Y (.aE p) else Y y) (pO [.aa w.h0.length,.aa r,aN e] h):=by
   subst B;have:((M_ st l,if Yc y=L then Y (.aE p) else Y y):RN.St M×Option (n_ M))=(M_ st l,Y (if Yc y=L then .aE p else y)):=by split<;>rfl
   rw[this];obtain⟨K,A,u,q3⟩:=fX (σ:=[Y (.aa w.h0.length),Y (.aa r),Y (aN (Y y))]) (o:=aG) (ar:=(aa (av (aa (zq (mB (aw (S.bh b_) cu (ag "done"))) (ag "kept") (ag "lost")) (aa (bU (aM c.ck.cl "place") aR) (aa (bU (aM c.ck.cl "held") aR) ae)))) ae)) a T l rfl (by
    rw[C];cases y<;>simp[ki g,tF g,i,aN,aH,Yc])
   refine bE (h':=K) ?_ u rfl;refine bD ?_;show c5 _ _ _ _ _ [Y (.aa w.h0.length),Y (.aa r),Y (aN (Y y))] h=_;unfold c5;have n:=a.MJ v (WY _) q3;rw[ab I,ab (σ':=[Y (.aa w.h0.length),Y (.aa r),Y (aN (Y y))]) (h':=K)]
   .cases y<;>simp[tF n,i,aN,aH,Yc]
   .rw[aF (k:=L) (h':=h) (by simp[tF g,i,aN,aH,eS]),W0 rfl];exact A
  cases e with
  |none=>exact absurd rfl en
  |some y=>
   cases i:f.af with
   |none=>exact absurd i hn
   |some x=>
    unfold bb;rw[m];dsimp only;rw[W5 q,i];cases x with
    |aE p=>
     cases y with
     |aa=>exact j i rfl (.aa f.ab p) rfl
     |ab=>exact j i rfl (.nO f.ab p) rfl
     |ae=>exact j i rfl (.nO f.ab p) rfl
     |aE z=>exact j i rfl (.nO f.ab p) rfl
    |aa=>cases y<;>exact b i nofun rfl
    |ab=>cases y<;>exact b i nofun rfl
    |ae=>cases y<;>exact b i nofun rfl
theorem CC {r:Nat}{f:q_ M}{rest:List (q_ M)}{d1:aA M}{ts:List (M×aA M)}{e:Option (n_ M)}(l:qY w.H)(a:At w h (r::rs) st)(m:st.aa=f::rest)(b:f.cz=.aa d1 ts)(K:iu w.H e.isNone f)(N:RN.jo w.H e)(B:rs.length<800000)(C:st.ah.length<900000) :
  iK w r rs st (bb w.H w.cs w.aa st f rest e) (wW [.aa w.h0.length,.aa r,aN e] h):=by
 obtain⟨g,gl⟩:=a.FQ m;obtain⟨o1,P,o3,o4,o5⟩:=K;obtain⟨t,D⟩:=d6 l P;have Q:ts.length<1000:=by have:=t.aa;rw[b]at this;simp[w_]at this;lia
 unfold bb;rw[b];cases e with
 |none=>
  dsimp only;have v:(w_ f.cz)[0]?=Y d1:=by rw[b];rfl
  obtain⟨y,z,d,i⟩:=fI (s:=f.ae) (σ:=[Y (.aa w.h0.length),Y (.aa r),Y .aQ,O]) (o:=aG) (ar:=(aa aR (aa (aq 0) (aa (bU (aM c.ck.cl "slip") aR) ae)))) a m v t D B rfl (by simp[jH g]);refine gr (h':=y) ?_ i;refine bD ?_;show bF _ _ _ _ _ _ [Y (.aa w.h0.length),Y (.aa r),Y .aQ,O] h=_;unfold bF;refine cM ?_;rw[aF (k:=L) (h':=h) nofun,W0 rfl,ab d];exact a7 rfl
 |some x=>
  cases x with
  |aa=>exact bE (h':=h) (by
    by_cases q:(f.aa:Int)=2<;>simp[dF,cJ,bF,aN,aH,eS,fh g,q]) a rfl
  |ab=>exact bE (h':=h) (by
    by_cases q:(f.aa:Int)=2<;>simp[dF,cJ,bF,aN,aH,eS,fh g,q]) a rfl
  |ae=>exact bE (h':=h) (by
    by_cases q:(f.aa:Int)=2<;>simp[dF,cJ,bF,aN,aH,eS,fh g,q]) a rfl
  |aE p=>
   dsimp only;by_cases q:f.aa=2
   .rw[W0 q];have q':(f.aa:Int)=2:=by lia
    exact bE (h':=h) (by simp[dF,cJ,bF,aN,aH,fh g,q']) a rfl
   .rw[W5 q];have q':¬ (f.aa:Int)=2:=by lia
    obtain⟨k,E⟩:=(show cD w.H p from N);have T:=(d6 l E).2;have V:=Fv (h:=h) (a:=d1) (ts:=ts) l (show p.2.length<1000 by lia) Q ⟨k,by unfold Y0;rw[E]⟩;have F:az Mv (af (aO (bX c.cw "begin_within" 4 fx aG (aa aR (aa (aq 0) (aa (bU (aM c.ck.cl "slip") aR) ae))))) (ax bJ)) ai [Y (.aa w.h0.length),Y (.aa r),Y (aj p),O] h=Y (.nx [Y (.aa w.h0.length),Y (.aa r),Y (aj p),O],h):=by simp
    have G:az (qS (mB (aw (S.bh b_) (bU (aM c.ck.cl "begun") aR) (aq 2))) (mP (dS (ah 1 b4 dQ)))) (ax cu) ai [Y (.aa w.h0.length),Y (.aa r),Y (aj p),O] h=Y (.nx [Y (.aa w.h0.length),Y (.aa r),Y (aj p),O],h):=by simp[fh g,q',eS]
    have j:au (ah 3 yv (aa (bU (aM c.ck.cl "house") aG) (aa (bU (aM c.ck.cl "deed") aR) dQ))) (b' 3) [Y (.aa w.h0.length),Y (.aa r),Y (aj p),O] h=Y (.nx [Y (.aa w.h0.length),Y (.aa r),Y (aj p),Y (oQ (aT w.H ts p))],h):=by
     refine aC (u:=oQ (aT w.H ts p)) ?_;simp only[jW,bI,OG,c8,Xm,Xg,WZ,a.Dh,iY g,eP,Xa,Xy,Nat.reduceAdd,if_true,b,V]
    cases A:aT w.H ts p with
    |none=>
     rw[A]at j;obtain⟨I,d,i,W⟩:=fX (σ:=[Y (.aa w.h0.length),Y (.aa r),Y (aj p),Y .aQ]) (o:=aG) (ar:=(aa (av (aa (ag "by") (aa (bU (aM c.ck.cl "place") aR) dQ))) ae)) a C (.by f.ab p) rfl (by simp[ki g,bO]);refine bE (h':=I) ?_ i rfl;refine bD ?_;show bF _ _ _ _ _ _ [Y (.aa w.h0.length),Y (.aa r),Y (aj p),O] h=_;unfold bF;rw[ab F,ab G,ab j];refine cM ?_;rw[aF (k:=L) (h':=h) (by simp[oQ]),W0 rfl,show oQ O=U.aQ from rfl,ab d];exact a7 rfl
    |some n=>
     rw[A]at j;have X:=mG A;obtain⟨I,d,i,W⟩:=fX (σ:=[Y (.aa w.h0.length),Y (.aa r),Y (aj p),Y (.ab (n:Nat))]) (o:=aG) (ar:=(aa (av (aa (ag "take") (aa (bU (aM c.ck.cl "place") aR) Im))) ae)) a C (.take f.ab n p) rfl (by simp[ki g,bO]);have v:(w_ f.cz)[1+n]?=Y ts[n].2:=by rw[b,Yz];simp[w_,X]
     obtain⟨y,z,Z,t2⟩:=fI (s:=Y p) (σ:=[Y (.aa w.h0.length),Y (.aa r),Y (aj p),Y (.ab (n:Nat))]) (o:=aG) (ar:=(aa aR (aa (aw aI (aq 1) bC) dQ))) i m v t D B rfl (by simp[aV]);refine gr (h':=y) ?_ t2;refine bD ?_;show bF _ _ _ _ _ _ [Y (.aa w.h0.length),Y (.aa r),Y (aj p),O] h=_;unfold bF;rw[ab F,ab G,ab j,ab (σ':=[Y (.aa w.h0.length),Y (.aa r),Y (aj p),Y (.ab (n:Nat))]) (h':=h) (by simp[oQ]),ab d,ab Z];exact a7 rfl
theorem Eo (a:At w h rs st){ms:List M}{σ:bu}{v:ME}(d:v σ h=Y (.af (ms.map .ae),h))(e:aG σ h=Y (.aa w.h0.length,h)):∃ h',bM c.ck.cl "marks" aG v σ h=Y (.nx σ,h')/\At w h' rs {st with ag:=ms}/\∀ m,m≠w.h0.length->h'[m]?=h[m]?:=by
 refine⟨_,?_,a.ah (st':={st with ag:=ms}) rfl rfl a.us,λm f=>W9 (λz=>f z.symm)⟩;have b:=qx (x:=.af (ms.map .ae)) a.wk (c.fw "marks" nofun) qD;rw[FD]at b;rw[EC,d];show(aG σ h).bind _=_;rw[e];show(jg _ _ _ _ _).bind _=_;rw[b];rfl
theorem vD {ms:List M}:cE 0 (ms.map .ae):=dE
theorem fG {r:Nat}{f:q_ M}{rest:List (q_ M)}{e:Option (n_ M)}(C:qY w.H)(D:st.ag.length<1000)(a:At w h (r::rs) st)(s:st.aa=f::rest)(E:iu w.H e.isNone f)(t:st.ah.length<900000)
  (hk:(∃ x,f.cz=.aq x)\/(∃ x,f.cz=.aE x)\/f.cz=.aj\/f.cz=.ai\/f.cz=.ak\/(∃ x,f.cz=.on x)\/(∃ x,f.cz=.ao x)) :
  iK w r rs st (bb w.H w.cs w.aa st f rest e) (pA [.aa w.h0.length,.aa r] h):=by
 obtain⟨g,P⟩:=a.FQ s;obtain⟨z,Q,S,T,U⟩:=E;have b {j:RN.St M} {i:MH} {ms:List M} {x:n_ M} (u:At w i (r::rs) j) (F:i[r]?=Y (.ab c.cd (df f))) (y:j.aa=st.aa)
   (G:∀ h,bQ [aJ w.H,a_ f.cz,.af (j.ag.map .ae)] h=Y (.af (ms.map .ae),h)) (I:∀ h,bg [aj f.ab,a_ f.cz,aV f.ae] h=Y (aH x,h))
   (K:bG c.ck c.cw bQ bg j0 [Y (.aa w.h0.length),Y (.aa r),O,O] h=(af (bM c.ck.cl "marks" aG (ah 3 bQ (aa (bU (aM c.ck.cl "house") aG) (aa bC (aa (bU (aM c.ck.cl "marks") aG) ae))))) (ax (ah 3 bg (aa cu (aa bC (aa (bU (aM c.ck.cl "slip") aR) ae)))))) [Y (.aa w.h0.length),Y (.aa r),Y (aj f.ab),Y (a_ f.cz)] i) :
   iK w r rs st ({j with ag:=ms},Y x) (pA [.aa w.h0.length,.aa r] h):=by
  obtain⟨A,l,m,n⟩:=Eo u (ms:=ms) (σ:=[Y (.aa w.h0.length),Y (.aa r),Y (aj f.ab),Y (a_ f.cz)]) (v:=ah 3 bQ (aa (bU (aM c.ck.cl "house") aG) (aa bC (aa (bU (aM c.ck.cl "marks") aG) ae)))) (by simp[u.Dh,u.ao,G]) rfl;refine bE (h':=A) ?_ m y;refine bD ?_;show bG _ _ _ _ _ [Y (.aa w.h0.length),Y (.aa r),O,O] h=_;rw[K,ab l];have N:A[r]?=Y (.ab c.cd (df f)):=by rw[n r ⋯];exact F
  refine a7 ?_;simp[jH N,I]
 have q:au (bU (aM c.ck.cl "place") aR) (b' 2) [Y (.aa w.h0.length),Y (.aa r),O,O] h=Y (.nx [Y (.aa w.h0.length),Y (.aa r),Y (aj f.ab),O],h):=by simp[ki g]
 have d:au (bU (aM c.ck.cl "deed") aR) (b' 3) [Y (.aa w.h0.length),Y (.aa r),Y (aj f.ab),O] h=Y (.nx [Y (.aa w.h0.length),Y (.aa r),Y (aj f.ab),Y (a_ f.cz)],h):=by simp[iY g]
 unfold bb;rcases hk with⟨x,hk⟩ | ⟨x,hk⟩ | hk | hk | hk | ⟨x,hk⟩ | ⟨x,hk⟩
 .rw[hk]at b d ⊢;obtain⟨i,l,m,n⟩:=fX (σ:=[Y (.aa w.h0.length),Y (.aa r),Y (aj f.ab),Y (a_ (.aq x))]) (o:=aG) (ar:=(aa (av (aa (ag "say") (aa cu (aa (ao bC (aq 1)) ae)))) ae)) a t (.ag f.ab x) rfl (by simp[a_,bO]);refine b (ms:=st.ag) (x:=.aa) m (a.MJ s (WY _) n) rfl (λh=>gK nofun nofun vD) (λh=>jY nofun nofun nofun nofun) ?_;unfold bG;rw[ab q,ab d,ab (σ':=[Y (.aa w.h0.length),Y (.aa r),Y (aj f.ab),Y (a_ (.aq x))]) (h':=i),ab (σ':=[Y (.aa w.h0.length),Y (.aa r),Y (aj f.ab),Y (a_ (.aq x))]) (h':=i) (by simp[a_]),ab (σ':=[Y (.aa w.h0.length),Y (.aa r),Y (aj f.ab),Y (a_ (.aq x))]) (h':=i) (by simp[a_])];rw[aF (k:=L) (h':=h) (by simp[a_]),W0 rfl];exact l
 .rw[hk]at b d ⊢;obtain⟨i,l,m,n⟩:=fX (σ:=[Y (.aa w.h0.length),Y (.aa r),Y (aj f.ab),Y (a_ (.aE x))]) (o:=aG) (ar:=(aa (av (aa (ag "slip") dQ)) ae)) a t (.aE f.ab) rfl (by simp[a_,bO]);refine b (ms:=st.ag) (x:=.aE f.ab) m (a.MJ s (WY _) n) rfl (λh=>gK nofun nofun vD) (λh=>vW) ?_;unfold bG;rw[ab q,ab d,ab (σ':=[Y (.aa w.h0.length),Y (.aa r),Y (aj f.ab),Y (a_ (.aE x))]) (h':=h) (by simp[a_]),ab (σ':=[Y (.aa w.h0.length),Y (.aa r),Y (aj f.ab),Y (a_ (.aE x))]) (h':=i),ab (σ':=[Y (.aa w.h0.length),Y (.aa r),Y (aj f.ab),Y (a_ (.aE x))]) (h':=i) (by simp[a_])];rw[aF (k:=L) (h':=h) (by simp[a_]),W0 rfl];exact l
 .rw[hk]at z;have B:=z.mU;cases hz:f.ae with
  |none=>rw[hz]at B;cases B
  |some p=>
   rw[hk]at b d ⊢;rw[hz]at b;obtain⟨i,l,m,n⟩:=fX (σ:=[Y (.aa w.h0.length),Y (.aa r),Y (aj f.ab),Y (a_ .aj)]) (o:=aG) (ar:=(aa (av (aa (ag "pass") (aa cu (aa (bU (aM c.ck.cl "slip") aR) ae)))) ae)) a t (.af f.ab (Y p)) rfl (by simp[a_,bO,jH g,hz]);refine b (ms:=st.ag) (x:=.aE p) m (a.MJ s (WY _) n) rfl (λh=>gK nofun nofun vD) (λh=>vV) ?_;unfold bG;rw[ab q,ab d,ab (σ':=[Y (.aa w.h0.length),Y (.aa r),Y (aj f.ab),Y (a_ .aj)]) (h':=h) (by simp[a_]),ab (σ':=[Y (.aa w.h0.length),Y (.aa r),Y (aj f.ab),Y (a_ .aj)]) (h':=h) (by simp[a_]),ab (σ':=[Y (.aa w.h0.length),Y (.aa r),Y (aj f.ab),Y (a_ .aj)]) (h':=i)];rw[aF (k:=L) (h':=h) (by simp[a_]),W0 rfl];exact l
 .rw[hk]at b d ⊢;refine b (ms:=st.ag) (x:=.ab) a g rfl (λh=>gK nofun nofun vD) (λh=>uo) ?_;unfold bG;rw[ab q,ab d,ab (σ':=[Y (.aa w.h0.length),Y (.aa r),Y (aj f.ab),Y (a_ .ai)]) (h':=h) (by simp[a_]),ab (σ':=[Y (.aa w.h0.length),Y (.aa r),Y (aj f.ab),Y (a_ .ai)]) (h':=h) (by simp[a_]),ab (σ':=[Y (.aa w.h0.length),Y (.aa r),Y (aj f.ab),Y (a_ .ai)]) (h':=h) (by simp[a_])]
 .rw[hk]at b d ⊢;refine b (ms:=st.ag) (x:=.ae) a g rfl (λh=>gK nofun nofun vD) (λh=>vX) ?_;unfold bG;rw[ab q,ab d,ab (σ':=[Y (.aa w.h0.length),Y (.aa r),Y (aj f.ab),Y (a_ .ak)]) (h':=h) (by simp[a_]),ab (σ':=[Y (.aa w.h0.length),Y (.aa r),Y (aj f.ab),Y (a_ .ak)]) (h':=h) (by simp[a_]),ab (σ':=[Y (.aa w.h0.length),Y (.aa r),Y (aj f.ab),Y (a_ .ak)]) (h':=h) (by simp[a_])]
 .rw[hk]at b d ⊢;refine b (ms:=lF w.H st.ag x) (x:=.aa) a g rfl (λh=>DO C.ab) (λh=>jY nofun nofun nofun nofun) ?_;unfold bG;rw[ab q,ab d,ab (σ':=[Y (.aa w.h0.length),Y (.aa r),Y (aj f.ab),Y (a_ (.on x))]) (h':=h) (by simp[a_]),ab (σ':=[Y (.aa w.h0.length),Y (.aa r),Y (aj f.ab),Y (a_ (.on x))]) (h':=h) (by simp[a_]),ab (σ':=[Y (.aa w.h0.length),Y (.aa r),Y (aj f.ab),Y (a_ (.on x))]) (h':=h) (by simp[a_])]
 .rw[hk]at b d ⊢;refine b (ms:=ik st.ag x) (x:=.aa) a g rfl (λh=>A4 D) (λh=>jY nofun nofun nofun nofun) ?_;unfold bG;rw[ab q,ab d,ab (σ':=[Y (.aa w.h0.length),Y (.aa r),Y (aj f.ab),Y (a_ (.ao x))]) (h':=h) (by simp[a_]),ab (σ':=[Y (.aa w.h0.length),Y (.aa r),Y (aj f.ab),Y (a_ (.ao x))]) (h':=h) (by simp[a_]),ab (σ':=[Y (.aa w.h0.length),Y (.aa r),Y (aj f.ab),Y (a_ (.ao x))]) (h':=h) (by simp[a_])]
end D11
namespace S
open PySem L2
variable [kf:KF]
theorem B5 {a:Type}{l:List a}{x:a}:L2.iw (l++[x]) (-1)=Y x:=by
 unfold L2.iw L2.BV;have b:(1:Int)<=(l.length:Int)+1:=by lia
 have d:(-1+((l.length:Int)+1)).toNat=l.length:=by lia
 simp[b,d]
theorem acB {n:Nat}{us:List U}{x:U}{h:MH}(e:h[n]?=Y (.aa (us++[x]))):Eh (.aa n) [] h=Y (x,h.set n (.aa us)):=by
 show(b7 h (.aa n)).bind _=_;rw[cg e];show((us++[x])[(us++[x]).length-1]?).bind _=_;simp
section
variable {i:Nat}{σ:bu}{z y:String}{A B:MS}{K K':MH}{u:U}
theorem sk (e:σ[i]?=Y (Y (.ae z)))(n:z≠y):af (az (mB (aw (S.bh b_) (bZ i) (ag y))) A ai) B σ K=B σ K:=by simp[e,n]
theorem T' (e:σ[i]?=Y (Y (.ae y)))(a:A σ K=Y (.rt u,K')):af (az (mB (aw (S.bh b_) (bZ i) (ag y))) A ai) B σ K=Y (.rt u,K'):=by simp[e,a]
theorem bf {n:Nat}{f:MF}{ar:MA}{h h1 h':MH}{us:List U}(a:ar σ h=Y (us,h1))(b:us.length=n)(e:f us h1=Y (u,h')):ah n f ar σ h=Y (u,h'):=by
 rw[jW,a,WZ];dsimp only;rw[W0 b,e]
theorem cY {n:Nat}{f:MF}{ar:MA}{h h1 h':MH}{us:List U}(e:f us h1=Y (u,h'))(a:ar σ h=Y (us,h1))(b:us.length=n):ax (ah n f ar) σ h=Y (.rt u,h'):=a7 (bf a b e)
end
end S
namespace D11
open PySem L2 S RN
variable [kf:KF][c:Cw]
variable {w:Wm}{h:MH}{rs:List Nat}{st:RN.St M}
theorem NJ {r:Nat}{f:q_ M}{rest:List (q_ M)}{e:Option (n_ M)}(o:qY w.H)(D:Ch w)(t:st.ag.length<1000)(a:At w h (r::rs) st)(n:st.aa=f::rest)(p:iu w.H e.isNone f)(I:RN.jo w.H e)(C:rs.length<800000)(s:st.ah.length<900000) :
  iK w r rs st (bb w.H w.cs w.aa st f rest e) (ML [.aa w.h0.length,.aa r,aN e] h):=by
 obtain⟨g,_⟩:=a.FQ n;have F:=iY g;have b {aff:MF} {G:List U} {z:String} {N:List U} (q:iK w r rs st (bb w.H w.cs w.aa st f rest e) (aff G h)) (hz:a_ f.cz=.af (.ae z::N)) (k:∀ v l,aff G h=Y (v,l)->(zS Hn Ef pJ FE Cy pO wW pA) [Y (.aa w.h0.length),Y (.aa r),Y (aN e),Y (.ae z)] h=Y (.rt v,l)):iK w r rs st (bb w.H w.cs w.aa st f rest e) (ML [.aa w.h0.length,.aa r,aN e] h):=by
  obtain⟨P,E,Q,S,T⟩:=q;refine⟨P,E,bD ((ab (aC (u:=.ae z) ?_)).trans (k _ _ Q)),S,T⟩;rw[hz]at F;simp[F]
 cases j:f.cz with
 |aq x=>
  refine b (fG o t a n p s (.inl ⟨x,j⟩)) (by rw[j,a_]) λv l q=>?_
  repeat refine(sk rfl ∅).trans ?_
  exact cY q rfl rfl
 |aE x=>
  refine b (fG o t a n p s (.inr (.inl ⟨x,j⟩))) (by rw[j,a_]) λv l q=>?_
  repeat refine(sk rfl ∅).trans ?_
  exact cY q rfl rfl
 |aj=>
  refine b (fG o t a n p s (.inr (.inr (.inl j)))) (by rw[j,a_]) λv l q=>?_
  repeat refine(sk rfl ∅).trans ?_
  exact cY q rfl rfl
 |ai=>
  refine b (fG o t a n p s (.inr (.inr (.inr (.inl j))))) (by rw[j,a_]) λv l q=>?_
  repeat refine(sk rfl ∅).trans ?_
  exact cY q rfl rfl
 |ak=>
  refine b (fG o t a n p s (.inr (.inr (.inr (.inr (.inl j)))))) (by rw[j,a_]) λv l q=>?_
  repeat refine(sk rfl ∅).trans ?_
  exact cY q rfl rfl
 |on x=>
  refine b (fG o t a n p s (.inr (.inr (.inr (.inr (.inr (.inl ⟨x,j⟩))))))) (by rw[j,a_]) λv l q=>?_
  repeat refine(sk rfl ∅).trans ?_
  exact cY q rfl rfl
 |ao x=>
  refine b (fG o t a n p s (.inr (.inr (.inr (.inr (.inr (.inr ⟨x,j⟩))))))) (by rw[j,a_]) λv l q=>?_
  repeat refine(sk rfl ∅).trans ?_
  exact cY q rfl rfl
 |ah V=>
  refine b (Lw o D a n j p C) (by rw[j,a_]) λv l q=>?_
  repeat refine(sk rfl ∅).trans ?_
  exact T' rfl (cY q rfl rfl)
 |ag V=>
  refine b (G8 o D a n j p C) (by rw[j,a_]) λv l q=>?_
  repeat refine(sk rfl ∅).trans ?_
  exact T' rfl (cY q rfl rfl)
 |ab d=>
  refine b (B4 o D a n j p C) (by rw[j,a_]) λv l q=>?_
  repeat refine(sk rfl ∅).trans ?_
  exact T' rfl (cY q rfl rfl)
 |fz m x y=>
  refine b (Ic o a n j p C) (by rw[j,a_]) λv l q=>?_
  repeat refine(sk rfl ∅).trans ?_
  exact T' rfl (cY q rfl rfl)
 |ae m=>
  refine b (Gb o a n j p C s) (by rw[j,a_]) λv l q=>?_
  repeat refine(sk rfl ∅).trans ?_
  exact T' rfl (cY q rfl rfl)
 |af x y=>
  refine b (CF o a n j p C s) (by rw[j,a_]) λv l q=>?_
  repeat refine(sk rfl ∅).trans ?_
  exact T' rfl (cY q rfl rfl)
 |aa x W=>
  refine b (CC o a n j p I C s) (by rw[j,a_]) λv l q=>?_
  repeat refine(sk rfl ∅).trans ?_
  exact T' rfl (cY q rfl rfl)
theorem GF (ho:f9 w.H)(hs:qY w.H)(hc:Ch w){a0 a1 a2:Option U}:∀ (n m:Nat) {h:MH}{rs:List Nat}{st:RN.St M}{e:Option (n_ M)}{o:T_ M},n<m->RN.L' w.H w.cs w.aa n st e=Y o->Yw w.H w.aa st e->At w h rs st->st.ag.length<=w.H.ab.length->st.ah.length+n<900000->st.aa.length+n<800000->
  ∃ st' C h' l,lA (lq (dS (bU (aM c.ck.cl "doings") bC)) (mB (aw (d8 b_) (bU (aM c.ck.cl "halt") bC) bJ))) (af (au (ah 3 ML (aa bC (aa (ao (bU (aM c.ck.cl "doings") bC) (bU vI (aq 1))) fZ))) (b' 4))
    (az Pa (aO (fy Eh (bU (aM c.ck.cl "doings") bC) ae)) ai)) m [a0,a1,a2,Y (.aa w.h0.length),Y (aN e)] h=Y (.nx [a0,a1,a2,Y (.aa w.h0.length),Y (aN C)],h')/\At w h' l st'/\o=R_ st' C/\st'.ah.length<900000:=by
 intro n
 induction n with
 |zero=>intro m h rs st e o _ j;cases j
 |succ n ih=>
  intro m h rs st e o Wr j I a T ht hf;obtain⟨m,rfl⟩:∃ k,m=k+1:=⟨m-1,by lia⟩;have d:rs.length=st.aa.length:=a.fr.ae;have p:eS (.aa (w.h0.length+2)) h=Y (!rs.isEmpty):=by
   unfold eS;dsimp only;rw[a.dg];cases rs with
   |nil=>rfl
   |cons r rs=>simp
  unfold RN.L' at j;by_cases q:st.af.isSome=L\/st.aa=[]
  .rw[W0 q]at j
   rcases j
   refine⟨st,e,h,rs,?_,a,rfl,by lia⟩;have g:lq (dS (bU (aM c.ck.cl "doings") bC)) (mB (aw (d8 b_) (bU (aM c.ck.cl "halt") bC) bJ)) [a0,a1,a2,Y (.aa w.h0.length),Y (aN e)] h=Y (b_,h):=by
    by_cases z:st.aa=[]
    .have:rs=[]:=by rw[z]at d;exact acQ d
     subst this;simp[a.nG,p]
    .have V:rs.isEmpty=false:=by
      cases rs with
      |nil=>exact absurd (acQ d.symm) z
      |cons _ _=>rfl
     rcases q with q | q
     .obtain⟨x,j⟩:=abz.mp q;have:iA (cF st.af)=false:=by rw[j];cases x<;>rfl
      simp[a.nG,p,V,a.af,this]
     .exact absurd q z
   show(lq _ _ _ h).bind _=_;rw[g];rfl
  .rw[W5 q]at j;have W:st.af=none:=by cases z:st.af with | none=>rfl | some _=>exact absurd (.inl (by rw[z];rfl)) q
   cases b:st.aa with
   |nil=>exact absurd (.inr b) q
   |cons f rest=>
    cases rs with
    |nil=>rw[b]at d;cases d
    |cons r rs=>
     obtain⟨fo,ro⟩:=I.af W f rest b;obtain⟨Q,_⟩:=vZ (cs:=w.cs) ho I W (by rw[b];simp);have X:rs.length+1=st.aa.length:=d;have D:st.ag.length<1000:=by have:=hs.ab;lia
     obtain⟨E,Wy,g1,F,g3⟩:=NJ hs hc D a b fo I.ab ⋯ ⋯;have t:=Dc (H:=w.H) (cs:=w.cs) (most:=w.aa) (st:=st) (f:=f) (rest:=rest) (e:=e) (by rw[b];simp);have mk:=Gq (H:=w.H) (cs:=w.cs) (most:=w.aa) (st:=st) (f:=f) (rest:=rest) (e:=e) T;have g:lq (dS (bU (aM c.ck.cl "doings") bC)) (mB (aw (d8 b_) (bU (aM c.ck.cl "halt") bC) bJ)) [a0,a1,a2,Y (.aa w.h0.length),Y (aN e)] h=Y (L,h):=by
      simp[a.nG,p,a.af,W,cF]
     have G:cU h (.aa (w.h0.length+2))=b_/\tU (.aa (w.h0.length+2)) (.ab (-1)) h=Y (.aa r,h):=by
      have:=a.dg;constructor
      .simp[cU,this]
      .simp only[tU,cK,this];rw[show((r::rs).reverse.map U.aa)=rs.reverse.map U.aa++[U.aa r] by simp];simp[S.B5]
     have s1:au (ah 3 ML (aa bC (aa (ao (bU (aM c.ck.cl "doings") bC) (bU vI (aq 1))) fZ))) (b' 4) [a0,a1,a2,Y (.aa w.h0.length),Y (aN e)] h=Y (.nx [a0,a1,a2,Y (.aa w.h0.length),Y (aN (bb w.H w.cs w.aa st f rest e).2)],E):=by
      refine aC (u:=aN (bb w.H w.cs w.aa st f rest e).2) ?_;simp[a.nG,G.1,G.2,g1]
     have N:∀ s,bb w.H w.cs w.aa st f rest e=(s,O)->RN.E' w.H w.cs w.aa st e=(s,O):=λs z=>by unfold RN.E';rw[b];dsimp only;rw[z]
     have P:∀ s x,bb w.H w.cs w.aa st f rest e=(s,Y x)->RN.E' w.H w.cs w.aa st e=({s with aa:=rest},Y x):=λs x z=>by unfold RN.E';rw[b];dsimp only;rw[z]
     generalize bb w.H w.cs w.aa st f rest e=go at *;obtain⟨WA,e1⟩:=go;cases e1 with
     |none=>
      have v:=N _ rfl;rw[v]at j Q;obtain⟨st',C,h',l,Z,k2⟩:=ih m ⋯ j Q F mk (by have:=t.1;dsimp only at this ⊢;lia) (by have:=t.2;dsimp only at this ⊢;lia);refine⟨st',C,h',l,?_,k2⟩;rw[dv g (f:=.nx [a0,a1,a2,Y (.aa w.h0.length),Y .aQ]) (h2:=E)]
      .exact Z
      .rw[ab s1];simp[aN]
     |some x=>
      have v:=P _ _ rfl;rw[v]at j Q;obtain⟨z1,z2⟩:=g3 nofun;subst z1;have g4:=F.aw (f:=f) (rest:=rest) (z2.trans b);obtain⟨st',C,h',l,Z,k2⟩:=ih m ⋯ j Q g4 mk (by have:=t.1;dsimp only at this ⊢;lia) (by have:=X;dsimp only;rw[b]at this hf;simp at this hf;lia);refine⟨st',C,h',l,?_,k2⟩;rw[dv g (f:=.nx [a0,a1,a2,Y (.aa w.h0.length),Y (aN (Y x))]) (h2:=E.set (w.h0.length+2) (.aa (rs.reverse.map .aa)))]
      .exact Z
      .rw[ab s1];have hp:=acB (us:=rs.reverse.map U.aa) (x:=.aa r) (show E[w.h0.length+2]?=_ by rw[F.dg];simp);have hl:=cg (show E[w.h0.length+2]?=_ from F.dg);have hn:iA (aN (Y x))=false:=by cases x<;>rfl
       simp[hn,F.nG,hl,hp]
end D11
namespace D11
open PySem L2 S RN
variable [kf:KF][c:Cw]
abbrev Yu:MF:=IV c.ck c.cw ML b4 (eO c.ck) sj j0
theorem Gr {H:aK M}{uc:U}{most:Nat}{h:MH}:eO c.ck [.aa h.length,aJ H,uc,.ab most] (h++[.ab c.cw []])=Y (.aQ,h++[.ab c.cw (wf H uc most h.length ⟨[],[],0,0,[],O⟩),.aa [],.aa []]):=by
 have a:=c.fw "house" nofun;have b:=c.fw "choices" nofun;have d:=c.fw "most" nofun;have e:=c.fw "used" nofun;have f:=c.fw "many" nofun;have g:=c.fw "marks" nofun;have i:=c.fw "trail" nofun;have j:=c.fw "doings" nofun;have k:=c.fw "halt" nofun;simp[eO,cJ,oe,aa9,a,b,d,e,f,g,i,j,k,dJ,wf,cF]
theorem zd {w:Wm}:At w (w.h0++[.ab c.cw (wf w.H w.uc w.aa w.h0.length ⟨[],[],0,0,[],O⟩),.aa [],.aa []]) [] ⟨[],[],0,0,[],O⟩:=by
 refine⟨by simp,by simp,by simp,.nil,λn l=>W3 l,Xl _⟩
theorem aaa {h0 h:MH}(l:h0.length<=h.length)(e:∀ n,n<h0.length->h[n]?=h0[n]?):h=h0++h.drop h0.length:=by
 have:h.take h0.length=h0:=by
  apply aal;intro n;by_cases q:n<h0.length
  .rw[aaq q,e n q]
  .rw[aat (by rw[X1];lia),aat ⋯]
 conv=>lhs;rw[<-abw h0.length h,this]
def Iq (w:Wm)(a:T_ M):Prop:=∃ b,Yu [aJ w.H,w.uc,.ab w.aa] w.h0=Y (.af [.aa (w.h0.length+1),bw a.ae,.ab a.aa],b)/\b[w.h0.length+1]?=Y (.aa (a.ab.map bO))/\∀ n,n<w.h0.length->b[n]?=w.h0[n]?
theorem Lx {w:Wm}(E:f9 w.H)(B:qY w.H)(K:Ch w)(hm:w.aa<100000){res:T_ M}(e:RN.run w.H w.cs w.aa=Y res):Iq w res:=by
 cases C:w.H.aa with
 |nil=>exact absurd C E.ne
 |cons x l=>
  obtain⟨r,d⟩:=x;have F:w.H.aa.lookup r=Y d:=by rw[C];simp
  have t:RN.W' w.H w.aa=bY w.H w.aa ⟨[],[],0,0,[],O⟩ r:=by unfold RN.W';rw[C]
  obtain⟨N,P,Q,G⟩:=zK B (zd (w:=w)) nofun F;rw[<-t]at G;obtain⟨I,S⟩:=sx (most:=w.aa) E;have v:(RN.W' w.H w.aa).ah.length=0/\(RN.W' w.H w.aa).ag.length=0:=by
   rw[t];unfold bY J_;rw[F];dsimp only;split<;>exact⟨rfl,rfl⟩
  obtain⟨a,q,h',T,V,j,s,W⟩:=GF E B K (a0:=Y (aJ w.H)) (a1:=Y w.uc) (a2:=Y (.ab w.aa)) (2*w.aa+5) FU (uC ⋯) e I G (by rw[v.2];lia) (by rw[v.1];lia) ⋯;have X:au (rR c.cw 4 (eO c.ck) lV) (b' 3) [Y (aJ w.H),Y w.uc,Y (.ab w.aa),O,O] w.h0=Y (.nx [Y (aJ w.H),Y w.uc,Y (.ab w.aa),Y (.aa w.h0.length),O],w.h0++[.ab c.cw (wf w.H w.uc w.aa w.h0.length ⟨[],[],0,0,[],O⟩),.aa [],.aa []]):=by
   refine aC (u:=.aa w.h0.length) ?_;have:=Gr (H:=w.H) (uc:=w.uc) (most:=w.aa) (h:=w.h0);simp[this]
  have Z:aO (bX c.cw "begin_room" 2 sj bC (aa (ao (ao (ao aG (aq 2)) (aq 0)) (aq 0)) ae)) [Y (aJ w.H),Y w.uc,Y (.ab w.aa),Y (.aa w.h0.length),O] (w.h0++[.ab c.cw (wf w.H w.uc w.aa w.h0.length ⟨[],[],0,0,[],O⟩),.aa [],.aa []])=Y (.nx [Y (aJ w.H),Y w.uc,Y (.ab w.aa),Y (.aa w.h0.length),O],N):=by
   refine cQ (u:=.aQ) ?_;rw[hJ (zd (w:=w)) (k:=2) (us:=[.ae r]) (h':=w.h0++[.ab c.cw (wf w.H w.uc w.aa w.h0.length ⟨[],[],0,0,[],O⟩),.aa [],.aa []]) rfl nofun (by simp[aJ,C]) rfl];exact Q
  have i (u:U) (A:MH) (z:(af (az (mB (aw (d8 L) (bU (aM c.ck.cl "halt") bC) bJ)) (ax (av (aa (bU (aM c.ck.cl "trail") bC) (aa (bU (aM c.ck.cl "halt") bC) (aa (bU (aM c.ck.cl "many") bC) ae))))) ai)
  (af (az (dS (ah 1 b4 fZ)) (af (aO (bX c.cw "tell" 2 j0 bC (aa (av (aa (ag "end") fZ)) ae)))
  (ax (av (aa (bU (aM c.ck.cl "trail") bC) (aa (av (aa (ag "slip") fZ)) (aa (bU (aM c.ck.cl "many") bC) ae)))))) ai)
  (ax (av (aa (bU (aM c.ck.cl "trail") bC) (aa (av (aa (ag "done") ae)) (aa (bU (aM c.ck.cl "many") bC) ae))))))) [Y (aJ w.H),Y w.uc,Y (.ab w.aa),Y (.aa w.h0.length),Y (aN q)] h'=Y (.rt u,A)):cJ 5 (yL c.ck c.cw ML b4 (eO c.ck) sj j0) [aJ w.H,w.uc,.ab w.aa] w.h0=Y (u,A):=by
   refine bD ?_;show yL _ _ _ _ _ _ _ [Y (aJ w.H),Y w.uc,Y (.ab w.aa),O,O] w.h0=_;unfold yL;rw[ab X,ab Z,ab (aC (u:=.aQ) rfl)];rw[ab (σ':=[Y (aJ w.H),Y w.uc,Y (.ab w.aa),Y (.aa w.h0.length),Y (aN q)]) (h':=h')]
   .exact z
   .exact V
  cases n:a.af with
  |some x=>
   have f:res=⟨a.ah,x,a.ae⟩:=by rw[s];unfold RN.R_;rw[n]
   rw[f];have hn:iA (bw x)=false:=by cases x<;>rfl
   have b:=i (.af [.aa (w.h0.length+1),bw x,.ab a.ae]) h' (by simp[j.af,n,cF,hn,j.ae,j.ag]);exact⟨h',b,j.tr,j.aa⟩
  |none=>
   have g (ne:∀ p,q≠Y (.aE p)):Iq w ⟨a.ah,.ab,a.ae⟩:=by
    have B:b4 [aN q] h'=Y (.bl b_,h'):=by
     cases q with
     |none=>exact EW
     |some y=>cases y with
      |aE p=>exact absurd rfl (ne p)
      |_=>exact EX
    have b:=i (.af [.aa (w.h0.length+1),bw .ab,.ab a.ae]) h' (by simp[j.af,n,cF,j.ae,j.ag,B,eS,bw]);exact⟨h',b,j.tr,j.aa⟩
   cases m:q with
   |none=>
    have f:res=⟨a.ah,.ab,a.ae⟩:=by rw[s,m];unfold RN.R_;rw[n]
    rw[f];exact g (λp=>by rw[m];simp)
   |some y=>
    cases y with
    |aE p=>
     have f:res=⟨a.ah++[.ab p],.aE p,a.ae⟩:=by rw[s,m];unfold RN.R_;rw[n]
     rw[f];rw[m]at i;obtain⟨A,q1,D,q3⟩:=fX (σ:=[Y (aJ w.H),Y w.uc,Y (.ab w.aa),Y (.aa w.h0.length),Y (aj p)]) (o:=bC) (ar:=(aa (av (aa (ag "end") fZ)) ae)) j W (.ab p) rfl (by simp[bO]);have b:=i (.af [.aa (w.h0.length+1),bw (.aE p),.ab a.ae]) A (by
      rw[ab (σ':=[Y (aJ w.H),Y w.uc,Y (.ab w.aa),Y (.aa w.h0.length),Y (aj p)]) (h':=h') (by simp[j.af,n,cF,aN,aH])];refine cM ?_;rw[aF (k:=L) (h':=h') (by simp[eS]),W0 rfl,ab q1];refine a7 ?_;simp[D.ae,D.ag,bw,M_])
     exact⟨A,b,D.tr,D.aa⟩
    |aa=>
     have f:res=⟨a.ah,.ab,a.ae⟩:=by rw[s,m];unfold RN.R_;rw[n]
     rw[f];exact g (λp=>by rw[m];simp)
    |ab=>
     have f:res=⟨a.ah,.ab,a.ae⟩:=by rw[s,m];unfold RN.R_;rw[n]
     rw[f];exact g (λp=>by rw[m];simp)
    |ae=>
     have f:res=⟨a.ah,.ab,a.ae⟩:=by rw[s,m];unfold RN.R_;rw[n]
     rw[f];exact g (λp=>by rw[m];simp)
end D11
namespace KM
variable {α:Type}[DecidableEq α]
theorem Ba {l:List α}(h:l.Nodup):l.reverse.Nodup:=by
 unfold acL at *;rw[List.pairwise_reverse];exact h.imp λq e=>q e.symm
end KM
namespace S
open PySem L2
variable [kf:KF]
noncomputable def T (hb:MH)(t:Nat)(x:Int)(g:MH):MH:=hb.set t (.aa [.ab x])++g
section
variable {hb g g':MH}{t:Nat}{x y:Int}
theorem j8 (h:hb[t]?=Y (.aa [.ab x])):hb=T hb t x []:=by
 unfold T;rw[XF];apply aal;intro n;by_cases e:t=n
 .subst e;rw[Ya h];exact h
 .rw[W9 e]
@[simp] theorem q0:(T hb t x g).length=hb.length+g.length:=by simp[T]
@[simp] theorem jx:T hb t x g++g'=T hb t x (g++g'):=by simp[T]
theorem Pu (a:t<hb.length):(T hb t x g)[t]?=Y (.aa [.ab x]):=by
 unfold T;rw[W3 (by simpa using a),XC a]
theorem Ir {n:Nat}(a:n<hb.length)(b:n≠t):(T hb t x g)[n]?=hb[n]?:=by
 unfold T;rw[W3 (by simpa using a),W9 (λz=>b z.symm)]
@[simp] theorem gG {i:Nat}:(T hb t x g)[hb.length+i]?=g[i]?:=by
 unfold T;rw[Xz nofun];simp
@[simp] theorem iS:(T hb t x g)[hb.length]?=g[0]?:=gG (i:=0)
theorem sT (a:t<hb.length):(T hb t x g).set t (.aa [.ab y])=T hb t y g:=by
 unfold T;rw[ac1 _ _ (by simpa using a),abv]
@[simp] theorem ml {i:Nat}{o:MO}:(T hb t x g).set (hb.length+i) o=T hb t x (g.set i o):=by
 unfold T;rw[ac2 _ _ nofun];simp
@[simp] theorem Qr {o:MO}:(T hb t x g).set hb.length o=T hb t x (g.set 0 o):=ml (i:=0)
theorem Jp {n:Nat}{o:MO}(a:n<hb.length)(b:n≠t):(T hb t x g).set n o=T (hb.set n o) t x g:=by
 unfold T;rw[ac1 _ _ (by simpa using a),List.set_comm _ _ b]
theorem za {N:Nat}{m:MS}{us:List U}{u a:U}(e:cJ N m us hb=Y (u,T hb t x g))(f:l0 hb.length (T hb t x g) u a):dw N m us hb=Y (a,hb.set t (.aa [.ab x])):=
 Gm e (.aa .ae .nil) f
theorem C0 {N:Nat}{m:MS}{us:List U}{u a:U}{n:Nat}{o:MO}(e:cJ N m us hb=Y (u,T (hb.set n o) t x g))(c:cE hb.length (ky o))(f:l0 hb.length (T (hb.set n o) t x g) u a):dw N m us hb=Y (a,(hb.set n o).set t (.aa [.ab x])):=by
 unfold dw;rw[e];show FR hb u (T (hb.set n o) t x g)=_;have b:((hb.set n o).set t (.aa [.ab x])).length=hb.length:=by rw[Y5,Y5]
 have d:l9 hb (T (hb.set n o) t x g):=⟨by simp,λi l=>by
  unfold T;rw[W3 (by rw[b];exact l)];by_cases z:t=i
  .subst z;exact .inr ⟨.aa [.ab x],XC (by simpa using l),.aa .ae .nil⟩
  .rw[W9 z];by_cases y:n=i
   .subst y;exact .inr ⟨o,XC l,c⟩
   .exact .inl (W9 y)⟩
 rw[tQ f d];unfold T;rw[<-b,mZ]
end
theorem pP {it:pF}{g:MG}{a:ME}{n:Nat}{h1:MH}{σ0:bu}{us:List U}{G:U->bu}{f:U->U}(s:n=h1.length)(d:∀ (i:Nat) (H:MH),it i H=Y us[i]?)(D:us.length<1000000)
  (B:∀ u∈us,∀ σ,(σ=σ0\/∃ v∈us,σ=G v)->∀ H,g u σ H=Y (G u,H))
  (C:∀ u∈us,∀ l k,∃ w,a (G u) (h1++.aa l::k)=Y (f u,h1++.aa l::w)):∀ (j m i:Nat) (σ:bu) (b:List U) (k:MH),i+j=us.length->j<m->(σ=σ0\/∃ v∈us,σ=G v)->b=(us.take i).map f->
   ∃ w,mz it g dB a n m i σ (h1++.aa b::k)=Y (h1++.aa (us.map f)::w)
 |0,m+1,i,σ,b,k,e,_,q,c=>by
  have e':i=us.length:=by lia
  have z:us[i]?=none:=by rw[e'];simp
  refine⟨k,?_⟩;show((it i _).bind _)=_;rw[d,z];show Y (h1++MO.aa b::k)=_;rw[c,e',Y7]
 |j+1,m+1,i,σ,b,k,e,N,q,c=>by
  have A:i<us.length:=by lia
  have z:us[i]?=Y us[i]:=W6 A;have h:us[i]∈us:=XY A;have E:us.take (i+1)=us.take i++[us[i]]:=ada A;obtain⟨k1,F⟩:=C _ h b k;obtain⟨I,K⟩:=pP s d D B C j m (i+1) (G us[i]) (b++[f us[i]]) k1 ⋯ ⋯ (.inr ⟨_,h,rfl⟩) (by rw[E,XS,<-c];rfl);refine⟨I,?_⟩;show((it i _).bind _)=_;rw[d,z];show((g us[i] σ _).bind _)=_;rw[B _ h σ q];show(a (G us[i]) _).bind _=_;rw[F];show(match(h1++MO.aa b::k1)[n]? with | some (.aa b)=>_ | _=>O)=_;have o:(h1++MO.aa b::k1)[n]?=Y (.aa b):=by rw[s];simp
  have p:b.length<sizeLine:=by
   have h1:b.length<=us.length:=by
    rw[c,Xw];exact ac5 _ _
   have P:1000000<=sizeLine:=by rw[XJ];decide
   lia
  rw[o];show(if b.length<p' then _ else O)=_;rw[W0 p];have r:(h1++MO.aa b::k1).set n (.aa (b++[f us[i]]))=h1++MO.aa (b++[f us[i]])::k1:=by rw[s];simp
  rw[r];exact K
theorem Aq {fr:List (Option Nat)}{mi:MI}{a:ME}{σ:bu}{h h1:MH}{it:pF}{us:List U}(f:U->U)(e:mi σ h=Y (it,h1))(b:∀ (i:Nat) (H:MH),it i H=Y us[i]?)(d:us.length<1000000)
  (j:∀ u∈us,∀ l k,∃ m,a (Y u::fr.map (fW σ)) (h1++.aa l::k)=Y (f u,h1++.aa l::m)):∃ k,di (O::fr) mi (b' 0) dB a σ h=Y (.aa h1.length,h1++.aa (us.map f)::k):=by
 obtain⟨k,n⟩:=pP (g:=b' 0) (G:=λu=>Y u::fr.map (fW σ)) (σ0:=(O::fr).map (fW σ)) rfl b d (λu _ o c H=>by rcases c with rfl | ⟨v,_,rfl⟩<;>rfl) j us.length FU 0 _ [] [] ⋯ (uC ⋯) (.inl rfl) rfl;refine⟨k,?_⟩;unfold di;rw[e];show(mz it (b' 0) dB a h1.length FU 0 _ (h1++[.aa []])).bind _=_;rw[n];rfl
theorem lQ {n:Nat}(i:Nat)(H:MH):Q_ 0 n i H=Y ((C_ n).map λk:Nat=>U.ab (k:Int))[i]?:=by
 unfold Q_;by_cases q:i<n
 .rw[W0 q,Xd,aap q];simp
 .rw[W5 q,aat (by simp;lia)]
@[simp] theorem RQ {a:MA}{σ:bu}{h:MH}:dz a σ h=(a σ h).bind λp=>match p.1 with | [.ab j]=>if -(2 ^ 62)<=j/\j<2 ^ 62 then Y (Q_ 0 j.toNat,p.2) else O | _=>none:=rfl
theorem eF {n:Nat}{a:MA}{σ:bu}{h h':MH}(e:a σ h=Y ([.ab (n:Int)],h'))(b:n<1000000):dz a σ h=Y (Q_ 0 n,h'):=by
 unfold dz;rw[e,WZ];dsimp only;rw[W0 ⟨by lia,by lia⟩,Zn]
end S
namespace D11
open PySem L2 S RN
variable [kf:KF]
theorem md {x m:Int}(h:0<m):0<=x%m/\x%m<m:=⟨ZI x ⋯,ZH x h⟩
theorem aa6 {h:MH}{t:Nat}{x m:Int}(b:h[t]?=Y (.aa [.ab x]))(c:0<m)(a:m<1073741824) :
  ak [.aa t,.ab m] h=Y (.ab (x%m),h.set t (.aa [.ab (x/m)])):=by
 simp[ak,cJ,oh,af,au,aw,ao,bZ,mC,cU,tU,cK,iw,BV,gX,pX,ii,b',aW,yj,b7,ax,b,c,a]
theorem dI {hb g:MH}{t:Nat}{x m:Int}(b:t<hb.length)(c:0<m)(a:m<1073741824):ak [.aa t,.ab m] (T hb t x g)=Y (.ab (x%m),T hb t (x/m) g):=by
 rw[aa6 (Pu b) c a,sT b]
theorem Ge {h:MH}{ns:List Int}{k:Nat}:dG [.dM (ns.map .ab),.ab k] h=Y (.ab (ns.getD k 0),h):=by
 by_cases a:k<ns.length
 .have Dg:(k:Int)<(ns.length:Int):=by lia
  simp[dG,cJ,ic,Dg,tU,cK,S.cv,a]
 .have Dg:¬ (k:Int)<(ns.length:Int):=by lia
  have b:ns[k]?.getD 0=0:=by rw[XA.mpr ⋯];rfl
  simp[dG,cJ,ic,Dg,b]
theorem HP {h:MH}{ns:List Int}{k:Nat}(w:k<1000):∃ x,fD dG [.dM (ns.map .ab),.ab k] h=Y (.aa h.length,h++[.aa [.ab x]]):=by
 generalize j:ns.getD k 0=c;have e:=Ge (h:=h) (ns:=ns) (k:=k);rw[j]at e;by_cases f:c=0
 .exact⟨0,by simp[fD,cJ,iW,e,f]⟩
 .by_cases i:1000000000000000000<=c
  .exact⟨c-1000000000000000000,by simp[fD,cJ,iW,e,f,ue,ii,i]⟩
  .have l:=md (x:=c*48271+69621*(k:Int)+11) (m:=2305843009213693951) ∅;generalize n:(c*48271+69621*(k:Int)+11)%2305843009213693951=a at l;have o:=md (x:=a*a+40692*(k:Int)+a) (m:=2305843009213693951) ∅;generalize p:(a*a+40692*(k:Int)+a)%2305843009213693951=d at o;have q:=md (x:=d*d+a) (m:=2305843009213693951) ∅;generalize r:(d*d+a)%2305843009213693951=b at q;have s:(-18446744073709551616<a/\a<18446744073709551616):=⟨by lia,by lia⟩;have u:(-18446744073709551616<d/\d<18446744073709551616):=⟨by lia,by lia⟩;have v:(-18446744073709551616<b/\b<18446744073709551616):=⟨by lia,by lia⟩;exact⟨((a*2305843009213693951+d)*2305843009213693951+b)*2305843009213693951+(b*b+d)%2305843009213693951,by
    simp[fD,cJ,iW,e,f,ue,ii,i,nV,gX,s,u,v,n,p,r]⟩
end D11
namespace S
open PySem L2
variable [kf:KF]
@[simp] theorem Lj {a b:M}{h:MH}:aI (.ae a) (.ae b) h=if a.length+b.length<=p' then Y (.ae (a++b),h) else none:=rfl
@[simp] theorem Ey {h:MH}{z:M}:cU h (.ae z)=false:=rfl
theorem Oz {h:MH}{z:M}{i:Int}:tU (.ae z) (.ab i) h=if z.length<=p' then(L2.iw z.cps.toList i).bind λc=>Y (.ae ⟨#[c]⟩,h) else none:=rfl
theorem Ja {h:MH}{z:M}{a b:Option Int}:BX (.ae z) a b h=if z.length<=p' then Y (.ae (WW z a b),h) else none:=rfl
@[simp] theorem TU {a b:Int}{h:MH}:nV (.ab a) (.ab b) h=(if (-(2 ^ 64)<a/\a<2 ^ 64)\/(-(2 ^ 64)<b/\b<2 ^ 64) then Y (.ab (a*b)) else O).bind λu=>Y (u,h):=rfl
@[simp] theorem Lv {a:ME}{s:sN}{σ:bu}{h:MH}:zt a s σ h=(a σ h).bind λp=>(s σ p.2).bind λk=>zV p.1 k.1 k.2:=rfl
theorem fU {n:Nat}{us:List U}{h:MH}(e:h[n]?=Y (.aa us)):dy h (.aa n)=Y us:=by unfold dy;dsimp only;rw[e]
theorem eH {n:Nat}{us:List U}{i:Int}{h:MH}(e:h[n]?=Y (.aa us)):cU h (.aa n)=b_/\tU (.aa n) (.ab i) h=(L2.iw us i).bind λu=>Y (u,h):=by
 constructor
 .simp[cU,e]
 .simp[tU,cK,e]
end S
namespace D11
open PySem L2 S RN
variable [kf:KF]
noncomputable def j6 (s:M):Bool:=j' (1<=s.length)&&j' (s.length<=8)&&s.cps.toList.all λc=>j' (97<=c)&&j' (c<=122)
noncomputable def gs:Str:="abcdefghijklmnopqrstuvwxyz"
noncomputable def A3 (t:Int):Str:=⟨#[97+t.toNat]⟩
def w0 (t:Int)(k:Nat):Str:=WW (A3 t++("kovistu":M)) O (Y ((k:Int)+1))
noncomputable def Yl:List Str:=["say","slip","pass","of","with","else","kinds","marks","front","pick","row","done","end"]
def w1 (t:Int)(k:Nat):Str:=Yl.getD ((t+(k:Int))%13).toNat ""
def w2 (t a:Int)(k:Nat):Str:=WW ("melon":M) O (Y a)++A3 ((t+(k:Int))%26)++Txt.slice ("melon":M) (Y (a+1)) O
theorem VN:∀ t∈C_ 26,((C_ 8).map (w0 (t:Int))).Nodup:=by decide +kernel
theorem VO:∀ t∈C_ 26,((C_ 8).map (w1 (t:Int))).Nodup:=by decide +kernel
theorem VP:∀ t∈C_ 26,∀ a∈C_ 5,((C_ 8).map (w2 (t:Int) (a:Int))).Nodup:=by decide +kernel
theorem V1:∀ t∈C_ 26,∀ k∈C_ 8,j6 (w0 (t:Int) k)=true:=by decide +kernel
theorem V2:∀ t∈C_ 26,∀ k∈C_ 8,j6 (w1 (t:Int) k)=true:=by decide +kernel
theorem V3:∀ t∈C_ 26,∀ a∈C_ 5,∀ k∈C_ 8,j6 (w2 (t:Int) (a:Int) k)=true:=by decide +kernel
theorem Kg:∀ t∈C_ 26,iw gs.cps.toList (t:Int)=Y (97+(t:Int).toNat):=by decide +kernel
theorem len0:∀ t∈C_ 26,(A3 (t:Int)++("kovistu":M)).length<=8/\(A3 (t:Int)).length+("kovistu":M).length<=8:=by decide +kernel
theorem Rj:∀ a∈C_ 5,(WW ("melon":M) O (Y (a:Int))).length<=5/\(WW ("melon":M) (Y ((a:Int)+1)) O).length<=5:=by decide +kernel
theorem NX:∀ a∈C_ 5,∀ t∈C_ 26,(WW ("melon":M) O (Y (a:Int))++A3 (t:Int)).length<=6:=by decide +kernel
theorem GH (t:Int):(A3 t).length=1:=rfl
theorem Y2 {x:Int}{n:Nat}(a:0<=x)(h1:x<n):x.toNat∈C_ n/\((x.toNat:Nat):Int)=x:=⟨YM.mpr ⋯,by lia⟩
def cP (m:Nat)(ns:List M):Prop:=ns.length=m/\ns.Nodup/\∀ n∈ns,j6 n=L
theorem NF {F:Nat->M}{m:Nat}(a:m<=8)(h:((C_ 8).map F).Nodup)(g:∀ k∈C_ 8,j6 (F k)=L):cP m ((C_ m).map F):=by
 refine⟨by simp,h.sublist (aeZ F (List.range_sublist.mpr a)),λn b=>?_⟩;obtain⟨k,c,rfl⟩:=Xp.mp b;exact g k (YM.mpr (Xr (YM.mp c) a))
theorem cP.aa {m:Nat}{ns:List M}(h:cP m ns)(c:Int):cP m (L2.O' ns c):=by
 refine⟨by rw[lJ];exact h.1,?_,λn a=>h.2.2 n ?_⟩
 .unfold L2.O';split
  .exact h.2.1
  .exact KM.Ba h.2.1
 .unfold L2.O' at a;split at a
  .exact a
  .exact List.mem_reverse.mp a
theorem yz (ns:List M)(c:Int):L2.O' (ns.map U.ae) c=(L2.O' ns c).map U.ae:=by
 unfold L2.O';split
 .rfl
 .rw[abu]
theorem vA:gs.length<=26:=by decide +kernel
theorem rO {h:MH}{t:Int}(a:0<=t)(h1:t<26):tU (.ae gs) (.ab t) h=Y (.ae (A3 t),h):=by
 obtain⟨b,c⟩:=Y2 (n:=26) a h1;have e:=Kg _ b;rw[c]at e;have d:gs.length<=sizeLine:=by rw[XJ];exact Xi vA ∅
 rw[Oz,W0 d,e];rfl
theorem FG (i:Int)(b:0<=i)(h1:i<13):L2.iw (Yl.map U.ae) i=Y (.ae (Yl.getD i.toNat "")):=by
 obtain⟨n,rfl⟩:∃ n:Nat,i=n:=⟨i.toNat,by lia⟩;have a:n<Yl.length:=by show n<13;lia
 rw[S.cv,Xd,abq,Zn,W6 a];rfl
theorem sz {n:Nat}(h:n<=1000):n<=sizeLine:=Xi h (by rw[XJ];decide)
theorem A7 {h g:MH}{t m i:Nat}{σ:bu}{ns:List M}{y a:Int}(k:0<=a/\a<2)(b:σ[7]?=Y (Y (.aa (h.length+i))))(c:σ[5]?=Y (Y (.ab (1-2*a))))(d:g[i]?=Y (.aa (ns.map .ae)))(e:cP m ns) :
  ∃ MW,ax Il σ (T h t y g)=Y (.rt (.aa (h.length+g.length)),T h t y (g++[.aa (MW.map .ae)]))/\cP m MW:=by
 have f:(1-2*a=1\/1-2*a=-1):=by lia
 have j:dy (T h t y g) (.aa (h.length+i))=Y (ns.map .ae):=fU (by rw[gG];exact d);refine⟨L2.O' ns (1-2*a),?_,e.aa _⟩;simp only[OD,Lv,c8,b];simp only[WZ,ye,c8,c,zV,W0 f,j,yz,jx,q0]
abbrev sg (t m:Nat)(w u b:Int)(a c d e:Option U):bu:=[Y (.aa t),Y (.ab m),Y (.ae gs),Y (.ab w),Y (.ab u),Y (.ab b),a,c,d,e]
theorem GN {h:MH}{t m:Nat}{turn b y:Int}(c:0<=turn/\turn<26)(j:m<=8):af (au (aw aI yC (ag "kovistu")) (b' 6))
  (au (di [O,Y 6] oY (b' 0) dB (lS aR bo (b8 (aw aI aG (aq 1))))) (b' 7)) (sg t m 0 turn b O O O O) (T h t y []) =
   Y (.nx (sg t m 0 turn b (Y (.ae (A3 turn++"kovistu"))) (Y (.aa h.length)) O O),T h t y [.aa (((C_ m).map (w0 turn)).map .ae)]):=by
 obtain⟨d,e⟩:=Y2 (n:=26) c.1 c.2;have f:=len0 _ d;rw[e]at f;have g:=YZ (fr:=[Y 6]) (mi:=dz ni) (a:=lS aR bo (b8 (aw aI aG (aq 1)))) (σ:=sg t m 0 turn b (Y (.ae (A3 turn++"kovistu"))) O O O) (h:=T h t y []) (h1:=T h t y []) (it:=Q_ 0 m) (us:=(C_ m).map λk:Nat=>U.ab (k:Int))
  (λu=>match u with | .ab k=>.ae (w0 turn k.toNat) | _=>.aQ) (eF rfl ⋯) lQ (by simp;lia) (λu i l=>by
   obtain⟨k,_,rfl⟩:=Xp.mp i;simp[fW,Ja,sz (Xi f.1 ∅),w0])
 rw[ab (σ':=sg t m 0 turn b (Y (.ae (A3 turn++"kovistu"))) O O O) (h':=T h t y [])]
 .rw[aC g];simp[X7,abi]
 .simp[rO c.1 c.2,sz (Xi f.2 ∅)]
noncomputable def gz:List Str:=["say","slip","pass","of","with","else","kinds","marks","front","pick","row"]
theorem NB {H:MH}{n j:Nat}{turn:Int}(e:H[n]?=Y (.aa (gz.map .ae))):ao (aw aI cu (bj (aa (ag "done") (aa (ag "end") ae)))) (aw gX FI (aq 13)) [Y (.ab j),Y (.ab turn),Y (.aa n)] H=Y (.ae (w1 turn j),H++[.aa [.ae "done",.ae "end"]]++[.aa (Yl.map .ae)]):=by
 have q:=md (x:=turn+(j:Int)) (m:=13) ∅;have c:=qu (a:=.aa n) (b:=.aa H.length) (us:=gz.map .ae) (ws:=[.ae "done",.ae "end"]) (h:=H++[.aa [.ae "done",.ae "end"]]) (fU (by rw[W3 (bA e)];exact e)) (fU nofun) ∅ (λ_=>by simp) (λ_=>by simp) (λ_=>by simp);have f:gz.map U.ae++[.ae "done",.ae "end"]=Yl.map U.ae:=rfl;rw[f]at c;obtain⟨g,d⟩:=eH (i:=(turn+(j:Int))%13) (show(H++[MO.aa [.ae "done",.ae "end"]]++[MO.aa (Yl.map .ae)])[(H++[MO.aa [.ae "done",.ae "end"]]).length]?=Y (.aa (Yl.map .ae)) by simp);rw[FG _ q.1 q.2]at d;simp only[nW,mX,c8];simp only[Xm,Xg,WZ,vR,bI,BW,eP,Xa,Xy,W0 (sz (show 0+1+1<=1000 by decide)),c,mX,c8,yd,sf (show(0:Int)<13 by decide),g,W5 Xb,d];rfl
theorem GO {h:MH}{t m:Nat}{turn b y:Int}(e:0<=turn/\turn<26)(f:m<=8):∃ k,af (au (bj (aa (ag "say") (aa (ag "slip") (aa (ag "pass") (aa (ag "of") (aa (ag "with") (aa (ag "else") (aa (ag "kinds") (aa (ag "marks") (aa (ag "front") (aa (ag "pick") (aa (ag "row") ae)))))))))))) (b' 8))
  (au (di [O,Y 4,Y 8] oY (b' 0) dB (ao (aw aI cu (bj (aa (ag "done") (aa (ag "end") ae)))) (aw gX FI (aq 13)))) (b' 7)) (sg t m 1 turn b O O O O) (T h t y []) =
   Y (.nx (sg t m 1 turn b O (Y (.aa (h.length+1))) (Y (.aa h.length)) O),T h t y (.aa (gz.map .ae)::.aa (((C_ m).map (w1 turn)).map .ae)::k)):=by
 obtain⟨k,c⟩:=Aq (fr:=[Y 4,Y 8]) (mi:=dz ni) (a:=ao (aw aI cu (bj (aa (ag "done") (aa (ag "end") ae)))) (aw gX FI (aq 13))) (σ:=sg t m 1 turn b O O (Y (.aa h.length)) O) (h:=T h t y [.aa (gz.map .ae)]) (h1:=T h t y [.aa (gz.map .ae)]) (it:=Q_ 0 m) (us:=(C_ m).map λk:Nat=>U.ab (k:Int))
  (λu=>match u with | .ab k=>.ae (w1 turn k.toNat) | _=>.aQ) (eF rfl ⋯) lQ (by simp;lia) (λu d l k=>by
   obtain⟨j,_,rfl⟩:=Xp.mp d;refine⟨k++[.aa [.ae "done",.ae "end"]]++[.aa (Yl.map .ae)],?_⟩;rw[show(Y (U.ab (j:Int))::List.map (fW (sg t m 1 turn b O O (Y (.aa h.length)) O)) [Y 4,Y 8])=[Y (.ab (j:Int)),Y (.ab turn),Y (.aa h.length)] from rfl,NB (by rw[jx,iS];rfl)];simp)
 refine⟨k,?_⟩;rw[ab (σ':=sg t m 1 turn b O O (Y (.aa h.length)) O) (h':=T h t y [.aa (gz.map .ae)])]
 .rw[aC c];simp[X7,abi]
 .simp[gz]
theorem GP {h:MH}{t m:Nat}{c turn b y:Int}(o:t<h.length)(A:0<=turn/\turn<26)(B:m<=8):af (au (ah 2 ak (aa aG (aa (aq 5) ae))) (b' 9))
  (au (di [O,Y 9,Y 2,Y 4] oY (b' 0) dB (aw aI (aw aI (lS (ag "melon") bo (b8 aR)) (ao cu (aw gX Ii (aq 26)))) (lS (ag "melon") (b8 (aw aI aR (aq 1))) bo))) (b' 7)) (sg t m c turn b O O O O) (T h t y []) =
   Y (.nx (sg t m c turn b O (Y (.aa h.length)) O (Y (.ab (y%5)))),T h t (y/5) [.aa (((C_ m).map (w2 turn (y%5))).map .ae)]):=by
 have i:=md (x:=y) (m:=5) ∅;obtain⟨d,e⟩:=Y2 (n:=5) i.1 i.2;have f:=Rj _ d;rw[e]at f;have g:("melon":M).length<=1000:=by decide +kernel
 have j:=NX _ d;rw[e]at j;have p:=YZ (fr:=[Y 9,Y 2,Y 4]) (mi:=dz ni) (a:=aw aI (aw aI (lS (ag "melon") bo (b8 aR)) (ao cu (aw gX Ii (aq 26)))) (lS (ag "melon") (b8 (aw aI aR (aq 1))) bo)) (σ:=sg t m c turn b O O O (Y (.ab (y%5)))) (h:=T h t (y/5) []) (h1:=T h t (y/5) []) (it:=Q_ 0 m) (us:=(C_ m).map λk:Nat=>U.ab (k:Int))
  (λu=>match u with | .ab k=>.ae (w2 turn (y%5) k.toNat) | _=>.aQ) (eF rfl ⋯) lQ (by simp;lia) (λu r l=>by
   obtain⟨k,_,rfl⟩:=Xp.mp r;have q:=md (x:=turn+(k:Int)) (m:=26) ∅;obtain⟨s,v⟩:=Y2 (n:=26) q.1 q.2;have VL:=j _ s;rw[v]at VL;have w:(WW ("melon":M) O (Y (y%5))).length+(A3 ((turn+(k:Int))%26)).length<=1000:=by have:=f.1;have:=GH ((turn+(k:Int))%26);lia
   have z:(WW ("melon":M) O (Y (y%5))++A3 ((turn+(k:Int))%26)).length+(WW ("melon":M) (Y (y%5+1)) O).length<=1000:=by have:=f.2;lia
   show aw aI _ _ [Y (.ab (k:Int)),Y (.ab (y%5)),Y (.ae gs),Y (.ab turn)] _=_;simp only[Xm,Xg,WZ,mX,OE,BW,vS,ye,c8,Ja,W0 (sz g),nW,yd,sf (show(0:Int)<26 by decide),Ey,W5 Xb,rO q.1 q.2,Lj,W0 (sz w),W0 (sz z),Zn,w2])
 rw[ab (σ':=sg t m c turn b O O O (Y (.ab (y%5)))) (h':=T h t (y/5) [])]
 .rw[aC p];simp[X7,abi]
 .simp[dI o]
theorem DW {h:MH}{t m:Nat}{x:Int}(ht:h[t]?=Y (.aa [.ab x]))(hm:m<=8) :
  ∃ ns y,hG ak [.aa t,.ab m] h=Y (.ag (ns.map .ae),h.set t (.aa [.ab y]))/\cP m ns:=by
 have IT:=bA ht;have w:=md (x:=x) (m:=3) ∅;have tu:=md (x:=x/3) (m:=26) ∅;have bk:=md (x:=x/3/26) (m:=2) ∅;obtain⟨M3,Sq⟩:=Y2 (n:=26) tu.1 tu.2;have fin (g:MH) (y:Int) (i:Nat) (σ:bu) (ns:List M) (s7:σ[7]?=Y (Y (.aa (h.length+i)))) (s5:σ[5]?=Y (Y (.ab (1-2*(x/3/26%2))))) (hg:g[i]?=Y (.aa (ns.map .ae))) (ok:cP m ns)
   (run:fP ak [Y (.aa t),Y (.ab m),O,O,O,O,O,O,O,O] (T h t x [])=ax Il σ (T h t y g)) :
   ∃ ns y,hG ak [.aa t,.ab m] h=Y (.ag (ns.map .ae),h.set t (.aa [.ab y]))/\cP m ns:=by
  obtain⟨MW,e,VQ⟩:=A7 (h:=h) (t:=t) (y:=y) bk s7 s5 hg ok;refine⟨MW,y,za (u:=.aa (h.length+g.length)) (g:=g++[.aa (MW.map .ae)]) ?_ (.xT (us:=MW.map .ae) (ZN _ _) (gG.trans nofun) (dE.ji)),VQ⟩;refine bD ?_;rw[<-e,<-run];show fP ak _ h=_
  conv=>lhs;rw[j8 ht]
  rfl
 have pre:fP ak [Y (.aa t),Y (.ab m),O,O,O,O,O,O,O,O] (T h t x [])=(af (az (mB (aw (S.bh b_) bC (aq 0))) (af (au (aw aI yC (ag "kovistu")) (b' 6))
  (au (di [O,Y 6] oY (b' 0) dB (lS aR bo (b8 (aw aI aG (aq 1))))) (b' 7))) (az (mB (aw (S.bh b_) bC (aq 1))) (af (au (bj (aa (ag "say") (aa (ag "slip") (aa (ag "pass") (aa (ag "of") (aa (ag "with") (aa (ag "else") (aa (ag "kinds") (aa (ag "marks") (aa (ag "front") (aa (ag "pick") (aa (ag "row") ae)))))))))))) (b' 8))
  (au (di [O,Y 4,Y 8] oY (b' 0) dB (ao (aw aI cu (bj (aa (ag "done") (aa (ag "end") ae)))) (aw gX FI (aq 13)))) (b' 7))) (af (au (ah 2 ak (aa aG (aa (aq 5) ae))) (b' 9))
  (au (di [O,Y 9,Y 2,Y 4] oY (b' 0) dB (aw aI (aw aI (lS (ag "melon") bo (b8 aR)) (ao cu (aw gX Ii (aq 26)))) (lS (ag "melon") (b8 (aw aI aR (aq 1))) bo))) (b' 7)))))
  (ax Il)) (sg t m (x%3) (x/3%26) (1-2*(x/3/26%2)) O O O O) (T h t (x/3/26/2) []):=by
  unfold fP;rw[ab (σ':=[Y (.aa t),Y (.ab m),Y (.ae gs),O,O,O,O,O,O,O]) (h':=T h t x []) rfl,
   ab (σ':=[Y (.aa t),Y (.ab m),Y (.ae gs),Y (.ab (x%3)),O,O,O,O,O,O]) (h':=T h t (x/3) []) (by simp[dI IT]),
   ab (σ':=[Y (.aa t),Y (.ab m),Y (.ae gs),Y (.ab (x%3)),Y (.ab (x/3%26)),O,O,O,O,O]) (h':=T h t (x/3/26) []) (by simp[dI IT]),
   ab (σ':=sg t m (x%3) (x/3%26) (1-2*(x/3/26%2)) O O O O) (h':=T h t (x/3/26/2) []) (by simp[dI IT])]
 generalize x/3/26/2=y at *;generalize x/3/26%2=b0 at *;generalize x/3%26=turn at *;generalize x%3=way at *;by_cases c0:way=0
 .subst c0;have ok:=NF (m:=m) hm (VN _ M3) (V1 _ M3);rw[Sq]at ok;refine fin [.aa (((C_ m).map (w0 turn)).map .ae)] y 0 (sg t m 0 turn (1-2*b0) (Y (.ae (A3 turn++"kovistu"))) (Y (.aa h.length)) O O) _ rfl rfl rfl ok ?_;rw[pre,ab];rw[aF (k:=L) (h':=T h t y []) nofun,W0 rfl];exact GN tu hm
 .by_cases c1:way=1
  .subst c1;have ok:=NF (m:=m) hm (VO _ M3) (V2 _ M3);rw[Sq]at ok;obtain⟨k,e1⟩:=GO (h:=h) (t:=t) (m:=m) (turn:=turn) (b:=1-2*b0) (y:=y) tu hm;refine fin (.aa (gz.map .ae)::.aa (((C_ m).map (w1 turn)).map .ae)::k) y 1 (sg t m 1 turn (1-2*b0) O (Y (.aa (h.length+1))) (Y (.aa h.length)) O) _ rfl rfl rfl ok ?_;rw[pre,ab];rw[aF (k:=b_) (h':=T h t y []) nofun,W5 Xb,aF (k:=L) (h':=T h t y []) nofun,W0 rfl];exact e1
  .have qa:=md (x:=y) (m:=5) ∅;obtain⟨SQ,UB⟩:=Y2 (n:=5) qa.1 qa.2;have ok:=NF (m:=m) hm (VP _ M3 _ SQ) (V3 _ M3 _ SQ);rw[Sq,UB]at ok;refine fin [.aa (((C_ m).map (w2 turn (y%5))).map .ae)] (y/5) 0 (sg t m way turn (1-2*b0) O (Y (.aa h.length)) O (Y (.ab (y%5)))) _ rfl rfl rfl ok ?_;rw[pre,ab];rw[aF (k:=b_) (h':=T h t y []) (by simp[c0]),W5 Xb,aF (k:=b_) (h':=T h t y []) (by simp[c1]),W5 Xb];exact GP IT tu hm
end D11
namespace S
open PySem L2
variable [kf:KF]
@[simp] theorem RA {b:Bool}{h:MH}:oT [.bl b] h=Y (.ab (if b then 1 else 0),h):=rfl
@[simp] theorem OA {i j:Int}{h:MH}:qo [.ab i,.ab j] h=Y (.ab (if j>i then j else i),h):=rfl
@[simp] theorem OB {i j:Int}{h:MH}:t9 [.ab i,.ab j] h=Y (.ab (if j<i then j else i),h):=rfl
theorem Ln {a b:Int}{h:MH}(c:0<b)(h1:b<1073741824):pX (.ab a) (.ab b) h=Y (.ab (a/b),h):=by
 show(if 0<b/\b<1073741824 then Y (U.ab (a/b)) else O).bind _=_;rw[W0 ⟨c,h1⟩];rfl
theorem ED {d y v:ME}{σ:bu}{h:MH}:aW d y v σ h=(v σ h).bind λp=>(d σ p.2).bind λq=>(y σ q.2).bind λs=>if cU s.2 q.1=L then(eN s.2 q.1 s.1 p.1).bind λh'=>Y (.nx σ,h') else(yj q.1 s.1 p.1 s.2).bind λh'=>Y (.nx σ,h'):=rfl
section
variable {σ:bu}{h:MH}{u d w:U}{a b v:ME}
noncomputable def NW (σ:bu):MH->Option (Fl×MH):=λh=>Y (.nx σ,h)
@[simp] theorem Tu:NW σ h=Y (.nx σ,h):=rfl
def Rg (σ:bu)(d v:U):U×MH->Option (Fl×MH):=λs=>if cU s.2 d=L then bd (NW σ) (eN s.2 d s.1 v) else bd (NW σ) (yj d s.1 v s.2)
def Rf (y:ME)(σ:bu)(v:U):U×MH->Option (Fl×MH):=λq=>bd (Rg σ q.1 v) (y σ q.2)
def kP (d y:ME)(σ:bu):U×MH->Option (Fl×MH):=λp=>bd (Rf y σ p.1) (d σ p.2)
@[simp] theorem Tt:Rg σ d w (u,h)=if cU h d=L then bd (NW σ) (eN h d u w) else bd (NW σ) (yj d u w h):=rfl
@[simp] theorem Ts:Rf b σ w (u,h)=bd (Rg σ u w) (b σ h):=rfl
@[simp] theorem Vu:kP a b σ (u,h)=bd (Rf b σ u) (a σ h):=rfl
@[simp] theorem Us:aW a b v σ h=bd (kP a b σ) (v σ h):=rfl
end
theorem kj {mi:MI}{b:MS}{j:Nat}{σ:bu}{h h1:MH}{n:Nat}(I:Nat->bu->MH->Prop)(e:mi σ h=Y (Q_ 0 n,h1))(s:n<1000000)(t:I 0 σ h1)
  (turn:∀ i σ K,i<n->I i σ K->∃ c l,b (σ.set j (Y (.ab (i:Nat)))) K=Y (.nx c,l)/\I (i+1) c l):∃ σ' K,eJ mi (b' j) b σ h=Y (.nx σ',K)/\I n σ' K:=by
 obtain⟨f,K,x,m⟩:=d7 (mi:=mi) (g:=b' j) (b:=b) (σ:=σ) (h:=h) (us:=(C_ n).map λk:Nat=>U.ab (k:Int)) I (λf K=>∃ σ',f=.nx σ'/\I n σ' K) e lQ (by simpa using s) t
  (λi u σ K p q=>by
   rw[Xd]at p;obtain⟨k,o,rfl⟩:=XD.mp p;have r:i<n:=by have:=(W2.mp o).1;simpa using this
   have:k=i:=by rw[aap r]at o;exact(Xe o).symm
   subst this;obtain⟨c,l,m,y⟩:=turn k σ K r q;exact⟨_,_,.nx c,l,rfl,m,y⟩)
  (λσ K q=>by simp at q;exact⟨σ,rfl,q⟩)
 obtain⟨σ',rfl,q⟩:=m;exact⟨σ',K,x,q⟩
end S
namespace D11
open PySem L2 S RN
variable [kf:KF]
abbrev xR:MF:=hG ak
abbrev xC:MF:=oK ak xR
theorem zw {h g:MH}{t m:Nat}{x:Int}(c:t<h.length)(f:m<=8):∃ ns y,xR [.aa t,.ab m] (T h t x g)=Y (.ag (ns.map .ae),T h t y g)/\cP m ns:=by
 obtain⟨ns,y,e,i⟩:=DW (h:=T h t x g) (t:=t) (Pu c) f;rw[sT c]at e;exact⟨ns,y,e,i⟩
noncomputable def ff (k:M×M):U:=.af [.ae k.1,.ae k.2]
def me (ks:List (M×M)):Prop:=∀ (i:Nat) (k o:M),ks[i]?=Y (k,o)->o=i_ ""\/∃ j:Nat,j<i/\(ks.map (·.1))[j]?=Y o
theorem me.aa {ks:List (M×M)}{n o:M}(i:me ks)(l:o=i_ ""\/∃ j:Nat,j<ks.length/\(ks.map (·.1))[j]?=Y o):me (ks++[(n,o)]):=λc k m z=>by
 have f:∀ {j:Nat}{z:M},(ks.map (·.1))[j]?=Y z->((ks++[(n,o)]).map (·.1))[j]?=Y z:=λ{j z} hz=>by
  rw[XS,W3 (W2.mp hz).1];exact hz
 by_cases q:c<ks.length
 .rw[W3 q]at z;rcases i c k m z with z | ⟨j,g,e⟩
  .exact .inl z
  .exact .inr ⟨j,g,f e⟩
 .have NM:c=ks.length:=by
   have:=(W2.mp z).1;simp at this;lia
  subst NM;simp at z;obtain⟨_,rfl⟩:=z;rcases l with z | ⟨j,g,e⟩
  .exact .inl z
  .exact .inr ⟨j,by lia,f e⟩
def Z' (ks:List (M×M)):Prop:=cP ks.length (ks.map (·.1))/\me ks
theorem Dv {h:MH}{t:Nat}{x:Int}(ht:h[t]?=Y (.aa [.ab x])):∃ ks y,xC [.aa t] h=Y (cG ks,h.set t (.aa [.ab y]))/\Z' ks/\1<=ks.length/\ks.length<=8:=by
 have l:=bA ht;have N:∃ (m:Nat) (y:Int),1<=m/\m<=8/\au (aw aI (aq 1) (ah 2 ak (aa aG (aa (ao (bj (aa (aq 4) (aa (aq 8) ae))) (eB oT (aa (aw (S.bh b_) (ah 2 ak (aa aG (aa (aq 6) ae))) (aq 5)) ae))) ae)))) (b' 1) [Y (.aa t),O,O,O,O,O] (T h t x [])=Y (.nx [Y (.aa t),Y (.ab m),O,O,O,O],T h t y [.aa [.ab 4,.ab 8]]):=by
  by_cases q:x%6=5
  .have d:=md (x:=x/6) (m:=8) ∅;refine⟨(1+x/6%8).toNat,x/6/8,by lia,by lia,?_⟩;have e:(((1+x/6%8).toNat:Nat):Int)=1+x/6%8:=by lia
   obtain⟨P,Q⟩:=eH (h:=T h t (x/6) [.aa [.ab 4,.ab 8]]) (n:=h.length) (us:=[.ab 4,.ab 8]) (i:=1) (by rw[iS];rfl);rw[e];simp[dI l,q,P,Q]
  .have d:=md (x:=x/6) (m:=4) ∅;refine⟨(1+x/6%4).toNat,x/6/4,by lia,by lia,?_⟩;have e:(((1+x/6%4).toNat:Nat):Int)=1+x/6%4:=by lia
   obtain⟨P,Q⟩:=eH (h:=T h t (x/6) [.aa [.ab 4,.ab 8]]) (n:=h.length) (us:=[.ab 4,.ab 8]) (i:=0) (by rw[iS];rfl);rw[e];simp[dI l,q,P,Q]
 obtain⟨m,y1,m1,m8,N⟩:=N;obtain⟨c,A,e2,p⟩:=zw (g:=[.aa [.ab 4,.ab 8]]) (x:=y1) l m8;obtain⟨σ',K,e3,ks,y,rfl,G,B,H,V,W,rfl⟩:=kj (mi:=dz ni) (j:=4) (n:=m) (b:=(af (au (ah 2 ak (aa aG (aa (aq 3) ae))) (b' 5))
  (az (qS (mB (aw (S.bh b_) c4 (aq 0))) (mB (aw (S.bh b_) jn (aq 0)))) (aO (fy aL bC (aa (av (aa yC (aa (ag "") ae))) ae))) (aO (fy aL bC (aa (av (aa yC (aa (ao cu (ah 2 ak (aa aG fZ))) ae))) ae))))))
  (σ:=[Y (.aa t),Y (.ab m),Y (.ag (c.map .ae)),Y (.aa (h.length+1)),O,O]) (h:=T h t A [.aa [.ab 4,.ab 8],.aa []]) (h1:=T h t A [.aa [.ab 4,.ab 8],.aa []])
  (λi σ K=>∃ ks y,K=T h t y [.aa [.ab 4,.ab 8],.aa (ks.map ff)]/\ks.length=i/\ks.map (·.1)=c.take i/\me ks/\∃ V W,σ=[Y (.aa t),Y (.ab m),Y (.ag (c.map .ae)),Y (.aa (h.length+1)),V,W])
  (eF rfl ⋯) ⋯ ⟨[],A,rfl,rfl,rfl,(λi k o z=>by simp at z),_,_,rfl⟩
  (λi σ K hi q=>by
   obtain⟨ks,y,rfl,G,B,H,V,W,rfl⟩:=q;obtain⟨f,C⟩:∃ f,c[i]?=Y f:=⟨_,W6 (by rw[p.1];exact hi)⟩;have Ta:c.take (i+1)=c.take i++[f]:=by rw[Y6,C];rfl
   have D:L2.iw (c.map U.ae) (i:Int)=Y (.ae f):=by rw[S.cv,Xd,C];rfl
   have I:∀ z:Int,(T h t z [.aa [.ab 4,.ab 8],.aa (ks.map ff)])[h.length+1]?=Y (.aa (ks.map ff)):=λz=>gG
   by_cases q:i=0\/y%3=0
   .refine⟨[Y (.aa t),Y (.ab m),Y (.ag (c.map .ae)),Y (.aa (h.length+1)),Y (.ab (i:Nat)),Y (.ab (y%3))],T h t (y/3) [.aa [.ab 4,.ab 8],.aa (ks.map ff++[ff (f,"")])],?_,ks++[(f,i_ "")],y/3,by simp,by simp[G],by rw[Ta];simp[B],H.aa (.inl rfl),_,_,rfl⟩;have s:=cX (u:=ff (f,"")) (I (y/3)) (by simp;lia);rw[show ff (f,"")=U.af [.ae f,.ae ""] from rfl]at s ⊢;rw[ml]at s;have X:qS (mB (aw (S.bh b_) c4 (aq 0))) (mB (aw (S.bh b_) jn (aq 0))) [Y (.aa t),Y (.ab m),Y (.ag (c.map .ae)),Y (.aa (h.length+1)),Y (.ab (i:Nat)),Y (.ab (y%3))] (T h t (y/3) [.aa [.ab 4,.ab 8],.aa (ks.map ff)])=Y (L,T h t (y/3) [.aa [.ab 4,.ab 8],.aa (ks.map ff)]):=by
     by_cases z:(i:Int)=0
     .simp[z]
     .have z2:y%3=0:=by lia
      simp[z,z2]
    rw[ab (σ':=[Y (.aa t),Y (.ab m),Y (.ag (c.map .ae)),Y (.aa (h.length+1)),Y (.ab (i:Nat)),Y (.ab (y%3))]) (h':=T h t (y/3) [.aa [.ab 4,.ab 8],.aa (ks.map ff)]) (by simp[dI l]),aF X,W0 rfl];simp[cg (I (y/3)),D,s]
   .have i0:0<i:=by lia
    have q3:¬ y%3=0:=by lia
    have qi:¬ (i:Int)=0:=by lia
    obtain⟨d1,d2⟩:=md (x:=y/3) (m:=(i:Int)) ⋯;obtain⟨j,hj⟩:∃ j:Nat,y/3%(i:Int)=(j:Int):=⟨(y/3%(i:Int)).toNat,by lia⟩;have Z:j<i:=by lia
    obtain⟨r,E⟩:∃ r,c[j]?=Y r:=⟨_,W6 (by rw[p.1];lia)⟩;have UX:L2.iw (c.map U.ae) (j:Int)=Y (.ae r):=by rw[S.cv,Xd,E];rfl
    refine⟨[Y (.aa t),Y (.ab m),Y (.ag (c.map .ae)),Y (.aa (h.length+1)),Y (.ab (i:Nat)),Y (.ab (y%3))],T h t (y/3/i) [.aa [.ab 4,.ab 8],.aa (ks.map ff++[ff (f,r)])],?_,ks++[(f,r)],y/3/i,by simp,by simp[G],by rw[Ta];simp[B],H.aa (.inr ⟨j,by lia,by rw[B,aaq Z];exact E⟩),_,_,rfl⟩;have s:=cX (u:=ff (f,r)) (I (y/3/i)) (by simp;lia);rw[show ff (f,r)=U.af [.ae f,.ae r] from rfl]at s ⊢;rw[ml]at s;have U3:(i:Int)<1073741824:=by lia
    have U4:(0:Int)<(i:Int):=by lia
    rw[ab (σ':=[Y (.aa t),Y (.ab m),Y (.ag (c.map .ae)),Y (.aa (h.length+1)),Y (.ab (i:Nat)),Y (.ab (y%3))]) (h':=T h t (y/3) [.aa [.ab 4,.ab 8],.aa (ks.map ff)]) (by simp[dI l]),aF (k:=b_) (h':=T h t (y/3) [.aa [.ab 4,.ab 8],.aa (ks.map ff)]) (by simp[show ¬ i=0 by lia,q3]),W5 Xb];simp[cg (I (y/3)),D,dI l U4 U3,hj,UX,s])
 refine⟨ks,y,?_,⟨by rw[B,G,X6 (by rw[p.1];exact WY _)];exact p,H⟩,by lia,by lia⟩;refine za (u:=cG ks) (g:=[.aa [.ab 4,.ab 8],.aa (ks.map ff)]) ?_ (ip.ji ((show ip 0 (cG ks) from .ab (bL.mpr λu hu=>by obtain⟨k,_,rfl⟩:=Xp.mp hu;exact .ab (.aa .aa (.aa .aa .nil)))).af (Xl _)));refine bD ?_;show jA _ _ [Y (.aa t),O,O,O,O,O] h=_
 conv=>lhs;rw[j8 ht]
 unfold jA;rw[ab N,ab (σ':=[Y (.aa t),Y (.ab m),Y (.ag (c.map .ae)),O,O,O]) (h':=T h t A [.aa [.ab 4,.ab 8]]) (by simp[e2]),ab (σ':=[Y (.aa t),Y (.ab m),Y (.ag (c.map .ae)),Y (.aa (h.length+1)),O,O]) (h':=T h t A [.aa [.ab 4,.ab 8],.aa []]) nofun,ab e3];have F:=nX (n:=h.length+1) (us:=ks.map ff) (h:=T h t y [.aa [.ab 4,.ab 8],.aa (ks.map ff)]) gG;simp[F,cG];exact λ_ _ _=>rfl
end D11
namespace S
open PySem L2
variable [kf:KF]
theorem aa7:∀ {ns:List Int},qc (ns.map .ab)=Y ns
 |[]=>rfl
 |n::r=>by
  show(qc (r.map .ab)).bind _=_;rw[aa7];rfl
theorem L5 {n:Nat}{ns:List Int}{h:MH}(e:h[n]?=Y (.aa (ns.map .ab)))(a:ns.length<=1000)(hb:∀ k∈ns,0<=k/\k<=1000):HK [.aa n] h=Y (.ab ns.sum,h):=by
 show(dy h (.aa n)).bind _=_;rw[fU e];show(qc (ns.map .ab)).bind _=_;rw[aa7];exact W0 ⟨a,hb⟩
theorem Hw {n i:Nat}{us:List U}{x:U}{h:MH}(e:h[n]?=Y (.aa us))(a:i<us.length):yj (.aa n) (.ab (i:Int)) x h=Y (h.set n (.aa (us.set i x))):=by
 show(b7 h (.aa n)).bind _=_;rw[cg e];show(L2.BV us.length (i:Int)).bind _=_;have:L2.BV us.length (i:Int)=Y i:=by unfold L2.BV;simp[a]
 rw[this];rfl
end S
namespace D11
open PySem L2 S RN
variable [kf:KF]
abbrev hL:MF:=mQ ak
abbrev pN:MF:=lD ak
theorem aba:∀ {ns:List Int}{i:Nat}{a d:Int},ns[i]?=Y a->(ns.set i (a+d)).sum=ns.sum+d
 |[],i,a,d,h=>by simp at h
 |n::r,0,a,d,h=>by simp at h;subst h;simp;lia
 |n::r,i+1,a,d,h=>by
  simp at h;have:=aba (ns:=r) (i:=i) (a:=a) (d:=d) h;simp[this];lia
theorem tX:∀ {ns:List Int},(∀ k∈ns,1<=k)->∀ k∈ns,k<=ns.sum
 |[],_,k,hk=>by simp at hk
 |n::r,h,k,hk=>by
  have hr:∀ k∈r,1<=k:=λk hk=>h k (by simp[hk])
  have h0:0<=r.sum:=by
   clear hk
   induction r with
   |nil=>simp
   |cons a l ih=>
    have:=ih (λk hk=>h k (by simp at hk ⊢;rcases hk with rfl | hk<;>simp_all)) (λk hk=>hr k (by simp[hk]));have:=hr a nofun;simp;lia
  have hn:=h n nofun;rcases Xj.mp hk with rfl | hk
  .simp;lia
  .have:=tX hr k hk;simp;lia
theorem wb:∀ {m:Nat},(B' m (1:Int)).sum=m
 |0=>rfl
 |n+1=>by rw[XT,aak,wb];lia
def pH (m:Nat)(room:Int)(ss:List Int):Prop:=ss.length=m/\(∀ s∈ss,1<=s)/\ss.sum<=room
theorem Bt {h:MH}{t m:Nat}{x room:Int}(A:h[t]?=Y (.aa [.ab x]))(Z:m<=100)(F:(m:Int)<=room)(G:room<=1000):∃ (ss:List Int) (y:Int),hL [.aa t,.ab m,.ab room] h=Y (.ag (ss.map .ab),h.set t (.aa [.ab y]))/\pH m room ss:=by
 have r:=bA A;have B:=YZ (fr:=[]) (mi:=dz ni) (a:=aq 1) (σ:=[Y (.aa t),Y (.ab m),Y (.ab room),O,O,O]) (h:=T h t x []) (h1:=T h t x []) (it:=Q_ 0 m) (us:=(C_ m).map λk:Nat=>U.ab (k:Int))
  (λ_=>.ab 1) (eF rfl ⋯) lQ (by simp;lia) (λu C l=>rfl)
 have H:((C_ m).map λk:Nat=>U.ab (k:Int)).map (λ_=>U.ab 1)=(B' m (1:Int)).map U.ab:=by
  rw[X7];simp[abt];apply aal;intro i;by_cases q:i<m
  .simp[q]
  .simp[aat,q]
 rw[H]at B;have e:(B' m (1:Int)).sum=m:=wb;obtain⟨σ',K,I,ss,y,N,rfl,v,w,rfl⟩:=kj (mi:=dz ni) (j:=3) (n:=m) (b:=(af (au (ah 2 ak (aa aG (aa (aw aI Pd (aq 1)) ae))) (b' 5))
  (aW c4 bC Pb)))
  (σ:=[Y (.aa t),Y (.ab m),Y (.ab room),O,Y (.aa h.length),O]) (h:=T h t x [.aa ((B' m (1:Int)).map .ab)]) (h1:=T h t x [.aa ((B' m (1:Int)).map .ab)])
  (λi σ K=>∃ ss y,pH m room ss/\K=T h t y [.aa (ss.map .ab)]/\∃ v w,σ=[Y (.aa t),Y (.ab m),Y (.ab room),v,Y (.aa h.length),w])
  (eF rfl ⋯) ⋯ ⟨_,x,⟨by simp,λs f=>by rw[acR f];lia,by rw[e];exact F⟩,rfl,_,_,rfl⟩
  (λi σ K hi q=>by
   obtain⟨ss,y,⟨P,c,o3⟩,rfl,v,w,rfl⟩:=q;have Q:∀ k∈ss,0<=k/\k<=1000:=λk D=>by have:=c k D;have:=tX c k D;lia
   have f:=L5 (h:=T h t y [.aa (ss.map .ab)]) (n:=h.length) (ns:=ss) (by rw[iS];rfl) ⋯ Q;obtain⟨a,o⟩:∃ a,ss[i]?=Y a:=⟨_,W6 ⋯⟩;have V:=dI (g:=[.aa (ss.map .ab)]) (x:=y) (m:=room-ss.sum+1) r ⋯ (by
    have:0<=ss.sum:=by
     have h1:=tX c a (Xk o);have h2:=c a (Xk o);lia
    lia)
   obtain⟨d1,d2⟩:=md (x:=y) (m:=room-ss.sum+1) ⋯;generalize hd:y%(room-ss.sum+1)=d at *;generalize hy:y/(room-ss.sum+1)=p at *;obtain⟨W,E⟩:=eH (h:=T h t p [.aa (ss.map .ab)]) (n:=h.length) (us:=ss.map .ab) (i:=(i:Int)) (by rw[iS];rfl);rw[S.cv,Xd,o]at E;have X:=Hw (h:=T h t p [.aa (ss.map .ab)]) (n:=h.length) (us:=ss.map .ab) (i:=i) (x:=.ab (a+d)) (by rw[iS];rfl) (by simp;lia);refine⟨[Y (.aa t),Y (.ab m),Y (.ab room),Y (.ab (i:Nat)),Y (.aa h.length),Y (.ab d)],T h t p [.aa ((ss.set i (a+d)).map .ab)],?_,ss.set i (a+d),p,⟨by simp[P],λs f=>?_,?_⟩,rfl,_,_,rfl⟩
   .rw[ab (σ':=[Y (.aa t),Y (.ab m),Y (.ab room),Y (.ab (i:Nat)),Y (.aa h.length),Y (.ab d)]) (h':=T h t p [.aa (ss.map .ab)]) (by simp[f,V])];simp[W,E,X,List.map_set]
   .rcases List.mem_or_eq_of_mem_set f with z | z
    .exact c s z
    .have:=c a (Xk o);lia
   .rw[aba o];lia)
 refine⟨ss,y,?_,N⟩;refine za (u:=.aa h.length) (g:=[.aa (ss.map .ab)]) ?_ (.xT (us:=ss.map .ab) (WY _) (by rw[iS];rfl) (cE.ji (bL.mpr λu C=>by obtain⟨k,_,rfl⟩:=Xp.mp C;exact .ae)));refine bD ?_;show iV _ [Y (.aa t),Y (.ab m),Y (.ab room),O,O,O] h=_
 conv=>lhs;rw[j8 A]
 unfold iV;rw[ab (aC B)];rw[show([Y (U.aa t),Y (U.ab m),Y (U.ab room),O,O,O]:bu).set 4 (Y (.aa (T h t x []).length))=[Y (.aa t),Y (.ab m),Y (.ab room),O,Y (.aa h.length),O] by simp,jx,ZJ,ab I];simp
theorem wX {h:MH}{t:Nat}{x:Int}(l:h[t]?=Y (.aa [.ab x])):∃ (cs:List Int) (y:Int),pN [.aa t,.ab 40] h=Y (.ag (cs.map .ab),h.set t (.aa [.ab y]))/\cs.length<=40:=by
 have a:=bA l;obtain⟨F,G⟩:=md (x:=x) (m:=41) ∅;obtain⟨n,z⟩:∃ n:Nat,x%41=(n:Int):=⟨(x%41).toNat,by lia⟩;obtain⟨σ',K,A,cs,y,g,o,rfl,c,e,rfl⟩:=kj (mi:=dz (aa (ah 2 ak (aa aG (aa (aw aI aR (aq 1)) ae))) ae)) (j:=3) (n:=n) (b:=(af (au (ah 2 ak (aa aG (aa (aq 8) ae))) (b' 4))
  (aO (fy aL cu (aa (ao (bj (aa (aq 0) (aa (aq 1) (aa (aq 2) (aa (aq 3) (aa (aq 1) (aa (aq 0) (aa (aq 5) (aa (aw aI (aw ue (aq 10) (aq 29)) (aq 1)) ae))))))))) c4) ae)))))
  (σ:=[Y (.aa t),Y (.ab 40),Y (.aa h.length),O,O]) (h:=T h t x [.aa []]) (h1:=T h t (x/41) [.aa []])
  (λi σ K=>∃ (cs:List Int) (y:Int) (g:MH),cs.length=i/\K=T h t y (.aa (cs.map .ab)::g)/\∃ c e,σ=[Y (.aa t),Y (.ab 40),Y (.aa h.length),c,e])
  (eF (by simp[dI a,z]) ⋯) ⋯ ⟨[],x/41,[],rfl,rfl,_,_,rfl⟩
  (λi σ K H q=>by
   obtain⟨cs,y,g,o,rfl,c,e,rfl⟩:=q;obtain⟨I,N⟩:=md (x:=y) (m:=8) ∅;obtain⟨d,B⟩:∃ d:Nat,y%8=(d:Int):=⟨(y%8).toNat,by lia⟩;obtain⟨v,C⟩:∃ v,([0,1,2,3,1,0,5,100000000000000000000000000001]:List Int)[d]?=Y v:=⟨_,W6 (by simp;lia)⟩;have p:∀ r,(T h t (y/8) (.aa (cs.map .ab)::r))[h.length]?=Y (.aa (cs.map .ab)):=λr=>by rw[iS];rfl
   obtain⟨s,f⟩:=eH (h:=T h t (y/8) (.aa (cs.map .ab)::(g++[.aa (([0,1,2,3,1,0,5,100000000000000000000000000001]:List Int).map .ab)]))) (n:=h.length+(g.length+1)) (us:=(([0,1,2,3,1,0,5,100000000000000000000000000001]:List Int).map .ab)) (i:=(d:Int)) (by rw[gG];simp);rw[S.cv,Xd,C]at f;have w:=cX (u:=.ab v) (p (g++[.aa (([0,1,2,3,1,0,5,100000000000000000000000000001]:List Int).map .ab)])) (by simp;lia);refine⟨[Y (.aa t),Y (.ab 40),Y (.aa h.length),Y (.ab (i:Nat)),Y (.ab (d:Int))],T h t (y/8) (.aa ((cs++[v]).map .ab)::(g++[.aa (([0,1,2,3,1,0,5,100000000000000000000000000001]:List Int).map .ab)])),?_,cs++[v],y/8,_,by simp[o],rfl,_,_,rfl⟩;rw[ab (σ':=[Y (.aa t),Y (.ab 40),Y (.aa h.length),Y (.ab (i:Nat)),Y (.ab (d:Int))]) (h':=T h t (y/8) (.aa (cs.map .ab)::g)) (by simp[dI a,B])];refine cQ (u:=.aQ) ?_;have D:ue (.ab 10) (.ab 29) (T h t (y/8) (.aa (cs.map .ab)::g))=Y (.ab 100000000000000000000000000000,T h t (y/8) (.aa (cs.map .ab)::g)):=by simp[ue,ii]
   simp[cg (p g),D]at s f w ⊢;simp[s,f,w])
 refine⟨cs,y,?_,by lia⟩;refine za (u:=.aa h.length) (g:=.aa (cs.map .ab)::g) ?_ (.xT (us:=cs.map .ab) (WY _) (by rw[iS];rfl) (cE.ji (bL.mpr λu E=>by obtain⟨k,_,rfl⟩:=Xp.mp E;exact .ae)));refine bD ?_;show ie _ [Y (.aa t),Y (.ab 40),O,O,O] h=_
 conv=>lhs;rw[j8 l]
 unfold ie;rw[ab (σ':=[Y (.aa t),Y (.ab 40),Y (.aa h.length),O,O]) (h':=T h t x [.aa []]) nofun,ab A];simp
end D11
namespace S
open PySem L2
variable [kf:KF]
@[simp] theorem Ll {m:MP}{σ:bu}{h:MH}:eC m σ h=(m σ (h++[.dK []])).bind λp=>(lx p.1).bind λks=>match p.2[h.length]? with
 |some (.dK [])=>if ks.length<=15 then Y (.aa h.length,p.2.set h.length (.dK (et [] ks))) else O
 |_=>none:=rfl
@[simp] theorem Lq {σ:bu}{h:MH}:eD σ h=Y ([],h):=rfl
@[simp] theorem pz {k v:ME}{r:MP}{σ:bu}{h:MH}:aB k v r σ h=(k σ h).bind λa=>(v σ a.2).bind λb=>(r σ b.2).bind λc=>Y ((a.1,b.1)::c.1,c.2):=rfl
theorem dq {n:Nat}{kvs:List (j_×U)}{z:M}{h:MH}(e:h[n]?=Y (.dK kvs)):cU h (.aa n)=L/\bS h (.aa n) (.ae z)=Y (bx kvs (p_ z)):=by
 constructor
 .simp[cU,e]
 .simp[bS,e,lR]
theorem kh {n:Nat}{kvs:List (j_×U)}{z:M}{v:U}{h:MH}(e:h[n]?=Y (.dK kvs))(a:kvs.length<1000):eN h (.aa n) (.ae z) v=Y (h.set n (.dK (c7 kvs (p_ z) v))):=by
 have:kvs.length<sizeLine:=by
  have:1000<=sizeLine:=by rw[XJ];decide
  lia
 simp[eN,e,lR,this]
theorem abc {neg:Bool}{ms:List M}{n:Nat}{h:MH}(e:h[n]?=Y (.aa [])):bh neg (.ag (ms.map .ae)) (.aa n) h=Y (.bl (if neg then !ms.isEmpty else ms.isEmpty),h):=by
 have b:aZ h Dp (.ag (ms.map .ae))=Y (.list (ms.map aci)):=by
  show(eR (aZ h _) (ms.map .ae)).bind _=_;rw[nR];rfl
 have c:aZ h Dp (.aa n)=Y (.list []):=by
  show(match h[n]? with | some (.aa d)=>(eR (aZ h _) d).bind λf=>Y (ach f) | _=>O)=_;rw[e];rfl
 unfold S.bh;rw[b,c];cases ms with
 |nil=>simp[F',WK]
 |cons a r=>simp[F',WK]
end S
namespace D11
open PySem L2 S RN
variable [kf:KF]
abbrev oF:MF:=qm ak
structure Kn where
 aa:List M
 ab:List M
 ae:List M
 af:List M
 ka:Nat
def i5 (K:Kn)(s:Int):List (j_×U):=[(p_ "kinds",.aa K.ka),(p_ "marks",.ag (K.ab.map .ae)),(p_ "rooms",.ag (K.ae.map .ae)),(p_ "words",.ag (K.af.map .ae)),(p_ "slips",.ab s)]
structure dN (h:MH)(t kn:Nat)(K:Kn):Prop where
 k0:K.aa≠[]
 r0:K.ae≠[]
 w0:K.af≠[]
 k8:K.aa.length<=8
 m8:K.ab.length<=8
 r8:K.ae.length<=8
 w8:K.af.length<=8
 ka:h[K.ka]?=Y (.aa (K.aa.map .ae))
 kt:K.ka≠t
 kk:K.ka≠kn
 tk:t≠kn
 tl:t<h.length
 kl:kn<h.length
def T2 (h:MH)(t kn:Nat)(K:Kn)(x s:Int)(g:MH):MH:=T (h.set kn (.dK (i5 K s))) t x g
section
variable {h g g':MH}{t kn:Nat}{K:Kn}{x y s:Int}
theorem uH (b:h[t]?=Y (.aa [.ab x]))(a:h[kn]?=Y (.dK (i5 K s))):h=T2 h t kn K x s []:=by
 have e:h.set kn (.dK (i5 K s))=h:=by
  apply aal;intro n;by_cases e:kn=n
  .subst e;rw[Ya a];exact a.symm
  .rw[W9 e]
 unfold T2;rw[e];exact j8 b
@[simp] theorem sR:(T2 h t kn K x s g).length=h.length+g.length:=by simp[T2]
@[simp] theorem o6:T2 h t kn K x s g++g'=T2 h t kn K x s (g++g'):=by simp[T2]
@[simp] theorem dR {i:Nat}:(T2 h t kn K x s g)[h.length+i]?=g[i]?:=by
 have:=gG (hb:=h.set kn (.dK (i5 K s))) (t:=t) (x:=x) (g:=g) (i:=i);rw[Y5]at this;exact this
@[simp] theorem Pr:(T2 h t kn K x s g)[h.length]?=g[0]?:=dR (i:=0)
@[simp] theorem sS {i:Nat}{o:MO}:(T2 h t kn K x s g).set (h.length+i) o=T2 h t kn K x s (g.set i o):=by
 have:=ml (hb:=h.set kn (.dK (i5 K s))) (t:=t) (x:=x) (g:=g) (i:=i) (o:=o);rw[Y5]at this;exact this
@[simp] theorem Pt {o:MO}:(T2 h t kn K x s g).set h.length o=T2 h t kn K x s (g.set 0 o):=sS (i:=0)
theorem mj (E:dN h t kn K):(T2 h t kn K x s g)[kn]?=Y (.dK (i5 K s)):=by
 unfold T2;rw[Ir (by simpa using E.kl) (λz=>E.tk z.symm),XC E.kl]
theorem Jo (E:dN h t kn K):(T2 h t kn K x s g)[t]?=Y (.aa [.ab x]):=Pu (by simpa using E.tl)
theorem yJ (E:dN h t kn K):(T2 h t kn K x s g).set t (.aa [.ab y])=T2 h t kn K y s g:=sT (by simpa using E.tl)
theorem uF (E:dN h t kn K):(T2 h t kn K x s g)[K.ka]?=Y (.aa (K.aa.map .ae)):=by
 unfold T2;rw[Ir (by simpa using bA E.ka) E.kt,W9 (λz=>E.kk z.symm)];exact E.ka
theorem uG (E:dN h t kn K){s':Int}:(T2 h t kn K x s g).set kn (.dK (i5 K s'))=T2 h t kn K x s' g:=by
 unfold T2;rw[Jp (by simpa using E.kl) (λz=>E.tk z.symm),abv]
theorem eW (E:dN h t kn K){m:Int}(b:0<m)(a:m<1073741824):ak [.aa t,.ab m] (T2 h t kn K x s g)=Y (.ab (x%m),T2 h t kn K (x/m) s g):=dI (by simpa using E.tl) b a
theorem BF:bx (i5 K s) (p_ "kinds")=Y (.aa K.ka):=by simp[bx,i5]
theorem BG:bx (i5 K s) (p_ "marks")=Y (.ag (K.ab.map .ae)):=by simp[bx,i5]
theorem BH:bx (i5 K s) (p_ "rooms")=Y (.ag (K.ae.map .ae)):=by simp[bx,i5]
theorem BJ:bx (i5 K s) (p_ "words")=Y (.ag (K.af.map .ae)):=by simp[bx,i5]
theorem BI:bx (i5 K s) (p_ "slips")=Y (.ab s):=by simp[bx,i5]
theorem Bm {s':Int}:c7 (i5 K s) (p_ "slips") (.ab s')=i5 K s':=by simp[c7,i5]
theorem ig (E:dN h t kn K):cU (T2 h t kn K x s g) (.aa kn)=true:=(dq (z:="") (mj E)).1
theorem rG (E:dN h t kn K):bS (T2 h t kn K x s g) (.aa kn) (.ae "kinds")=Y (Y (.aa K.ka)):=(dq (mj E)).2.trans (by rw[BF])
theorem fB (E:dN h t kn K):bS (T2 h t kn K x s g) (.aa kn) (.ae "marks")=Y (Y (.ag (K.ab.map .ae))):=(dq (mj E)).2.trans (by rw[BG])
theorem AD (E:dN h t kn K):bS (T2 h t kn K x s g) (.aa kn) (.ae "rooms")=Y (Y (.ag (K.ae.map .ae))):=(dq (mj E)).2.trans (by rw[BH])
theorem AE (E:dN h t kn K):bS (T2 h t kn K x s g) (.aa kn) (.ae "words")=Y (Y (.ag (K.af.map .ae))):=(dq (mj E)).2.trans (by rw[BJ])
theorem nI (E:dN h t kn K):bS (T2 h t kn K x s g) (.aa kn) (.ae "slips")=Y (Y (.ab s)):=(dq (mj E)).2.trans (by rw[BI])
theorem xj (E:dN h t kn K){s':Int}:eN (T2 h t kn K x s g) (.aa kn) (.ae "slips") (.ab s')=Y (T2 h t kn K x s' g):=by
 rw[kh (mj E) (by simp[i5]),Bm,uG E]
theorem zm (E:dN h t kn K):cE h.length (ky (.dK (i5 K s))):=.aa (.ag (bA E.ka)) (.aa (.ah dE) (.aa (.ah dE) (.aa (.ah dE) (.aa .ae .nil))))
end
end D11
namespace D11
open PySem L2 S RN
variable [kf:KF]
variable {h g:MH}{t kn:Nat}{K:Kn}{x s:Int}
noncomputable abbrev ls (t kn:Nat)(tk lp cl:Bool)(dp:Int)(a b c:Option U):bu:=[Y (.aa t),Y (.aa kn),Y (.af [.bl tk,.bl lp,.bl cl,.ab dp]),Y (.bl tk),Y (.bl lp),Y (.bl cl),Y (.ab dp),a,b,c]
def Lf (K:Kn)(tk:Bool)(w:M):Prop:=w∈["say","slip","call","row","leave","stop"].map i_\/(K.ab≠[]/\w∈["on","off"].map i_)\/(tk=L/\w=i_ "pass")
structure Ws (n:Nat)(K:Kn)(tk:Bool)(g:MH)(i:Nat)(W:List M):Prop where
 aa:g[i]?=Y (.aa (W.map .ae))
 ok:∀ w∈W,Lf K tk w
 ab:W.length<=n
theorem mm {i:Nat}{W ws:List M}{σ:bu}{v j:Nat}{ar:MA}(d:σ[v]?=Y (Y (.aa (h.length+i))))(c:g[i]?=Y (.aa (W.map .ae)))(l:W.length<=20)(m:ws.length<=20)(e:∀ H,ar σ H=Y (ws.map .ae,H)) :
  aw aI (bZ v) (bj ar) σ (T2 h t kn K x s g)=Y (.aa (h.length+(g.length+1)),T2 h t kn K x s (g++[.aa (ws.map .ae),.aa ((W++ws).map .ae)])):=by
 have f:i<g.length:=(W2.mp c).1;have k:=qu (a:=.aa (h.length+i)) (b:=.aa (h.length+g.length)) (us:=W.map .ae) (ws:=ws.map .ae) (h:=T2 h t kn K x s (g++[.aa (ws.map .ae)])) (fU (by rw[dR,W3 f];exact c)) (fU (by rw[dR];simp)) (by simp;lia) (λ_=>by simp) (λ_=>by simp) (λ_=>by simp);rw[mX,c8,d];simp only[WZ,vR,e,Xw,W0 (sz (show ws.length<=1000 by lia)),sR,o6,k];simp
theorem xE (E:dN h t kn K){tk lp cl:Bool}{dp:Int}{fin:MS}:∃ g i W,Ws 10 K tk g i W/\(af (au cu (iC 4 (bt (b' 3) (bt (b' 4) (bt (b' 5) (bt (b' 6) iB))))))
  (af (au (bj (aa (ag "say") (aa (ag "slip") (aa (ag "slip") (aa (ag "call") (aa (ag "row") ae)))))) (b' 7))
  (af (az (mB (aw (S.bh b_) (ao aR (ag "slips")) (aq 0))) (au (bj (aa (ag "say") (aa (ag "say") (aa (ag "call") (aa (ag "row") (aa (ag "leave") ae)))))) (b' 7)) ai)
  (af (az (mB (aw (S.bh L) (ao aR (ag "marks")) dZ)) (au (aw aI n6 (bj (aa (ag "on") (aa (ag "off") ae)))) (b' 7)) ai)
  (af (az (dS bC) (au (aw aI n6 (bj (aa (ag "pass") (aa (ag "pass") ae)))) (b' 7)) ai)
  (af (az (dS c4) (aO (fy aL n6 (aa (ag "stop") ae))) ai)
  fin)))))) [Y (.aa t),Y (.aa kn),Y (.af [.bl tk,.bl lp,.bl cl,.ab dp]),O,O,O,O,O,O,O] (T2 h t kn K x s [])=fin (ls t kn tk lp cl dp (Y (.aa (h.length+i))) O O) (T2 h t kn K x s g):=by
 have T:∃ g i W,Ws 5 K tk g i W/\∀ b,(af (au cu (iC 4 (bt (b' 3) (bt (b' 4) (bt (b' 5) (bt (b' 6) iB))))))
  (af (au (bj (aa (ag "say") (aa (ag "slip") (aa (ag "slip") (aa (ag "call") (aa (ag "row") ae)))))) (b' 7))
  (af (az (mB (aw (S.bh b_) (ao aR (ag "slips")) (aq 0))) (au (bj (aa (ag "say") (aa (ag "say") (aa (ag "call") (aa (ag "row") (aa (ag "leave") ae)))))) (b' 7)) ai) b))) [Y (.aa t),Y (.aa kn),Y (.af [.bl tk,.bl lp,.bl cl,.ab dp]),O,O,O,O,O,O,O] (T2 h t kn K x s [])=b (ls t kn tk lp cl dp (Y (.aa (h.length+i))) O O) (T2 h t kn K x s g):=by
  by_cases q:s=0
  .refine⟨[.aa (["say","slip","slip","call","row"].map λz=>U.ae (i_ z)),.aa (["say","say","call","row","leave"].map λz=>U.ae (i_ z))],1,["say","say","call","row","leave"].map i_,⟨rfl,λw c=>.inl (by simp at c ⊢;rcases c with h | h | h | h<;>simp[h]),by decide⟩,λb=>?_⟩;rw[ab (σ':=ls t kn tk lp cl dp O O O) (h':=T2 h t kn K x s []) nofun,ab (σ':=ls t kn tk lp cl dp (Y (.aa h.length)) O O) (h':=T2 h t kn K x s [.aa (["say","slip","slip","call","row"].map λz=>U.ae (i_ z))]) nofun,ab];simp[ig E,nI E,q]
  .refine⟨[.aa (["say","slip","slip","call","row"].map λz=>U.ae (i_ z))],0,["say","slip","slip","call","row"].map i_,⟨rfl,λw c=>.inl (by simp at c ⊢;rcases c with h | h | h | h<;>simp[h]),by decide⟩,λb=>?_⟩;rw[ab (σ':=ls t kn tk lp cl dp O O O) (h':=T2 h t kn K x s []) nofun,ab (σ':=ls t kn tk lp cl dp (Y (.aa h.length)) O O) (h':=T2 h t kn K x s [.aa (["say","slip","slip","call","row"].map λz=>U.ae (i_ z))]) nofun,ab];simp[ig E,nI E,q]
 obtain⟨d,l,A,m,V⟩:=T;have X:∃ g i W,Ws 7 K tk g i W/\az (mB (aw (S.bh L) (ao aR (ag "marks")) dZ)) (au (aw aI n6 (bj (aa (ag "on") (aa (ag "off") ae)))) (b' 7)) ai (ls t kn tk lp cl dp (Y (.aa (h.length+l))) O O) (T2 h t kn K x s d)=Y (.nx (ls t kn tk lp cl dp (Y (.aa (h.length+i))) O O),T2 h t kn K x s g):=by
  have Z:(T2 h t kn K x s (d++[.aa []]))[h.length+d.length]?=Y (.aa []):=by rw[dR];simp
  have n:=abc (neg:=L) (ms:=K.ab) Z;have I:l<d.length:=(W2.mp m.aa).1;have e:(d++[MO.aa []])[l]?=Y (.aa (A.map .ae)):=by rw[W3 I];exact m.aa
  cases B:K.ab with
  |nil=>
   refine⟨d++[.aa []],l,A,⟨e,m.ok,by have:=m.ab;lia⟩,?_⟩;rw[aF (k:=b_) (h':=T2 h t kn K x s (d++[.aa []])) (by
    rw[B]at n;simp[ig E,fB E,B];simp at n;simp[n]),W5 Xb]
   rfl
  |cons a r=>
   have P:=m.ab;have N:=mm (h:=h) (t:=t) (kn:=kn) (K:=K) (x:=x) (s:=s) (g:=d++[.aa []]) (i:=l) (W:=A) (ws:=["on","off"].map i_) (σ:=ls t kn tk lp cl dp (Y (.aa (h.length+l))) O O) (v:=7) (j:=0) (ar:=aa (ag "on") (aa (ag "off") ae)) rfl e ⋯ ∅ (λH=>rfl);refine⟨d++[.aa []]++[.aa ((["on","off"].map i_).map .ae),.aa ((A++["on","off"].map i_).map .ae)],(d++[MO.aa []]).length+1,A++["on","off"].map i_,⟨?_,λw c=>?_,by simp;lia⟩,?_⟩
   rotate_left 2
   .rw[aF (k:=L) (h':=T2 h t kn K x s (d++[.aa []])) (by
     rw[B]at n;simp[ig E,fB E,B];simp at n;simp[n]),W0 rfl]
    exact aC N
   .rw[Xz (Yo _)];simp
   .rcases XG.mp c with z | z
    .exact m.ok w z
    .exact .inr (.inl ⟨by rw[B];simp,z⟩)
 obtain⟨e,D,F,C,e2⟩:=X;have a3:∃ g i W,Ws 9 K tk g i W/\az (dS bC) (au (aw aI n6 (bj (aa (ag "pass") (aa (ag "pass") ae)))) (b' 7)) ai (ls t kn tk lp cl dp (Y (.aa (h.length+D))) O O) (T2 h t kn K x s e)=Y (.nx (ls t kn tk lp cl dp (Y (.aa (h.length+i))) O O),T2 h t kn K x s g):=by
  have P:=C.ab;cases tk with
  |false=>
   refine⟨e,D,F,⟨C.aa,C.ok,by lia⟩,?_⟩;rw[aF (k:=b_) (h':=T2 h t kn K x s e) (by simp[eS]),W5 Xb];rfl
  |true=>
   have N:=mm (h:=h) (t:=t) (kn:=kn) (K:=K) (x:=x) (s:=s) (g:=e) (i:=D) (W:=F) (ws:=["pass","pass"].map i_) (σ:=ls t kn L lp cl dp (Y (.aa (h.length+D))) O O) (v:=7) (j:=0) (ar:=aa (ag "pass") (aa (ag "pass") ae)) rfl C.aa ⋯ ∅ (λH=>rfl);refine⟨e++[.aa ((["pass","pass"].map i_).map .ae),.aa ((F++["pass","pass"].map i_).map .ae)],e.length+1,F++["pass","pass"].map i_,⟨?_,λw c=>?_,by simp;lia⟩,?_⟩
   rotate_left 2
   .rw[aF (k:=L) (h':=T2 h t kn K x s e) (by simp[eS]),W0 rfl];exact aC N
   .rw[Xz (Yo _)];simp
   .rcases XG.mp c with z | z
    .exact C.ok w z
    .exact .inr (.inr ⟨rfl,by simpa using z⟩)
 obtain⟨f,o,G,p,e3⟩:=a3;have a4:∃ g i W,Ws 10 K tk g i W/\az (dS c4) (aO (fy aL n6 (aa (ag "stop") ae))) ai (ls t kn tk lp cl dp (Y (.aa (h.length+o))) O O) (T2 h t kn K x s f)=Y (.nx (ls t kn tk lp cl dp (Y (.aa (h.length+i))) O O),T2 h t kn K x s g):=by
  have P:=p.ab;have I:o<f.length:=(W2.mp p.aa).1;cases lp with
  |false=>
   refine⟨f,o,G,⟨p.aa,p.ok,by lia⟩,?_⟩;rw[aF (k:=b_) (h':=T2 h t kn K x s f) (by simp[eS]),W5 Xb];rfl
  |true=>
   have Q:(T2 h t kn K x s f)[h.length+o]?=Y (.aa (G.map .ae)):=by rw[dR];exact p.aa
   have ap:=cX (u:=.ae "stop") Q (by simp;lia);refine⟨f.set o (.aa (G.map .ae++[.ae "stop"])),o,G++[i_ "stop"],⟨by rw[XC I];simp,λw c=>?_,by simp;lia⟩,?_⟩
   .rcases XG.mp c with z | z
    .exact p.ok w z
    .exact .inl (by simp at z;simp[z])
   .rw[aF (k:=L) (h':=T2 h t kn K x s f) (by simp[eS]),W0 rfl];simp[cg Q,ap]
 obtain⟨g4,i4,W4,w4,e4⟩:=a4;exact⟨g4,i4,W4,w4,by rw[V,ab e2,ab e3,ab e4]⟩
end D11
namespace D11
open PySem L2 S RN
variable [kf:KF]
variable {h g g':MH}{t kn:Nat}{K:Kn}{x y s:Int}
theorem pf {a b c d e:String}{h:MH}:Dn b_ (.ae e) (.af [.ae a,.ae b,.ae c,.ae d]) h=Y (.bl (j' (e=a\/e=b\/e=c\/e=d)),h):=by
 have:=Dq (neg:=b_) (k:=i_ e) (os:=[i_ a,i_ b,i_ c,i_ d]) (h:=h);simp at this;simpa using this
noncomputable def gL:List (j_×U):=[((p_ (i_ "say"):j_),U.ae (i_ "words")),(p_ (i_ "slip"),U.ae (i_ "kinds")),(p_ (i_ "call"),U.ae (i_ "rooms"))]
theorem Hl {d y x:ME}{σ:bu}{h:MH}:fC d y x σ h=(d σ h).bind λp=>if cU p.2 p.1=L then(y σ p.2).bind λq=>(x σ q.2).bind λr=>(bS r.2 p.1 q.1).bind λo=>Y (o.getD r.1,r.2) else none:=rfl
theorem Au {σ:bu}{H:MH}:eC (aB (ag "say") (ag "words") (aB (ag "slip") (ag "kinds") (aB (ag "call") (ag "rooms") eD))) σ H=Y (.aa H.length,H++[.dK gL]):=by
 simp[lx,lR,et,c7,gL]
theorem C7 {σ:bu}{H:MH}{z:String}{o:Option U}(a:σ[8]?=Y (Y (.ae z)))(b:bx gL (p_ (i_ z))=o):fC (eC (aB (ag "say") (ag "words") (aB (ag "slip") (ag "kinds") (aB (ag "call") (ag "rooms") eD)))) lY (ag "marks") σ H=Y (o.getD (.ae "marks"),H++[.dK gL]):=by
 rw[Hl,Au];obtain⟨c,d⟩:=dq (h:=H++[MO.dK gL]) (n:=H.length) (kvs:=gL) (z:=i_ z) nofun;simp only[WZ,c,if_true,c8,a,BW,d,b]
theorem lb {V:List M}(a:V≠[])(e:V.length<=100):∃ v∈V,L2.iw (V.map U.ae) (x%(V.length:Int))=Y (.ae v):=by
 have f:0<V.length:=X5.mpr a;obtain⟨i,c⟩:=md (x:=x) (m:=(V.length:Int)) ⋯;obtain⟨d,b⟩:∃ d:Nat,x%(V.length:Int)=(d:Int):=⟨(x%(V.length:Int)).toNat,by lia⟩;rw[b]at c;obtain⟨v,a⟩:∃ v,V[d]?=Y v:=⟨_,W6 ⋯⟩;exact⟨v,Xk a,by rw[b,S.cv,Xd,a];rfl⟩
theorem mR (E:dN h t kn K){V:List M}(a:V≠[])(j:V.length<=8){w:M}{σ:bu}(b:σ[0]?=Y (Y (.aa t)))(c:σ[8]?=Y (Y (.ae w)))(d:σ[9]?=Y (Y (.ag (V.map .ae)))) :
  ∃ v∈V,ax BQ σ (T2 h t kn K x s g)=Y (.rt (.af [.ae w,.ae v]),T2 h t kn K (x/V.length) s g):=by
 have k:0<V.length:=X5.mpr a;obtain⟨v,e,f⟩:=lb (x:=x) a ⋯;refine⟨v,e,a7 ?_⟩;have i:=eW (x:=x) (s:=s) (g:=g) E (m:=(V.length:Int)) ⋯ ⋯;simp[b,c,d,i,f]
theorem DR (E:dN h t kn K){w:M}{σ:bu}(c:σ[0]?=Y (Y (.aa t)))(d:σ[8]?=Y (Y (.ae w)))(e:σ[9]?=Y (Y (.aa K.ka))) :
  ∃ v∈K.aa,ax BQ σ (T2 h t kn K x s g)=Y (.rt (.af [.ae w,.ae v]),T2 h t kn K (x/K.aa.length) s g):=by
 have q:0<K.aa.length:=X5.mpr E.k0;have r:=E.k8;obtain⟨v,f,j⟩:=lb (x:=x) E.k0 ⋯;refine⟨v,f,a7 ?_⟩;have k:=eW (x:=x) (s:=s) (g:=g) E (m:=(K.aa.length:Int)) ⋯ ⋯;have l:fj [.aa K.ka] (T2 h t kn K x s g)=Y (.ab K.aa.length,T2 h t kn K x s g):=by
  show(match(T2 h t kn K x s g)[K.ka]? with | some (.dK a)=>Y (U.ab a.length,T2 h t kn K x s g) | some (.aa o)=>Y (U.ab o.length,T2 h t kn K x s g) | _=>O)=_;rw[uF E];simp
 obtain⟨p,b⟩:=eH (h:=T2 h t kn K (x/K.aa.length) s g) (n:=K.ka) (us:=K.aa.map .ae) (i:=x%(K.aa.length:Int)) (uF E);rw[j]at b;simp[c,d,e,l,k,p,b]
structure sL (K:Kn)(tk:Bool)(d:aA M):Prop where
 aa:w_ d=[]
 ok:∀ H:aK M,((∀ r∈K.ae,∃ e,H.aa.lookup r=Y e)/\(∀ m∈K.ab,m∈H.ab)/\∀ w∈K.af,w∈H.af)->Ok H tk d
theorem GB (E:dN h t kn K)(C:h[t]?=Y (.aa [.ab x]))(Z:h[kn]?=Y (.dK (i5 K s))){tk lp cl:Bool}{dp:Int} :
  ∃ d y s',oF [.aa t,.aa kn,.af [.bl tk,.bl lp,.bl cl,.ab dp]] h=Y (a_ d,(h.set kn (.dK (i5 K s'))).set t (.aa [.ab y]))/\sL K tk d:=by
 have D:∃ d y s' g,iU ak [Y (.aa t),Y (.aa kn),Y (.af [.bl tk,.bl lp,.bl cl,.ab dp]),O,O,O,O,O,O,O] (T2 h t kn K x s [])=Y (.rt (a_ d),T2 h t kn K y s' g)/\sL K tk d:=by
  unfold iU;obtain⟨g,i,W,ws,e⟩:=xE (x:=x) (s:=s) E (tk:=tk) (lp:=lp) (cl:=cl) (dp:=dp) (fin:=(af (au (ao (aw aI n6 (bj (aa (ag "leave") ae))) (ah 2 ak (aa aG (aa (aw aI Ms (aq 1)) ae)))) (b' 8))
  (af (az (mB (gu b_ lY (av (aa (ag "pass") (aa (ag "stop") (aa (ag "leave") (aa (ag "row") ae))))))) (ax Ij) ai)
  (af (az (mB (aw (S.bh b_) lY (ag "slip"))) (aW aR (ag "slips") (aw dO (ao aR (ag "slips")) (aq 1))) ai)
  (af (au (ao aR (fC (eC (aB (ag "say") (ag "words") (aB (ag "slip") (ag "kinds") (aB (ag "call") (ag "rooms") eD)))) lY (ag "marks"))) (b' 9))
  (ax BQ))))))
  rw[e];clear e;have wl:=ws.ab;have hi:i<g.length:=(W2.mp ws.aa).1;have pw:∃ w y c,Lf K tk w/\au (ao (aw aI n6 (bj (aa (ag "leave") ae))) (ah 2 ak (aa aG (aa (aw aI Ms (aq 1)) ae)))) (b' 8) (ls t kn tk lp cl dp (Y (.aa (h.length+i))) O O) (T2 h t kn K x s g)=Y (.nx (ls t kn tk lp cl dp (Y (.aa (h.length+i))) (Y (.ae w)) O),T2 h t kn K y s c):=by
   have ad:=mm (h:=h) (t:=t) (kn:=kn) (K:=K) (x:=x) (s:=s) (g:=g) (i:=i) (W:=W) (ws:=[i_ "leave"]) (σ:=ls t kn tk lp cl dp (Y (.aa (h.length+i))) O O) (v:=7) (j:=0) (ar:=aa (ag "leave") ae) rfl ws.aa ⋯ ∅ (λH=>rfl);obtain⟨w,mw,N⟩:=lb (x:=x) (V:=W++[i_ "leave"]) nofun (by simp;lia);have r:(((W++[i_ "leave"]).length:Nat):Int)=(W.length:Int)+1:=by simp
   rw[r]at N;have dg:=eW (x:=x) (s:=s) (g:=g++[.aa ([i_ "leave"].map .ae),.aa ((W++[i_ "leave"]).map .ae)]) E (m:=(W.length:Int)+1) ⋯ ⋯;obtain⟨i1,P⟩:=eH (h:=T2 h t kn K (x/((W.length:Int)+1)) s (g++[.aa ([i_ "leave"].map .ae),.aa ((W++[i_ "leave"]).map .ae)])) (n:=h.length+(g.length+1)) (us:=(W++[i_ "leave"]).map .ae) (i:=x%((W.length:Int)+1)) (by rw[dR];simp);rw[N]at P;have ln:fj [.aa (h.length+i)] (T2 h t kn K x s (g++[.aa ([i_ "leave"].map .ae),.aa ((W++[i_ "leave"]).map .ae)]))=Y (.ab W.length,T2 h t kn K x s (g++[.aa ([i_ "leave"].map .ae),.aa ((W++[i_ "leave"]).map .ae)])):=by
    show(match(T2 h t kn K x s (g++[.aa ([i_ "leave"].map .ae),.aa ((W++[i_ "leave"]).map .ae)]))[h.length+i]? with | some (.dK F)=>Y (U.ab F.length,_) | some (.aa xs)=>Y (U.ab xs.length,_) | _=>O)=_;rw[dR,W3 hi,ws.aa];simp
   refine⟨w,x/((W.length:Int)+1),_,?_,aC (u:=.ae w) (h':=T2 h t kn K (x/((W.length:Int)+1)) s (g++[.aa ([i_ "leave"].map .ae),.aa ((W++[i_ "leave"]).map .ae)])) ?_⟩
   .rcases XG.mp mw with z | z
    .exact ws.ok w z
    .exact .inl (by simp at z;simp[z])
   .rw[nW,ad];simp only[WZ,jW,bI,c8,Xm,Xg,mX,qT,eP,ln,BW,yd,Xa,Xy,Nat.reduceAdd,if_true,dg,i1,W5 Xb,P]
  obtain⟨w,y,c,f,Q⟩:=pw;rw[ab Q];clear Q;have a {d:aA M} {z:String} (p:w=i_ z) (hz:z = "pass"\/z = "stop"\/z = "leave"\/z = "row") (B:a_ d=.af [.ae z]) (hl:sL K tk d):∃ d G s' g',(af (az (mB (gu b_ lY (av (aa (ag "pass") (aa (ag "stop") (aa (ag "leave") (aa (ag "row") ae))))))) (ax Ij) ai)
  (af (az (mB (aw (S.bh b_) lY (ag "slip"))) (aW aR (ag "slips") (aw dO (ao aR (ag "slips")) (aq 1))) ai)
  (af (au (ao aR (fC (eC (aB (ag "say") (ag "words") (aB (ag "slip") (ag "kinds") (aB (ag "call") (ag "rooms") eD)))) lY (ag "marks"))) (b' 9))
  (ax BQ))))  (ls t kn tk lp cl dp (Y (.aa (h.length+i))) (Y (.ae w)) O) (T2 h t kn K y s c)=Y (.rt (a_ d),T2 h t kn K G s' g')/\sL K tk d:=by
   refine⟨d,y,s,c,cM ?_,hl⟩;rw[aF (k:=L) (h':=T2 h t kn K y s c) (by rw[p];simp[pf,hz]),W0 rfl];refine a7 ?_;rw[B,p];simp
  have b {z m:String} {V:List M} {d:M->aA M} {I:U} (p:w=i_ z) (hz:¬ (z = "pass"\/z = "stop"\/z = "leave"\/z = "row")) (s':Int)
    (h1:az (mB (aw (S.bh b_) lY (ag "slip"))) (aW aR (ag "slips") (aw dO (ao aR (ag "slips")) (aq 1))) ai (ls t kn tk lp cl dp (Y (.aa (h.length+i))) (Y (.ae w)) O) (T2 h t kn K y s c)=Y (.nx (ls t kn tk lp cl dp (Y (.aa (h.length+i))) (Y (.ae w)) O),T2 h t kn K y s' c))
    (h2:bx gL (p_ (i_ z))=if m = "marks" then O else Y (.ae m))
    (h3:∀ y s g,bS (T2 h t kn K y s g) (.aa kn) (.ae m)=Y (Y I))
    (h4:∀ g,∃ v∈V,ax BQ (ls t kn tk lp cl dp (Y (.aa (h.length+i))) (Y (.ae w)) (Y I)) (T2 h t kn K y s' g)=Y (.rt (.af [.ae w,.ae v]),T2 h t kn K (y/V.length) s' g))
    (B:∀ v∈V,a_ (d v)=.af [.ae z,.ae v]/\sL K tk (d v)):∃ d G s' g',(af (az (mB (gu b_ lY (av (aa (ag "pass") (aa (ag "stop") (aa (ag "leave") (aa (ag "row") ae))))))) (ax Ij) ai)
  (af (az (mB (aw (S.bh b_) lY (ag "slip"))) (aW aR (ag "slips") (aw dO (ao aR (ag "slips")) (aq 1))) ai)
  (af (au (ao aR (fC (eC (aB (ag "say") (ag "words") (aB (ag "slip") (ag "kinds") (aB (ag "call") (ag "rooms") eD)))) lY (ag "marks"))) (b' 9))
  (ax BQ))))  (ls t kn tk lp cl dp (Y (.aa (h.length+i))) (Y (.ae w)) O) (T2 h t kn K y s c)=Y (.rt (a_ d),T2 h t kn K G s' g')/\sL K tk d:=by
   obtain⟨v,o,e4⟩:=h4 (c++[.dK gL]);refine⟨d v,y/V.length,s',c++[.dK gL],?_,(B v o).2⟩;rw[ab (σ':=ls t kn tk lp cl dp (Y (.aa (h.length+i))) (Y (.ae w)) O) (h':=T2 h t kn K y s c),ab h1,ab (σ':=ls t kn tk lp cl dp (Y (.aa (h.length+i))) (Y (.ae w)) (Y I)) (h':=T2 h t kn K y s' (c++[.dK gL])),e4,(B v o).1,p]
   .refine aC ?_;have T:=C7 (σ:=ls t kn tk lp cl dp (Y (.aa (h.length+i))) (Y (.ae w)) O) (H:=T2 h t kn K y s' c) (z:=z) (by rw[p];rfl) h2;have hm:((if m = "marks" then O else Y (U.ae (i_ m))).getD (.ae "marks"))=U.ae (i_ m):=by by_cases q:m = "marks"<;>simp[q]
    rw[hm]at T;rw[nW,show aR=bZ 1 from rfl,c8];simp only[Xm,Xg,WZ,T,o6,ig E,if_true,h3]
   .rw[aF (k:=b_) (h':=T2 h t kn K y s c) (by rw[p];simp[pf,hz]),W5 Xb];rfl
  rcases f with f | ⟨X,f⟩ | ⟨C,f⟩
  .simp at f;rcases f with rfl | rfl | rfl | rfl | rfl | rfl
   .exact b (z:="say") (m:="words") (V:=K.af) (d:=.aq) rfl ∅ s nofun (by simp[bx,gL]) (λy s g=>AE E) (λg=>mR E E.w0 E.w8 rfl rfl rfl) (λv o=>⟨rfl,rfl,λH A=>.aj (A.2.2 v o)⟩)
   .exact b (z:="slip") (m:="kinds") (V:=K.aa) (d:=.aE) rfl ∅ (s-1) (by simp[ig E,nI E,xj E]) (by simp[bx,gL]) (λy s g=>rG E) (λg=>DR E rfl rfl rfl) (λv _=>⟨rfl,rfl,λH _=>.aE⟩)
   .exact b (z:="call") (m:="rooms") (V:=K.ae) (d:=.ae) rfl ∅ s nofun (by simp[bx,gL]) (λy s g=>AD E) (λg=>mR E E.r0 E.r8 rfl rfl rfl) (λv o=>⟨rfl,rfl,λH A=>by obtain⟨e,he⟩:=A.1 v o;exact .ab he⟩)
   .exact a (z:="row") (d:=.ah []) rfl nofun rfl ⟨rfl,λH _=>.ah nofun⟩
   .exact a (z:="leave") (d:=.ai) rfl nofun rfl ⟨rfl,λH _=>.ai⟩
   .exact a (z:="stop") (d:=.ak) rfl nofun rfl ⟨rfl,λH _=>.ao⟩
  .simp at f;rcases f with rfl | rfl
   .exact b (z:="on") (m:="marks") (V:=K.ab) (d:=.on) rfl ∅ s nofun (by simp[bx,gL]) (λy s g=>fB E) (λg=>mR E X E.m8 rfl rfl rfl) (λv o=>⟨rfl,rfl,λH A=>.on (A.2.1 v o)⟩)
   .exact b (z:="off") (m:="marks") (V:=K.ab) (d:=.ao) rfl ∅ s nofun (by simp[bx,gL]) (λy s g=>fB E) (λg=>mR E X E.m8 rfl rfl rfl) (λv _=>⟨rfl,rfl,λH _=>.aq⟩)
  .subst f;subst C;exact a (z:="pass") (d:=.aj) rfl nofun rfl ⟨rfl,λH _=>.ak⟩
 obtain⟨d,y,s',g,e,l⟩:=D;refine⟨d,y,s',C0 (u:=a_ d) (g:=g) ?_ (zm E) ((a6 d).af (Xl _)).ji,l⟩;refine bD ?_;show iU ak [Y (.aa t),Y (.aa kn),Y (.af [.bl tk,.bl lp,.bl cl,.ab dp]),O,O,O,O,O,O,O] h=_
 conv=>lhs;rw[uH C Z]
 exact e
end D11
namespace D11
open PySem L2 S RN
variable [kf:KF]
variable {h g:MH}{t kn:Nat}{K:Kn}{x y s:Int}
noncomputable def gg:Nat->MF
 |0=>λ_ _=>O
 |n+1=>xK ak oF hL (gg n)
noncomputable def wl:Nat->aA M->Nat
 |0,_=>0
 |n+1,d=>1+((w_ d).map (wl n)).sum
structure dH (K:Kn)(tk:Bool)(n B:Nat)(d:aA M):Prop where
 sz:wl n d<=B
 sm:Sm d
 aa:yD n d
 ok:∀ H:aK M,((∀ r∈K.ae,∃ e,H.aa.lookup r=Y e)/\(∀ m∈K.ab,m∈H.ab)/\∀ w∈K.af,w∈H.af)->Ok H tk d
theorem sL.cz {tk:Bool}{n B:Nat}{d:aA M}(l:sL K tk d):dH K tk (n+1) (max 1 B) d:=⟨by unfold wl;rw[l.aa];exact Nat.le_max_left _ _,.mk (by rw[l.aa];decide) (by rw[l.aa];simp),.mk (by rw[l.aa];simp),l.ok⟩
theorem dN.T2 (E:dN h t kn K):dN (T2 h t kn K x s g) t kn K:=⟨E.k0,E.r0,E.w0,E.k8,E.m8,E.r8,E.w8,uF E,E.kt,E.kk,E.tk,by have:=E.tl;rw[sR];lia,by have:=E.kl;rw[sR];lia⟩
theorem yI (E:dN h t kn K){s':Int}:((T2 h t kn K x s g).set kn (.dK (i5 K s'))).set t (.aa [.ab y])=T2 h t kn K y s' g:=by rw[uG E,yJ E]
theorem xD (E:dN h t kn K){tk lp cl:Bool}{dp:Int}:∃ d y s',oF [.aa t,.aa kn,.af [.bl tk,.bl lp,.bl cl,.ab dp]] (T2 h t kn K x s g)=Y (a_ d,T2 h t kn K y s' g)/\sL K tk d:=by
 obtain⟨d,y,s',e,l⟩:=GB (E.T2 (x:=x) (s:=s) (g:=g)) (Jo E) (mj E) (tk:=tk) (lp:=lp) (cl:=cl) (dp:=dp);rw[yI E]at e;exact⟨d,y,s',e,l⟩
theorem ET (E:dN h t kn K){m:Nat}{room:Int}(b:m<=100)(c:(m:Int)<=room)(a:room<=1000):∃ (ss:List Int) (y:Int),hL [.aa t,.ab m,.ab room] (T2 h t kn K x s g)=Y (.ag (ss.map .ab),T2 h t kn K y s g)/\pH m room ss:=by
 obtain⟨ss,y,e,l⟩:=Bt (h:=T2 h t kn K x s g) (Jo E) b c a;rw[yJ E]at e;exact⟨ss,y,e,l⟩
def Wd (K:Kn)(w:M):Prop:=w∈["row","catch","pick","again","clean"].map i_\/(K.ab≠[]/\w=i_ "when")
noncomputable abbrev ds (t kn:Nat)(room:Int)(tk lp cl:Bool)(dp:Int)(r:List (Option U)):bu:=Y (.aa t)::Y (.aa kn)::Y (.ab room)::Y (.af [.bl tk,.bl lp,.bl cl,.ab dp])::Y (.bl tk)::Y (.bl lp)::Y (.bl cl)::Y (.ab dp)::r
theorem xg (E:dN h t kn K){room:Int}{tk lp cl:Bool}{dp:Int}{fin:MS}:∃ g y w,Wd K w/\∃ z,(af (au (bj (aa (ag "row") (aa (ag "catch") (aa (ag "pick") (aa (ag "again") (aa (ag "row") (aa (ag "catch") ae))))))) (b' 8))
  (af (az Ig (au (aw aI lY (bj (aa (ag "clean") (aa (ag "clean") ae)))) (b' 8)) ai)
  (af (az (mB (aw (S.bh L) (ao aR (ag "marks")) dZ)) (aO (fy aL lY (aa (ag "when") ae))) ai)
  (af (au Pl (b' 9)) fin)))) (ds t kn room tk lp cl dp (O::O::O::O::[O,O,O,O,O,O,O,O,O])) (T2 h t kn K x s [])=fin (ds t kn room tk lp cl dp (Y z::Y (.ae w)::O::O::[O,O,O,O,O,O,O,O,O])) (T2 h t kn K y s g):=by
 have N:∃ g i W,(g[i]?=Y (MO.aa (W.map U.ae))/\W≠[]/\W.length<=8/\∀ w∈W,w∈["row","catch","pick","again","clean"].map i_)/\∀ b,(af (au (bj (aa (ag "row") (aa (ag "catch") (aa (ag "pick") (aa (ag "again") (aa (ag "row") (aa (ag "catch") ae))))))) (b' 8))
  (af (az Ig (au (aw aI lY (bj (aa (ag "clean") (aa (ag "clean") ae)))) (b' 8)) ai) b)) (ds t kn room tk lp cl dp (O::O::O::O::[O,O,O,O,O,O,O,O,O])) (T2 h t kn K x s [])=b (ds t kn room tk lp cl dp (Y (.aa (h.length+i))::O::O::O::[O,O,O,O,O,O,O,O,O])) (T2 h t kn K x s g):=by
  have B:au (bj (aa (ag "row") (aa (ag "catch") (aa (ag "pick") (aa (ag "again") (aa (ag "row") (aa (ag "catch") ae))))))) (b' 8) (ds t kn room tk lp cl dp (O::O::O::O::[O,O,O,O,O,O,O,O,O])) (T2 h t kn K x s [])=Y (.nx (ds t kn room tk lp cl dp (Y (.aa h.length)::O::O::O::[O,O,O,O,O,O,O,O,O])),T2 h t kn K x s [.aa ((["row","catch","pick","again","row","catch"].map i_).map .ae)]):=by simp
  cases cl with
  |true=>
   refine⟨[.aa ((["row","catch","pick","again","row","catch"].map i_).map .ae)],0,["row","catch","pick","again","row","catch"].map i_,⟨rfl,XH _ _,by decide,λw e=>by simp at e ⊢;rcases e with z | z | z | z | z | z<;>simp[z]⟩,λb=>?_⟩;rw[ab B,ab];simp[eS]
  |false=>
   have P:=mm (h:=h) (t:=t) (kn:=kn) (K:=K) (x:=x) (s:=s) (g:=[.aa ((["row","catch","pick","again","row","catch"].map i_).map .ae)]) (i:=0) (W:=["row","catch","pick","again","row","catch"].map i_) (ws:=["clean","clean"].map i_) (σ:=ds t kn room tk lp b_ dp (Y (.aa h.length)::O::O::O::[O,O,O,O,O,O,O,O,O])) (v:=8) (j:=0) (ar:=aa (ag "clean") (aa (ag "clean") ae)) rfl rfl ∅ ∅ (λH=>rfl);refine⟨[.aa ((["row","catch","pick","again","row","catch"].map i_).map .ae)]++[.aa ((["clean","clean"].map i_).map .ae),.aa ((["row","catch","pick","again","row","catch"].map i_++["clean","clean"].map i_).map .ae)],2,["row","catch","pick","again","row","catch"].map i_++["clean","clean"].map i_,⟨rfl,by simp,by decide,λw e=>by simp at e ⊢;rcases e with z | z | z | z | z | z | z<;>simp[z]⟩,λb=>?_⟩;rw[ab B,ab];rw[aF (k:=L) (h':=T2 h t kn K x s [.aa ((["row","catch","pick","again","row","catch"].map i_).map .ae)]) (by simp[eS]),W0 rfl];exact aC P
 obtain⟨d,c,o,⟨C,Q,w3,D⟩,T⟩:=N;have X:c<d.length:=(W2.mp C).1;have Z:∃ g W,(g[c]?=Y (MO.aa (W.map U.ae))/\W≠[]/\W.length<=9/\∀ w∈W,Wd K w)/\az (mB (aw (S.bh L) (ao aR (ag "marks")) dZ)) (aO (fy aL lY (aa (ag "when") ae))) ai (ds t kn room tk lp cl dp (Y (.aa (h.length+c))::O::O::O::[O,O,O,O,O,O,O,O,O])) (T2 h t kn K x s d)=Y (.nx (ds t kn room tk lp cl dp (Y (.aa (h.length+c))::O::O::O::[O,O,O,O,O,O,O,O,O])),T2 h t kn K x s g):=by
  have hn:(T2 h t kn K x s (d++[.aa []]))[h.length+d.length]?=Y (.aa []):=by rw[dR];simp
  have n:=abc (neg:=L) (ms:=K.ab) hn;have f:(d++[MO.aa []])[c]?=Y (.aa (o.map .ae)):=by rw[W3 X];exact C
  cases p:K.ab with
  |nil=>
   refine⟨d++[.aa []],o,⟨f,Q,by lia,λw e=>.inl (D w e)⟩,?_⟩;rw[aF (k:=b_) (h':=T2 h t kn K x s (d++[.aa []])) (by
    rw[p]at n;simp[ig E,fB E,p];simp at n;simp[n]),W5 Xb]
   rfl
  |cons a r=>
   have q:(T2 h t kn K x s (d++[.aa []]))[h.length+c]?=Y (.aa (o.map .ae)):=by rw[dR];exact f
   have F:=cX (u:=.ae "when") q (by simp;lia);refine⟨(d++[MO.aa []]).set c (MO.aa (o.map U.ae++[U.ae "when"])),o++[i_ "when"],⟨by rw[XC (by simp;lia)];simp,by simp,by simp;lia,λw e=>?_⟩,?_⟩
   .rcases XG.mp e with z | z
    .exact .inl (D w z)
    .exact .inr ⟨by rw[p];simp,by simpa using z⟩
   .rw[aF (k:=L) (h':=T2 h t kn K x s (d++[.aa []])) (by
     rw[p]at n;simp[ig E,fB E,p];simp at n;simp[n]),W0 rfl]
    refine cQ (u:=.aQ) ?_;rw[sS]at F;simp only[Ew,c8,Xm,Xg,WZ,cg q,bI,BW,eP,F]
 obtain⟨f,l,⟨v1,G,v3,v4⟩,e2⟩:=Z;obtain⟨w,mw,ew⟩:=lb (x:=x) (V:=l) G ⋯;have h0:0<l.length:=X5.mpr G;have q:∀ z,(T2 h t kn K z s f)[h.length+c]?=Y (.aa (l.map .ae)):=λz=>by rw[dR];exact v1
 have dg:=eW (x:=x) (s:=s) (g:=f) E (m:=(l.length:Int)) ⋯ ⋯;obtain⟨j1,I⟩:=eH (i:=x%(l.length:Int)) (q (x/l.length));rw[ew]at I;have ln:fj [.aa (h.length+c)] (T2 h t kn K x s f)=Y (.ab l.length,T2 h t kn K x s f):=by
  show(match(T2 h t kn K x s f)[h.length+c]? with | some (.dK A)=>Y (U.ab A.length,_) | some (.aa xs)=>Y (U.ab xs.length,_) | _=>O)=_;rw[q];simp
 refine⟨f,x/l.length,w,v4 w mw,.aa (h.length+c),?_⟩;rw[T,ab e2,ab];refine aC (u:=.ae w) ?_;simp only[nW,jW,bI,c8,qT,Xm,Xg,WZ,ln,eP,Xa,Xy,Nat.reduceAdd,if_true,dg,j1,W5 Xb,I]
noncomputable def gI:List (j_×U):=[(p_ "row",.ab 1),(p_ "again",.ab 1),(p_ "catch",.ab 2),(p_ "clean",.ab 2),(p_ "pick",.ab 2),(p_ "when",.ab 2)]
noncomputable def lE:List (j_×U):=[(p_ "row",.ab 4),(p_ "again",.ab 1),(p_ "catch",.ab 4),(p_ "clean",.ab 2),(p_ "pick",.ab 3),(p_ "when",.ab 2)]
def Sz (w:M)(l m:Nat):Prop:=(w=i_ "row"/\l=1/\m=4)\/(w=i_ "again"/\l=1/\m=1)\/(w=i_ "catch"/\l=2/\m=4)\/(w=i_ "clean"/\l=2/\m=2)\/(w=i_ "pick"/\l=2/\m=3)\/(w=i_ "when"/\l=2/\m=2)
theorem Wd.sz {w:M}(b:Wd K w):∃ l m,Sz w l m/\bx gI (p_ w)=Y (.ab (l:Nat))/\bx lE (p_ w)=Y (.ab (m:Nat))/\(w=i_ "when"->K.ab≠[]):=by
 rcases b with b | ⟨c,rfl⟩
 .simp at b;rcases b with rfl | rfl | rfl | rfl | rfl
  .exact⟨1,4,.inl ⟨rfl,rfl,rfl⟩,by simp[bx,gI],by simp[bx,lE],by simp⟩
  .exact⟨2,4,.inr (.inr (.inl ⟨rfl,rfl,rfl⟩)),by simp[bx,gI],by simp[bx,lE],by simp⟩
  .exact⟨2,3,.inr (.inr (.inr (.inr (.inl ⟨rfl,rfl,rfl⟩)))),by simp[bx,gI],by simp[bx,lE],by simp⟩
  .exact⟨1,1,.inr (.inl ⟨rfl,rfl,rfl⟩),by simp[bx,gI],by simp[bx,lE],by simp⟩
  .exact⟨2,2,.inr (.inr (.inr (.inl ⟨rfl,rfl,rfl⟩))),by simp[bx,gI],by simp[bx,lE],by simp⟩
 .exact⟨2,2,.inr (.inr (.inr (.inr (.inr ⟨rfl,rfl,rfl⟩)))),by simp[bx,gI],by simp[bx,lE],λ_=>c⟩
theorem Sz.le {w:M}{l m:Nat}(q:Sz w l m):1<=l/\l<=m/\m<=4/\l<=2:=by
 rcases q with⟨_,rfl,rfl⟩ | ⟨_,rfl,rfl⟩ | ⟨_,rfl,rfl⟩ | ⟨_,rfl,rfl⟩ | ⟨_,rfl,rfl⟩ | ⟨_,rfl,rfl⟩<;>decide
theorem xi {σ:bu}{H:MH}:eC (aB (ag "row") (aq 1) (aB (ag "again") (aq 1) (aB (ag "catch") (aq 2) (aB (ag "clean") (aq 2) (aB (ag "pick") (aq 2) (aB (ag "when") (aq 2) eD)))))) σ H=Y (.aa H.length,H++[.dK gI]):=by
 simp[lx,lR,et,c7,gI]
theorem Av {σ:bu}{H:MH}:eC (aB (ag "row") (aq 4) (aB (ag "again") (aq 1) (aB (ag "catch") (aq 4) (aB (ag "clean") (aq 2) (aB (ag "pick") (aq 3) (aB (ag "when") (aq 2) eD)))))) σ H=Y (.aa H.length,H++[.dK lE]):=by
 simp[lx,lR,et,c7,lE]
theorem yY {d:MP}{kvs:List (j_×U)}{σ:bu}{H:MH}{v:Nat}{w:M}{u:U}(b:eC d σ H=Y (.aa H.length,H++[.dK kvs]))(c:σ[v]?=Y (Y (.ae w)))(e:bx kvs (p_ w)=Y u):ao (eC d) (bZ v) σ H=Y (u,H++[.dK kvs]):=by
 obtain⟨f,i⟩:=dq (h:=H++[MO.dK kvs]) (n:=H.length) (kvs:=kvs) (z:=w) nofun;rw[nW,b];simp only[WZ,c8,c,f,if_true,i,e]
def gZ (K:Kn)(tk:Bool)(w:M)(N B:Nat)(l:List (aA M)):Prop:=(l.map (wl N)).sum<=B/\∀ k d,l[k]?=Y d->∃ b,dH K (tk || (j' (w=i_ "catch")&&j' (0<k))) N b d
theorem gZ.aa {tk:Bool}{w:M}{N B b:Nat}{l:List (aA M)}{d:aA M}(p:gZ K tk w N B l)(q:dH K (tk || (j' (w=i_ "catch")&&j' (0<l.length))) N b d):gZ K tk w N (B+b) (l++[d]):=⟨by
 have f:=p.1;have i:=q.sz;simp;lia,λk e c=>by
 by_cases z:k<l.length
 .rw[W3 z]at c;exact p.2 k e c
 .have:k=l.length:=by have:=(W2.mp c).1;simp at this;lia
  subst this;simp at c;subst c;exact⟨b,q⟩⟩
theorem E7 {ss:List Int}(h1:∀ s∈ss,1<=s){i:Nat}{r:Int}(b:ss[i]?=Y r):((ss.take i).map ZG).sum+max 1 r.toNat=((ss.take (i+1)).map ZG).sum:=by
 have c:=h1 r (Xk b);rw[Y6,b];simp;lia
section
variable {σ:bu}{a:Nat}{p q:Bool}{w:M}{z:String}{H:MH}{X:ME}
theorem acC (b:σ[a]?=Y (Y (.bl p)))(c:σ[9]?=Y (Y (.ae w))):ql (bZ a) (aw (S.bh b_) pC (ag z)) σ H=Y (.bl (p || decide (w=i_ z)),H):=by
 cases p
 .by_cases n:w=i_ z<;>simp[b,c,n]
 .simp[b]
theorem DZ (b:σ[a]?=Y (Y (.bl p)))(c:σ[9]?=Y (Y (.ae w)))(d:X σ H=Y (.bl q,H)):ql (bZ a) (oJ (aw (S.bh b_) pC (ag z)) X) σ H=Y (.bl (p || (j' (w=i_ z)&&q)),H):=by
 cases p
 .by_cases n:w=i_ z
  .simp[b,c,n,d]
  .have e:(w == i_ z)=false:=by simpa using n
   simp[b,c,n,e]
 .simp[b]
theorem Ss {a b c d:ME}{e f i u4:U}(j:a σ H=Y (e,H))(k:b σ H=Y (f,H))(l:c σ H=Y (i,H))(m:d σ H=Y (u4,H)):av (aa a (aa b (aa c (aa d ae)))) σ H=Y (.af [e,f,i,u4],H):=by simp[j,k,l,m]
end
def Jg (f:MF):MS:=(af (au (ql c4 (oJ (aw (S.bh b_) pC (ag "catch")) (aw PJ (bZ 15) (aq 0)))) (b' 16))
  (af (au (ql gV (oJ (aw (S.bh b_) pC (ag "clean")) (aw (S.bh b_) (bZ 15) (aq 1)))) (b' 17))
  (af (au (av (aa (bZ 16) (aa (ql jn (aw (S.bh b_) pC (ag "again"))) (aa (bZ 17) (aa (aw aI n6 (aq 1)) ae))))) (b' 18))
  (aO (fy aL ng (aa (ah 4 f Pj) ae))))))
def Ff (f:MF):MS:=eJ (dz (aa (bZ 12) ae)) (b' 15) (Jg f)
theorem xf (E:dN h t kn K){f:MF}{N many:Nat}{room:Int}{tk lp cl:Bool}{dp:Int}{w:M}{o8 o10 o11:Option U}{ss:List Int}{S:List (Option U)->bu}(v:S=λr=>ds t kn room tk lp cl dp (o8::Y (.ae w)::o10::o11::Y (.ab many)::Y (.ag (ss.map .ab))::Y (.aa (h.length+g.length))::r))(F:ss.length=many)(W:many<=4)(hb:∀ k∈ss,k<=1000)(G:∀ k∈ss,1<=k)
  (I:∀ (r:Int) (tk lp cl:Bool) (x s:Int) (g:MH),r<=1000->∃ d y s',f [.aa t,.aa kn,.ab r,.af [.bl tk,.bl lp,.bl cl,.ab (dp+1)]] (T2 h t kn K x s g)=Y (a_ d,T2 h t kn K y s' g)/\dH K tk N (max 1 r.toNat) d) :
  ∃ (l:List (aA M)) (y s':Int) (o15 o16 o17 o18:Option U),l.length=many/\gZ K tk w N (ss.map ZG).sum l/\Ff f (S [O,O,O,O,O,O]) (T2 h t kn K x s (g++[.aa []]))=Y (.nx (S [o15,o16,o17,o18,O,O]),T2 h t kn K y s' (g++[.aa (l.map a_)])):=by
 obtain⟨P,Z,Q,l,y,s',c,e,rfl,o15,o16,o17,o18,rfl⟩:=kj (mi:=dz (aa (bZ 12) ae)) (j:=15) (b:=Jg f) (σ:=S [O,O,O,O,O,O]) (h:=T2 h t kn K x s (g++[.aa []])) (h1:=T2 h t kn K x s (g++[.aa []]))
  (λi σ H=>∃ (l:List (aA M)) (y s':Int),l.length=i/\gZ K tk w N ((ss.take i).map ZG).sum l/\H=T2 h t kn K y s' (g++[.aa (l.map a_)])/\∃ o15 o16 o17 o18,σ=S [o15,o16,o17,o18,O,O])
  (eF (n:=many) (by rw[v];rfl) ⋯) ⋯ ⟨[],x,s,rfl,⟨WY _,λk d z=>by simp at z⟩,rfl,O,O,O,O,rfl⟩
  (λi σ H hi q=>by
   obtain⟨l,y,s',c,e,rfl,o15,o16,o17,o18,rfl⟩:=q;subst v;obtain⟨r,m⟩:∃ r,ss[i]?=Y r:=⟨_,W6 ⋯⟩;have o:L2.iw (ss.map U.ab) (i:Int)=Y (.ab r):=by rw[S.cv,Xd,m];rfl
   have A:∀ y s',(T2 h t kn K y s' (g++[.aa (l.map a_)]))[h.length+g.length]?=Y (.aa (l.map a_)):=λy s'=>by rw[dR];simp
   obtain⟨d,B,C,T,V⟩:=I r (tk || (j' (w=i_ "catch")&&j' (0<i))) (lp || decide (w=i_ "again")) (cl || (j' (w=i_ "clean")&&j' (i=1))) y s' (g++[.aa (l.map a_)]) (hb r (Xk m));have D:=cX (u:=a_ d) (A B C) (by simp;lia);rw[sS]at D;refine⟨_,_,(ab (aC (DZ rfl rfl (q:=j' (0<i)) nofun))).trans ((ab (aC (DZ rfl rfl (q:=j' (i=1)) (by by_cases n:i=1<;>simp[n]<;>lia)))).trans ((ab (aC (Ss rfl (acC rfl rfl) rfl (u4:=.ab (dp+1)) nofun))).trans (cQ (u:=.aQ) ?_))),l++[d],B,C,by simp[c],(by rw[<-E7 G m];exact e.aa (by rw[c];exact V)),rfl,_,_,_,_,rfl⟩;simp only[Ew,c8,List.set_cons_succ,List.set_cons_zero,Xm,Xg,WZ,cg (A _ _),bI,jW,nW,Ex,W5 Xb,Ez,o,eP,Xa,Xy,Nat.reduceAdd,if_true,T,D];simp)
 exact⟨l,y,s',o15,o16,o17,o18,c,by rw[<-F,Y7]at e;exact e,Q⟩
theorem u6 (E:dN h t kn K){σ:bu}(c:σ[0]?=Y (Y (.aa t)))(d:σ[1]?=Y (Y (.aa kn))):∃ v y,v∈K.aa/\ao (ao aR (ag "kinds")) (ah 2 ak (aa aG (aa (eB fj (aa (ao aR (ag "kinds")) ae)) ae))) σ (T2 h t kn K x s g)=Y (.ae v,T2 h t kn K y s g):=by
 have p:0<K.aa.length:=X5.mpr E.k0;have q:=E.k8;obtain⟨v,e,f⟩:=lb (x:=x) E.k0 ⋯;refine⟨v,x/K.aa.length,e,?_⟩;have j:=eW (x:=x) (s:=s) (g:=g) E (m:=(K.aa.length:Int)) ⋯ ⋯;have k:fj [.aa K.ka] (T2 h t kn K x s g)=Y (.ab K.aa.length,T2 h t kn K x s g):=by
  show(match(T2 h t kn K x s g)[K.ka]? with | some (.dK a)=>Y (U.ab a.length,T2 h t kn K x s g) | some (.aa l)=>Y (U.ab l.length,T2 h t kn K x s g) | _=>O)=_;rw[uF E];simp
 obtain⟨o,b⟩:=eH (h:=T2 h t kn K (x/K.aa.length) s g) (n:=K.ka) (us:=K.aa.map .ae) (i:=x%(K.aa.length:Int)) (uF E);rw[f]at b;simp only[nW,c8,c,d,WZ,BW,ig E,if_true,rG E,jW,bI,qT,k,eP,Xa,Xy,Nat.reduceAdd,j,o,W5 Xb,b]
theorem u7 (E:dN h t kn K)(a:K.ab≠[]){σ:bu}(b:σ[0]?=Y (Y (.aa t)))(c:σ[1]?=Y (Y (.aa kn))):∃ v y,v∈K.ab/\ao (ao aR (ag "marks")) (ah 2 ak (aa aG (aa (eB fj (aa (ao aR (ag "marks")) ae)) ae))) σ (T2 h t kn K x s g)=Y (.ae v,T2 h t kn K y s g):=by
 have i:0<K.ab.length:=X5.mpr a;have j:=E.m8;obtain⟨v,d,e⟩:=lb (x:=x) a ⋯;refine⟨v,x/K.ab.length,d,?_⟩;have f:=eW (x:=x) (s:=s) (g:=g) E (m:=(K.ab.length:Int)) ⋯ ⋯;simp[nW,c8,b,c,ig E,fB E,f,e]
def Uh:MS:=aO (fy aL (bZ 19) (aa (av (aa (ao (ao aR (ag "kinds")) (ah 2 ak (aa aG (aa (eB fj (aa (ao aR (ag "kinds")) ae)) ae)))) (aa (bZ 20) ae))) ae))
def Ui:MS:=eJ (cy (lS ng (b8 (aq 1)) bo)) (b' 20) Uh
theorem BB (E:dN h t kn K){room:Int}{tk lp cl:Bool}{dp:Int}{l:List (aA M)}{j:Nat}{o8 o9 o10 o11 o12 o13 o15 o16 o17 o18:Option U}{S:Option U->bu}(c:S=λo=>ds t kn room tk lp cl dp [o8,o9,o10,o11,o12,o13,Y (.aa (h.length+j)),o15,o16,o17,o18,Y (.aa (h.length+g.length)),o])(r:g[j]?=Y (.aa (l.map a_)))(Q:l.length<=100) :
  ∃ (ts:List (M×aA M)) (y:Int) (a:Option U),ts.map (·.2)=l.drop 1/\Ui (S O) (T2 h t kn K x s (g++[.aa []])) =
   Y (.nx (S a),T2 h t kn K y s (g++[.aa (ts.map gW),.aa ((l.drop 1).map a_)])):=by
 have B:j<g.length:=(W2.mp r).1;have w:∀ {y:Int}{us ws:List U},(T2 h t kn K y s (g++[.aa us,.aa ws]))[h.length+g.length]?=Y (.aa us):=λ{y us ws}=>by rw[dR];simp
 have k:∀ {y:Int}{us ws:List U},(T2 h t kn K y s (g++[.aa us,.aa ws]))[h.length+(g.length+1)]?=Y (.aa ws):=λ{y us ws}=>by rw[dR,Xz ⋯];simp
 obtain⟨T,V,C,ts,y,a,D,rfl,rfl⟩:=pb (mi:=cy (lS ng (b8 (aq 1)) bo)) (g:=b' 20) (b:=Uh)
  (σ:=S O) (h:=T2 h t kn K x s (g++[.aa []])) (h1:=T2 h t kn K x s (g++[.aa [],.aa ((l.drop 1).map a_)])) (it:=qf (h.length+(g.length+1))) (l.drop 1).length (by simp;lia)
  (λi σ H=>∃ (ts:List (M×aA M)) (y:Int) (a:Option U),ts.length=i/\ts.map (·.2)=(l.drop 1).take i/\H=T2 h t kn K y s (g++[.aa (ts.map gW),.aa ((l.drop 1).map a_)])/\σ=S a)
  (λf H=>∃ (ts:List (M×aA M)) (y:Int) (a:Option U),ts.map (·.2)=l.drop 1/\H=T2 h t kn K y s (g++[.aa (ts.map gW),.aa ((l.drop 1).map a_)])/\f=.nx (S a))
  (by
   have F:(T2 h t kn K x s (g++[.aa []]))[h.length+j]?=Y (.aa (l.map a_)):=by rw[dR,W3 B];exact r
   have G:BX (.aa (h.length+j)) (Y 1) O (T2 h t kn K x s (g++[.aa []]))=Y (.aa (h.length+(g.length+1)),T2 h t kn K x s (g++[.aa [],.aa ((l.drop 1).map a_)])):=by
    show(cK (T2 h t kn K x s (g++[.aa []])) (.aa (h.length+j))).bind _=_;have:cK (T2 h t kn K x s (g++[.aa []])) (.aa (h.length+j))=Y (l.map a_):=by unfold cK;dsimp only;rw[F]
    rw[this,WZ,show(Y (1:Int))=Y ((1:Nat):Int) from rfl,u3,o6,sR];simp
   have I:lS ng (b8 (aq 1)) bo (S O) (T2 h t kn K x s (g++[.aa []]))=Y (.aa (h.length+(g.length+1)),T2 h t kn K x s (g++[.aa [],.aa ((l.drop 1).map a_)])):=by
    subst c;rw[OE,show ng=bZ 14 from rfl,c8];simp only[Xm,Xg,WZ,ye,BW,vS,G]
   rw[Ls,I];show(match(T2 h t kn K x s (g++[.aa [],.aa ((l.drop 1).map a_)]))[h.length+(g.length+1)]? with | some (.aa _)=>Y (qf (h.length+(g.length+1)),_) | _=>O)=_;rw[k])
  ⟨[],x,O,rfl,by simp,rfl,rfl⟩
  (λi σ H N q=>by
   obtain⟨ts,y,a,e,m,rfl,rfl⟩:=q;obtain⟨d,z⟩:∃ d,(l.drop 1)[i]?=Y d:=⟨_,W6 N⟩;obtain⟨v,n,W,P⟩:=u6 (x:=y) (s:=s) (g:=g++[.aa (ts.map gW),.aa ((l.drop 1).map a_)]) E (σ:=S (Y (a_ d))) (by subst c;rfl) (by subst c;rfl);have p:(l.drop 1).length<=100:=by simp;lia
   have A:=cX (u:=gW (v,d)) (w (y:=n) (us:=ts.map gW) (ws:=(l.drop 1).map a_)) (by simp;lia);rw[sS]at A;refine⟨a_ d,S (Y (a_ d)),_,.nx (S (Y (a_ d))),T2 h t kn K n s (g++[.aa ((ts++[(v,d)]).map gW),.aa ((l.drop 1).map a_)]),?_,by subst c;rfl,cQ (u:=.aQ) ?_,ts++[(v,d)],n,Y (a_ d),by simp[e],by rw[XS,m,Y6,z];rfl,rfl,rfl⟩
   .unfold qf;rw[k];show Y ((l.drop 1).map a_)[i]?=_;rw[Xd,z];rfl
   .subst c;simp only[Ew,c8,Xm,Xg,WZ,cg w,bI,vT,P,eP,Xa,Xy,W0 (sz (show 0+1+1<=1000 by decide))];rw[show U.af [.ae v,a_ d]=gW (v,d) from rfl,A];simp)
  (λσ H q=>by
   obtain⟨ts,y,a,e,m,rfl,rfl⟩:=q;refine⟨?_,ts,y,a,by rw[m,Y7],rfl,rfl⟩;unfold qf;rw[k];simp)
 exact⟨ts,y,a,D,C⟩
end D11
namespace D11
open PySem L2 S RN
variable [kf:KF]
variable {h g g':MH}{t kn:Nat}{K:Kn}{x y s:Int}
theorem jF {tk:Bool}{w:M}{N B:Nat}{l:List (aA M)}(p:gZ K tk w N B l)(f:l.length<1000)(i:w≠i_ "catch"){d:aA M}(c:w_ d=l)(j:∀ H:aK M,(∀ e∈l,Ok H tk e)->Ok H tk d):dH K tk (N+1) (1+B) d:=by
 have q:∀ e∈l,∃ b,dH K tk N b e:=λe a=>by
  obtain⟨k,m⟩:=acU a;have:=p.2 k e m;simpa [i]using this
 exact⟨by have:=p.1;unfold wl;rw[c];lia,.mk (by rw[c];exact f) (by rw[c];exact λe a=>let ⟨_,z⟩:=q e a;z.sm),.mk (by rw[c];exact λe a=>let ⟨_,z⟩:=q e a;z.aa),λH n=>j H λe a=>let ⟨_,z⟩:=q e a;z.ok H n⟩
theorem xc {tk:Bool}{N B:Nat}{l:List (aA M)}{a:aA M}{ts:List (M×aA M)}(p:gZ K tk (i_ "catch") N B l)(n:l.length<1000)(e:l=a::ts.map (·.2)):dH K tk (N+1) (1+B) (.aa a ts):=by
 obtain⟨_,i⟩:∃ b,dH K tk N b a:=by have:=p.2 0 a (by rw[e];rfl);simpa using this
 have j:∀ x∈ts,∃ b,dH K L N b x.2:=λx c=>by
  obtain⟨k,o⟩:=acU c;have:=p.2 (k+1) x.2 (by rw[e,Xg,Xd,o];rfl);simpa using this
 have f:w_ (.aa a ts)=l:=e.symm;have q:∀ d∈l,Sm d/\yD N d:=λd hd=>by
  rw[e]at hd;rcases Xj.mp hd with rfl | hd
  .exact⟨i.sm,i.aa⟩
  .obtain⟨x,c,rfl⟩:=Xp.mp hd;obtain⟨_,z⟩:=j x c;exact⟨z.sm,z.aa⟩
 exact⟨by have:=p.1;unfold wl;rw[f];lia,.mk (by rw[f];exact n) (by rw[f];exact λd hd=>(q d hd).1),.mk (by rw[f];exact λd hd=>(q d hd).2),λH m=>.af (i.ok H m) λx c=>let ⟨_,z⟩:=j x c;z.ok H m⟩
def Fe:MS:=(af (az (mB (aw (S.bh b_) pC (ag "when"))) (ax (av (aa (ag "when") (aa (ao (ao aR (ag "marks")) (ah 2 ak (aa aG (aa (eB fj (aa (ao aR (ag "marks")) ae)) ae)))) (aa (ao ng (aq 0)) (aa (ao ng (aq 1)) ae)))))) ai)
  (af (az (mB (aw (S.bh L) pC (ag "catch"))) (ax Ph) ai)
  (af (au dZ (b' 19))
  (af Ui
  (ax (aw aI (av (aa (ag "catch") (aa (ao ng (aq 0)) ae))) (eB fH (aa (bZ 19) ae))))))))
theorem CI (E:dN h t kn K){N B:Nat}{room:Int}{tk lp cl:Bool}{dp:Int}{w:M}{a b:Nat}{l:List (aA M)}(p:Sz w a b)(A:w=i_ "when"->K.ab≠[])(h1:a<=l.length)(h2:l.length<=b)(n:gZ K tk w N B l){o8 o10 o11 o12 o13 o15 o16 o17 o18:Option U} :
  ∃ d y g',Fe (ds t kn room tk lp cl dp [o8,Y (.ae w),o10,o11,o12,o13,Y (.aa (h.length+g.length)),o15,o16,o17,o18,O,O]) (T2 h t kn K x s (g++[.aa (l.map a_)]))=Y (.rt (a_ d),T2 h t kn K y s g')/\dH K tk (N+1) (1+B) d:=by
 have hb:=p.le;have C:∀ y,(T2 h t kn K y s (g++[.aa (l.map a_)]))[h.length+g.length]?=Y (.aa (l.map a_)):=λy=>by rw[dR];simp
 have e {d:aA M} {z:String} (D:w=i_ z) (Q:z≠"when") (S:z≠"catch") (T:a_ d=.af (.ae z::l.map a_)) (V:dH K tk (N+1) (1+B) d):∃ d y g',Fe (ds t kn room tk lp cl dp [o8,Y (.ae w),o10,o11,o12,o13,Y (.aa (h.length+g.length)),o15,o16,o17,o18,O,O]) (T2 h t kn K x s (g++[.aa (l.map a_)]))=Y (.rt (a_ d),T2 h t kn K y s g')/\dH K tk (N+1) (1+B) d:=by
  refine⟨d,x,g++[.aa (l.map a_)],?_,V⟩
  delta Fe
  have F:=nX (C x);have hz:l.length+1<=1000000:=by lia
  rw[ab (σ':=ds t kn room tk lp cl dp [o8,Y (.ae w),o10,o11,o12,o13,Y (.aa (h.length+g.length)),o15,o16,o17,o18,O,O]) (h':=T2 h t kn K x s (g++[.aa (l.map a_)])) (by subst D;simp[Q])];refine cM ?_;rw[aF (k:=L) (h':=T2 h t kn K x s (g++[.aa (l.map a_)])) (by subst D;simp[S]),W0 rfl];refine a7 ?_;rw[T];subst D;have G:1+l.length<=1000000:=by lia
  simp[F,G]
 rcases p with⟨rfl,rfl,rfl⟩ | ⟨rfl,rfl,rfl⟩ | ⟨rfl,rfl,rfl⟩ | ⟨rfl,rfl,rfl⟩ | ⟨rfl,rfl,rfl⟩ | ⟨rfl,rfl,rfl⟩
 .exact e (z:="row") (d:=.ah l) rfl ∅ ∅ (by rw[a_,cx]) (jF n ⋯ nofun rfl λH q=>.ah q)
 .obtain⟨c,rfl⟩:∃ c,l=[c]:=by
   match l,h1,h2 with
   |[c],_,_=>exact⟨c,rfl⟩
  exact e (z:="again") (d:=.ab c) rfl ∅ ∅ (by rw[a_];rfl) (jF n nofun nofun rfl λH q=>.aa (q c nofun))
 .cases l with
  |nil=>simp at h1
  |cons a l=>
   obtain⟨m,y,W,X,Z⟩:=BB (x:=x) (s:=s) (g:=g++[.aa ((a::l).map a_)]) E (room:=room) (tk:=tk) (lp:=lp) (cl:=cl) (dp:=dp) (l:=a::l) (j:=g.length) (o8:=o8) (o9:=Y (.ae "catch")) (o10:=o10) (o11:=o11) (o12:=o12) (o13:=o13) (o15:=o15) (o16:=o16) (o17:=o17) (o18:=o18) rfl nofun ⋯;have SY:m.map (·.2)=l:=X;refine⟨.aa a m,y,g++[.aa ((a::l).map a_)]++[.aa (m.map gW),.aa (((a::l).drop 1).map a_)],?_,xc n ⋯ (by rw[SY])⟩
   delta Fe
   rw[ab (σ':=ds t kn room tk lp cl dp [o8,Y (.ae "catch"),o10,o11,o12,o13,Y (.aa (h.length+g.length)),o15,o16,o17,o18,O,O]) (h':=T2 h t kn K x s (g++[.aa ((a::l).map a_)])) nofun,ab (σ':=ds t kn room tk lp cl dp [o8,Y (.ae "catch"),o10,o11,o12,o13,Y (.aa (h.length+g.length)),o15,o16,o17,o18,O,O]) (h':=T2 h t kn K x s (g++[.aa ((a::l).map a_)])) nofun,ab (σ':=ds t kn room tk lp cl dp [o8,Y (.ae "catch"),o10,o11,o12,o13,Y (.aa (h.length+g.length)),o15,o16,o17,o18,Y (.aa (h.length+(g++[MO.aa ((a::l).map a_)]).length)),O]) (h':=T2 h t kn K x s (g++[.aa ((a::l).map a_)]++[.aa []])) nofun,ab Z];refine a7 ?_;have p1:∀ o r,(T2 h t kn K y s (g++[.aa ((a::l).map a_)]++[.aa o,.aa r]))[h.length+g.length]?=Y (.aa ((a::l).map a_)):=λo r=>by rw[dR];simp
   have p2:∀ o r,(T2 h t kn K y s (g++[.aa ((a::l).map a_)]++[.aa o,.aa r]))[h.length+(g++[MO.aa ((a::l).map a_)]).length]?=Y (.aa o):=λo r=>by rw[dR,Xz (WY _)];simp
   obtain⟨I,u⟩:=eH (i:=0) (p1 (m.map gW) (((a::l).drop 1).map a_));have F:=nX (p2 (m.map gW) (((a::l).drop 1).map a_));have IT:m.length=l.length:=by rw[<-SY];simp
   have hz:2+m.length<=1000000:=by simp at h2;lia
   rw[a_,cH];rw[show L2.iw ((a::l).map a_) 0=Y (a_ a) from Iu]at u;simp only[mX,vT,bI,BW,nW,c8,Xm,Xg,WZ,I,W5 Xb,u,eP,Xa,Xy,W0 (sz (show 0+1+1<=1000 by decide)),qT,F,Lk,Xw,acM,ZJ,W0 (sz (show 0+1+1+m.length<=1000 by simp at h2;lia))]
 .obtain⟨c,f,rfl⟩:∃ c f,l=[c,f]:=by
   match l,h1,h2 with
   |[c,f],_,_=>exact⟨c,f,rfl⟩
  exact e (z:="clean") (d:=.af c f) rfl ∅ ∅ (by rw[a_];rfl) (jF n nofun nofun rfl λH q=>.ag (q c nofun) (q f nofun))
 .exact e (z:="pick") (d:=.ag l) rfl ∅ ∅ (by rw[a_,cx]) (jF n ⋯ nofun rfl λH q=>.ae ⋯ q)
 .obtain⟨c,f,rfl⟩:∃ c f,l=[c,f]:=by
   match l,h1,h2 with
   |[c,f],_,_=>exact⟨c,f,rfl⟩
  obtain⟨v,y,mv,ev⟩:=u7 (x:=x) (s:=s) (g:=g++[.aa ([c,f].map a_)]) E (A rfl) (σ:=ds t kn room tk lp cl dp [o8,Y (.ae "when"),o10,o11,o12,o13,Y (.aa (h.length+g.length)),o15,o16,o17,o18,O,O]) rfl rfl;refine⟨.fz v c f,y,g++[.aa ([c,f].map a_)],?_,jF n nofun nofun rfl λH q=>.fz (q c nofun) (q f nofun)⟩;refine cM ?_;rw[aF (k:=L) (h':=T2 h t kn K x s (g++[.aa ([c,f].map a_)])) nofun,W0 rfl];refine a7 ?_;obtain⟨I,u⟩:=eH (i:=0) (C y);obtain⟨_,P⟩:=eH (i:=1) (C y);rw[show L2.iw ([c,f].map a_) 0=Y (a_ c) from Iu]at u;rw[show L2.iw ([c,f].map a_) 1=Y (a_ f) from Nm]at P;rw[a_,vT,bI,EB,WZ,bI,ev];simp only[bI,BW,nW,c8,Xm,Xg,WZ,I,W5 Xb,u,P,eP,Xa,Xy,W0 (sz (show 0+1+1+1+1<=1000 by decide))]
def Fh (f:MF):MS:=(af (au (aw aI nc (ah 2 ak (aa aG (aa (aw aI (aw dO (eB t9 (aa wu (aa (aw dO cu (aq 1)) ae))) nc) (aq 1)) ae)))) (b' 12))
  (af (au (ah 3 hL (aa aG (aa (bZ 12) (aa (aw dO cu (aq 1)) ae)))) (b' 13))
  (af (au dZ (b' 14))
  (af (Ff f) Fe))))
def sD (f:MF):MS:=(af (au (ao (eC (aB (ag "row") (aq 1) (aB (ag "again") (aq 1) (aB (ag "catch") (aq 2) (aB (ag "clean") (aq 2) (aB (ag "pick") (aq 2) (aB (ag "when") (aq 2) eD))))))) pC) (b' 10))
  (af (au (ao (eC (aB (ag "row") (aq 4) (aB (ag "again") (aq 1) (aB (ag "catch") (aq 4) (aB (ag "clean") (aq 2) (aB (ag "pick") (aq 3) (aB (ag "when") (aq 2) eD))))))) pC) (b' 11))
  (af (az (mB (aw GG (aw dO cu (aq 1)) nc)) (ax (ah 3 oF BP)) ai)
  (Fh f))))
def Fs (fin:MS):MS:=(af (au (bj (aa (ag "row") (aa (ag "catch") (aa (ag "pick") (aa (ag "again") (aa (ag "row") (aa (ag "catch") ae))))))) (b' 8))
  (af (az Ig (au (aw aI lY (bj (aa (ag "clean") (aa (ag "clean") ae)))) (b' 8)) ai)
  (af (az (mB (aw (S.bh L) (ao aR (ag "marks")) dZ)) (aO (fy aL lY (aa (ag "when") ae))) ai)
  (af (au Pl (b' 9)) fin))))
theorem CH {f:MF}:iT ak oF hL f=(af (au bC (iC 4 (bt (b' 4) (bt (b' 5) (bt (b' 6) (bt (b' 7) iB))))))
  (af (az (qS (mB (aw GG cu (aq 2))) (qS (mB (aw (S.bh b_) n6 (aq 12))) (mB (aw (S.bh b_) (ah 2 ak (aa aG (aa (aq 6) ae))) (aq 5))))) (ax (ah 3 oF BP)) ai) (Fs (sD f)))):=rfl
noncomputable abbrev nn (z8:Option U)(w:M)(o10 o11 o12 o13 a:Option U):List (Option U):=[z8,Y (.ae w),o10,o11,o12,o13,a,O,O,O,O,O,O]
def lZ (n:Nat):Prop:=∀ (b:Nat) (h:MH) (t kn:Nat) (K:Kn) (x s a:Int) (c e f:Bool),b<=12->13<=b+n->a<=1000->dN h t kn K->h[t]?=Y (.aa [.ab x])->h[kn]?=Y (.dK (i5 K s))->
  ∃ d y i,gg n [.aa t,.aa kn,.ab a,.af [.bl c,.bl e,.bl f,.ab (b:Nat)]] h=Y (a_ d,(h.set kn (.dK (i5 K i))).set t (.aa [.ab y]))/\dH K c (13-b) (max 1 a.toNat) d
theorem aa':∀ {ss:List Int},(∀ s∈ss,1<=s)->((ss.map ZG).sum:Int)=ss.sum
 |[],_=>rfl
 |a::r,h=>by
  have:=aa' (ss:=r) λs b=>h s (by simp[b])
  have:=h a nofun;simp;lia
theorem GI {n:Nat}(IH:lZ n){dp:Nat}{room y1:Int}{tk lp cl:Bool}(h1:dp<12)(h2:13<=dp+(n+1))(hr:room<=1000)(E:dN h t kn K){w:M}{a b:Nat}{z8:Option U}(Ug:Sz w a b)(wn:w=i_ "when"->K.ab≠[])(q7:¬ room-1<(a:Int)) :
  ∃ d y s' g',Fh (gg n) (ds t kn room tk lp cl (dp:Nat) (nn z8 w (Y (.ab (a:Nat))) (Y (.ab (b:Nat))) O O O)) (T2 h t kn K y1 s g)=Y (.rt (a_ d),T2 h t kn K y s' g')/\dH K tk (13-dp) (max 1 room.toNat) d:=by
 have PK:13-dp=(12-dp)+1:=by lia
 have WB:=Ug.le;have QU:∃ c:Int,(if room-1<(b:Int) then room-1 else(b:Int))=c/\(a:Int)<=c/\c<=b/\c<=room-1:=⟨_,rfl,by split<;>lia,by split<;>lia,by split<;>lia⟩;obtain⟨c,hc,c1,c2,c3⟩:=QU;have dg:=eW (x:=y1) (s:=s) (g:=g) E (m:=c-a+1) ⋯ ⋯;obtain⟨m1,m2⟩:=md (x:=y1) (m:=c-a+1) ⋯;obtain⟨many,NO⟩:∃ many:Nat,(a:Int)+y1%(c-a+1)=(many:Int):=⟨((a:Int)+y1%(c-a+1)).toNat,by lia⟩;have SX:au (aw aI nc (ah 2 ak (aa aG (aa (aw aI (aw dO (eB t9 (aa wu (aa (aw dO cu (aq 1)) ae))) nc) (aq 1)) ae)))) (b' 12) (ds t kn room tk lp cl (dp:Nat) (nn z8 w (Y (.ab (a:Nat))) (Y (.ab (b:Nat))) O O O)) (T2 h t kn K y1 s g)=Y (.nx (ds t kn room tk lp cl (dp:Nat) (nn z8 w (Y (.ab (a:Nat))) (Y (.ab (b:Nat))) (Y (.ab (many:Nat))) O O)),T2 h t kn K (y1/(c-a+1)) s g):=by
  have IQ:(if b>room-1 then room-1 else(b:Int))=c:=hc;simp[IQ,dg,NO]
 generalize y1/(c-a+1)=y2 at SX;obtain⟨ss,y3,es,so⟩:=ET (x:=y2) (s:=s) (g:=g) E (m:=many) (room:=room-1) ⋯ ⋯ ⋯;have UJ:au (ah 3 hL (aa aG (aa (bZ 12) (aa (aw dO cu (aq 1)) ae)))) (b' 13) (ds t kn room tk lp cl (dp:Nat) (nn z8 w (Y (.ab (a:Nat))) (Y (.ab (b:Nat))) (Y (.ab (many:Nat))) O O)) (T2 h t kn K y2 s g)=Y (.nx (ds t kn room tk lp cl (dp:Nat) (nn z8 w (Y (.ab (a:Nat))) (Y (.ab (b:Nat))) (Y (.ab (many:Nat))) (Y (.ag (ss.map .ab))) O)),T2 h t kn K y3 s g):=aC (bf (us:=[.aa t,.ab many,.ab (room-1)]) (h1:=T2 h t kn K y2 s g) nofun rfl es);have UK:au dZ (b' 14) (ds t kn room tk lp cl (dp:Nat) (nn z8 w (Y (.ab (a:Nat))) (Y (.ab (b:Nat))) (Y (.ab (many:Nat))) (Y (.ag (ss.map .ab))) O)) (T2 h t kn K y3 s g)=Y (.nx (ds t kn room tk lp cl (dp:Nat) (nn z8 w (Y (.ab (a:Nat))) (Y (.ab (b:Nat))) (Y (.ab (many:Nat))) (Y (.ag (ss.map .ab))) (Y (.aa (h.length+g.length))))),T2 h t kn K y3 s (g++[.aa []])):=by simp
 obtain⟨l,y4,s4,o15,o16,o17,o18,l1,l2,e4⟩:=xf (x:=y3) (s:=s) (g:=g) E (f:=gg n) (N:=12-dp) (many:=many) (room:=room) (tk:=tk) (lp:=lp) (cl:=cl) (dp:=(dp:Nat)) (w:=w) (o8:=z8) (o10:=Y (.ab (a:Nat))) (o11:=Y (.ab (b:Nat))) (ss:=ss) rfl so.1 ⋯ (λk hk=>by have:=tX so.2.1 k hk;have:=so.2.2;lia) so.2.1
  (λr tk lp cl x s g hr=>by
   obtain⟨d,y,s',e,o⟩:=IH (dp+1) (T2 h t kn K x s g) t kn K x s r tk lp cl ⋯ ⋯ hr (E.T2 (x:=x) (s:=s) (g:=g)) (Jo E) (mj E);rw[yI E]at e;refine⟨d,y,s',?_,?_⟩
   .rw[show((dp:Int)+1)=((dp+1:Nat):Int) by lia];exact e
   .rw[show 12-dp=13-(dp+1) by lia];exact o)
 obtain⟨d,y5,g5,e5,o5⟩:=CI (x:=y4) (s:=s4) (g:=g) E (N:=12-dp) (room:=room) (tk:=tk) (lp:=lp) (cl:=cl) (dp:=(dp:Nat)) (w:=w) (l:=l) Ug wn ⋯ ⋯ l2 (o8:=z8) (o10:=Y (.ab (a:Nat))) (o11:=Y (.ab (b:Nat))) (o12:=Y (.ab (many:Nat))) (o13:=Y (.ag (ss.map .ab))) (o15:=o15) (o16:=o16) (o17:=o17) (o18:=o18);refine⟨d,y5,s4,g5,?_,by rw[PK];exact⟨Xi o5.sz (by have:=aa' so.2.1;have:=so.2.2;lia),o5.sm,o5.aa,o5.ok⟩⟩;unfold Fh;refine(ab SX).trans ((ab UJ).trans ((ab UK).trans ?_));refine(ab (a:=Ff (gg n)) e4).trans ?_;exact e5
theorem HA {n:Nat}(z:lZ n){dp:Nat}{room y1:Int}{tk lp cl:Bool}(h1:dp<12)(h2:13<=dp+(n+1))(A:room<=1000)(E:dN h t kn K){w:M}{z8:Option U}(B:Wd K w) :
  ∃ d y s' g',sD (gg n) (ds t kn room tk lp cl (dp:Nat) (nn z8 w O O O O O)) (T2 h t kn K y1 s g)=Y (.rt (a_ d),T2 h t kn K y s' g')/\dH K tk (13-dp) (max 1 room.toNat) d:=by
 have q:13-dp=(12-dp)+1:=by lia
 obtain⟨a,b,r,C,D,F⟩:=B.sz;have j:=yY (d:=(aB (ag "row") (aq 1) (aB (ag "again") (aq 1) (aB (ag "catch") (aq 2) (aB (ag "clean") (aq 2) (aB (ag "pick") (aq 2) (aB (ag "when") (aq 2) eD))))))) (H:=T2 h t kn K y1 s g) (v:=9) (w:=w) (σ:=ds t kn room tk lp cl (dp:Nat) (nn z8 w O O O O O)) xi rfl C;have m:=yY (d:=(aB (ag "row") (aq 4) (aB (ag "again") (aq 1) (aB (ag "catch") (aq 4) (aB (ag "clean") (aq 2) (aB (ag "pick") (aq 3) (aB (ag "when") (aq 2) eD))))))) (H:=T2 h t kn K y1 s (g++[.dK gI])) (v:=9) (w:=w) (σ:=ds t kn room tk lp cl (dp:Nat) (nn z8 w (Y (.ab (a:Nat))) O O O O)) Av rfl D;rw[o6]at j m;have p:=aC (i:=10) j;have c:=aC (i:=11) m;generalize g++[.dK gI]++[.dK lE]=f at c;by_cases u:room-1<(a:Int)
 .obtain⟨d,y,s',e,l⟩:=xD (x:=y1) (s:=s) (g:=f) E (tk:=tk) (lp:=lp) (cl:=cl) (dp:=(dp:Nat));refine⟨d,y,s',f,?_,by rw[q];exact l.cz⟩;unfold sD;refine(ab p).trans ((ab c).trans (cM ?_));rw[aF (k:=L) (h':=T2 h t kn K y1 s f) (by simp[u]),W0 rfl];refine a7 ?_;simp[e]
 .obtain⟨d,y,s',g',e,o⟩:=GI (s:=s) (g:=f) z (room:=room) (y1:=y1) (tk:=tk) (lp:=lp) (cl:=cl) h1 h2 A E (z8:=z8) r F u;refine⟨d,y,s',g',?_,o⟩;unfold sD;refine(ab p).trans ((ab c).trans ((ab (σ':=ds t kn room tk lp cl (dp:Nat) (nn z8 w (Y (.ab (a:Nat))) (Y (.ab (b:Nat))) O O O)) (h':=T2 h t kn K y1 s f) ?_).trans e));rw[aF (k:=b_) (h':=T2 h t kn K y1 s f) (by simp[u]),W5 Xb];rfl
theorem CJ {n:Nat}(IH:lZ n){dp:Nat}{room:Int}{tk lp cl:Bool}(h1:dp<=12)(h2:13<=dp+(n+1))(hr:room<=1000)(E:dN h t kn K) :
  ∃ d y s' g,iT ak oF hL (gg n) [Y (.aa t),Y (.aa kn),Y (.ab room),Y (.af [.bl tk,.bl lp,.bl cl,.ab (dp:Nat)]),O,O,O,O,O,O,O,O,O,O,O,O,O,O,O,O,O] (T2 h t kn K x s [])=Y (.rt (a_ d),T2 h t kn K y s' g)/\dH K tk (13-dp) (max 1 room.toNat) d:=by
 have PK:13-dp=(12-dp)+1:=by lia
 have e0:au bC (iC 4 (bt (b' 4) (bt (b' 5) (bt (b' 6) (bt (b' 7) iB))))) [Y (.aa t),Y (.aa kn),Y (.ab room),Y (.af [.bl tk,.bl lp,.bl cl,.ab (dp:Nat)]),O,O,O,O,O,O,O,O,O,O,O,O,O,O,O,O,O] (T2 h t kn K x s [])=Y (.nx (ds t kn room tk lp cl (dp:Nat) [O,O,O,O,O,O,O,O,O,O,O,O,O]),T2 h t kn K x s []):=by simp
 rw[CH];by_cases q1:room<2\/dp=12
 .obtain⟨d,y,s',e,l⟩:=xD (x:=x) (s:=s) (g:=[]) E (tk:=tk) (lp:=lp) (cl:=cl) (dp:=(dp:Nat));refine⟨d,y,s',[],(ab e0).trans (cM ?_),by rw[PK];exact l.cz⟩;rw[aF (k:=L) (h':=T2 h t kn K x s []) (by
   by_cases q:room<2
   .simp[q]
   .have:dp=12:=by lia
    simp[q,this]),W0 rfl]
  refine a7 ?_;simp[e]
 .have q2:¬ room<2:=by lia
  have q3:¬ (dp:Int)=12:=by lia
  by_cases q6:x%6=5
  .obtain⟨d,y,s',e,l⟩:=xD (x:=x/6) (s:=s) (g:=[]) E (tk:=tk) (lp:=lp) (cl:=cl) (dp:=(dp:Nat));refine⟨d,y,s',[],(ab e0).trans (cM ?_),by rw[PK];exact l.cz⟩;rw[aF (k:=L) (h':=T2 h t kn K (x/6) s []) (by simp[q2,q3,eW E,q6]),W0 rfl];refine a7 ?_;simp[e]
  .obtain⟨g1,y1,w,wd,z8,e1⟩:=xg (x:=x/6) (s:=s) E (room:=room) (tk:=tk) (lp:=lp) (cl:=cl) (dp:=(dp:Nat)) (fin:=sD (gg n));obtain⟨d,y,s',g',e,o⟩:=HA (s:=s) (g:=g1) IH (room:=room) (y1:=y1) (tk:=tk) (lp:=lp) (cl:=cl) ⋯ h2 hr E (z8:=Y z8) wd;refine⟨d,y,s',g',(ab e0).trans ((ab (σ':=ds t kn room tk lp cl (dp:Nat) [O,O,O,O,O,O,O,O,O,O,O,O,O]) (h':=T2 h t kn K (x/6) s []) ?_).trans (Eq.trans (show Fs (sD (gg n)) _ _=_ from e1) e)),o⟩;rw[aF (k:=b_) (h':=T2 h t kn K (x/6) s []) (by simp[q2,q3,eW E,q6]),W5 Xb];rfl
theorem yX:∀ n,lZ n
 |0=>λdp h t kn K x s room tk lp cl h1 h2=>by lia
 |n+1=>λdp h t kn K x s room tk lp cl h1 h2 hr E ht hk=>by
  obtain⟨d,y,s',g,e,l⟩:=CJ (yX n) (x:=x) (s:=s) (tk:=tk) (lp:=lp) (cl:=cl) h1 h2 hr E;refine⟨d,y,s',C0 (u:=a_ d) (g:=g) ?_ (zm E) ((a6 d).af (Xl _)).ji,l⟩;refine bD ?_;show iT ak oF hL (gg n) [Y (.aa t),Y (.aa kn),Y (.ab room),Y (.af [.bl tk,.bl lp,.bl cl,.ab (dp:Nat)]),O,O,O,O,O,O,O,O,O,O,O,O,O,O,O,O,O] h=_
  conv=>lhs;rw[uH ht hk]
  exact e
end D11
namespace D11
open PySem L2 S RN
variable [kf:KF]
abbrev O5:MF:=fD dG
theorem yD.aa {n:Nat}:∀ {m:Nat}{d:aA M},yD n d->n<=m->yD m d
 |0,d,h,l=>by cases h;lia
 |m+1,d,.mk h,l=>.mk λe a=>(h e a).aa ⋯
theorem Gy {hb g:MH}{t:Nat}{x:Int}(a:t<hb.length):∃ ks y,xC [.aa t] (T hb t x g)=Y (cG ks,T hb t y g)/\Z' ks/\1<=ks.length/\ks.length<=8:=by
 obtain⟨ks,y,e,r⟩:=Dv (h:=T hb t x g) (Pu a);rw[sT a]at e;exact⟨ks,y,e,r⟩
theorem DQ {hb g:MH}{t:Nat}{x:Int}(e:t<hb.length){V:List Int}(a:V≠[])(o:V.length<=20){σ:bu}{ar:MA}{i:Nat}{n:Int}(p:n=V.length)(f:σ[i]?=Y (Y (.aa t)))(j:∀ H,ar σ H=Y (V.map .ab,H)) :
  ∃ v∈V,ao (bj ar) (ah 2 ak (aa (bZ i) (aa (aq n) ae))) σ (T hb t x g)=Y (.ab v,T hb t (x/n) (g++[.aa (V.map .ab)])):=by
 have q:0<V.length:=X5.mpr a;obtain⟨r,s⟩:=md (x:=x) (m:=n) ⋯;obtain⟨d,b⟩:∃ d:Nat,x%n=(d:Int):=⟨(x%n).toNat,by lia⟩;obtain⟨v,a⟩:∃ v,V[d]?=Y v:=⟨_,W6 ⋯⟩;refine⟨v,Xk a,?_⟩;have k:=dI (g:=g++[.aa (V.map .ab)]) (x:=x) (m:=n) e ⋯ ⋯;obtain⟨l,c⟩:=eH (h:=T hb t (x/n) (g++[.aa (V.map .ab)])) (n:=hb.length+g.length) (us:=V.map .ab) (i:=x%n) (by rw[gG];simp);rw[b,S.cv,Xd,a]at c;rw[nW,vR,j,WZ];simp only[Xw,W0 (sz (show V.length<=1000 by lia)),WZ,q0,jx,jW,bI,c8,f,BW,eP,Xa,Xy,Nat.reduceAdd,if_true,k,b,l,W5 Xb,c];rfl
def vf (r:M×aA M):U:=.af [.ae r.1,a_ r.2]
def Zj (f:MF):Prop:=∀ (h:MH) (t b:Nat) (K:Kn) (x s a:Int),a<=1000->dN h t b K->h[t]?=Y (.aa [.ab x])->h[b]?=Y (.dK (i5 K s))->
  ∃ d y c,f [.aa t,.aa b,.ab a,.af [.bl b_,.bl b_,.bl b_,.ab 0]] h=Y (a_ d,(h.set b (.dK (i5 K c))).set t (.aa [.ab y]))/\dH K b_ 13 1000 d
theorem DN:Zj (gg 13):=λh t b K x s a c E f g=>by
 obtain⟨d,y,i,e,o⟩:=yX 13 0 h t b K x s a b_ b_ b_ ⋯ ⋯ c E f g;exact⟨d,y,i,e,Xi o.sz ⋯,o.sm,o.aa,o.ok⟩
def pI (ns:List Int)(f:MF):Prop:=∀ (h:MH) (k:Nat),k<1000->∃ x,f [.dM (ns.map .ab),.ab k] h=Y (.aa h.length,h++[.aa [.ab x]])
theorem BC {ns:List Int}:pI ns O5:=λh k a=>HP a
def G (K:Kn)(s:Int)(A B C D:MO)(a:List (M×aA M))(b:MH):MH:=A::B::.dK (i5 K s)::.aa (K.aa.map .ae)::C::D::.aa (a.map vf)::b
structure oZ (K:Kn)(i:Nat)(rs:List (M×aA M)):Prop where
 aa:rs.length=i
 ab:rs.map (·.1)=K.ae.take i
 ok:∀ r∈rs,dH K b_ 13 1000 r.2
theorem EF {f F:MF}{hb:MH}{t many:Nat}{K:Kn}{s y room:Int}{A B C D:MO}{ns:List Int}{o2 o3 o4 o8:Option U}(mf:Zj f)(mt:pI ns F)(ht:t<hb.length)(I:K.ka=hb.length+3)(k0:K.aa≠[])(k8:K.aa.length<=8)(m8:K.ab.length<=8)(w0:K.af≠[])(w8:K.af.length<=8)(V:K.ae.length=many)(m1:1<=many)(m5:many<=5)(W:room<=1000) :
  ∃ (c:List (M×aA M)) (s':Int) (a:MH) (o10 o11:Option U),oZ K many c/\eJ Mq (b' 10) (af (au (ah 2 F (aa aG (aa (aw aI (aw aI aR (aq 1)) nc) ae))) (b' 11))
  (aO (fy aL pC (aa (av (aa Ih (aa (ah 4 f (aa wu (aa n6 (aa (eB qo (aa (aq 1) yB)) (aa (av (aa fJ (aa fJ (aa fJ (aa (aq 0) ae))))) ae))))) ae))) ae))))
   [Y (.dM (ns.map .ab)),Y (.ab 0),o2,o3,o4,Y (.ab many),Y (.ag (K.ae.map .ae)),Y (.aa (hb.length+2)),Y (.ab room),Y (.aa (hb.length+6)),O,O] (T hb t y (G K s A B C D [] [])) =
   Y (.nx [Y (.dM (ns.map .ab)),Y (.ab 0),o2,o3,o4,Y (.ab many),Y (.ag (K.ae.map .ae)),Y (.aa (hb.length+2)),Y (.ab room),Y (.aa (hb.length+6)),o10,o11],T hb t y (G K s' A B C D c a)):=by
 obtain⟨σ',H',e,c,s',a,o10,o11,l,rfl,rfl⟩:=kj (mi:=dz yA) (j:=10) (n:=many) (b:=(af (au (ah 2 F (aa aG (aa (aw aI (aw aI aR (aq 1)) nc) ae))) (b' 11))
  (aO (fy aL pC (aa (av (aa Ih (aa (ah 4 f (aa wu (aa n6 (aa (eB qo (aa (aq 1) yB)) (aa (av (aa fJ (aa fJ (aa fJ (aa (aq 0) ae))))) ae))))) ae))) ae)))))
  (σ:=[Y (.dM (ns.map .ab)),Y (.ab 0),o2,o3,o4,Y (.ab many),Y (.ag (K.ae.map .ae)),Y (.aa (hb.length+2)),Y (.ab room),Y (.aa (hb.length+6)),O,O]) (h:=T hb t y (G K s A B C D [] [])) (h1:=T hb t y (G K s A B C D [] []))
  (λi σ H=>∃ (c:List (M×aA M)) (s':Int) (a:MH) (o10 o11:Option U),oZ K i c/\H=T hb t y (G K s' A B C D c a)/\σ=[Y (.dM (ns.map .ab)),Y (.ab 0),o2,o3,o4,Y (.ab many),Y (.ag (K.ae.map .ae)),Y (.aa (hb.length+2)),Y (.ab room),Y (.aa (hb.length+6)),o10,o11])
  (eF rfl ⋯) ⋯ ⟨[],s,[],O,O,⟨rfl,by simp,by simp⟩,rfl,rfl⟩
  (λi σ H hi q=>by
   obtain⟨c,s',a,o10,o11,l,rfl,rfl⟩:=q;obtain⟨x,X⟩:=mt (T hb t y (G K s' A B C D c a)) (1+i) ⋯;have p:(G K s' A B C D c a).length=a.length+7:=by simp[G]
   have k:T hb t y (G K s' A B C D c a)++[.aa [.ab x]]=T hb t y (G K s' A B C D c (a++[.aa [.ab x]])):=by rw[jx];rfl
   rw[k,q0,p]at X;have Z:∀ (s:Int) (c:List (M×aA M)) (x:Int),(T hb t y (G K s A B C D c (a++[.aa [.ab x]])))[hb.length+(a.length+7)]?=Y (.aa [.ab x]):=λs c x=>by rw[gG];simp[G]
   have hK:∀ (s:Int) (c:List (M×aA M)) (a:MH),(T hb t y (G K s A B C D c a))[hb.length+2]?=Y (.dK (i5 K s)):=λs c a=>gG
   have hA:∀ (s:Int) (c:List (M×aA M)) (a:MH),(T hb t y (G K s A B C D c a))[K.ka]?=Y (.aa (K.aa.map .ae)):=λs c a=>by rw[I];exact gG
   have hR:∀ (s:Int) (c:List (M×aA M)) (a:MH),(T hb t y (G K s A B C D c a))[hb.length+6]?=Y (.aa (c.map vf)):=λs c a=>gG
   have E:dN (T hb t y (G K s' A B C D c (a++[.aa [.ab x]]))) (hb.length+(a.length+7)) (hb.length+2) K:=⟨k0,by intro z;rw[z]at V;simp at V;lia,w0,k8,m8,by lia,w8,hA _ _ _,by lia,by lia,by lia,bA (Z _ _ _),bA (hK _ _ _)⟩;obtain⟨d,m,o,N,od⟩:=mf _ _ _ K x s' (if room>1 then room else 1) (by split<;>lia) E (Z _ _ _) (hK _ _ _);rw[ml,ml]at N;have v:((G K s' A B C D c (a++[.aa [.ab x]])).set 2 (.dK (i5 K o))).set (a.length+7) (.aa [.ab m])=G K o A B C D c (a++[.aa [.ab m]]):=by simp[G]
   rw[v]at N;obtain⟨g,w⟩:∃ g,K.ae[i]?=Y g:=⟨_,W6 ⋯⟩;have P:L2.iw (K.ae.map U.ae) (i:Int)=Y (.ae g):=by rw[S.cv,Xd,w];rfl
   have ap:=cX (u:=vf (g,d)) (hR o c (a++[.aa [.ab m]])) (by have:=l.aa;simp;lia);rw[ml]at ap;refine⟨[Y (.dM (ns.map .ab)),Y (.ab 0),o2,o3,o4,Y (.ab many),Y (.ag (K.ae.map .ae)),Y (.aa (hb.length+2)),Y (.ab room),Y (.aa (hb.length+6)),Y (.ab (i:Nat)),Y (.aa (hb.length+(a.length+7)))],T hb t y (G K o A B C D (c++[(g,d)]) (a++[.aa [.ab m]])),?_,c++[(g,d)],o,a++[.aa [.ab m]],_,_,⟨by simp[l.aa],by rw[XS,l.ab,Y6,w];rfl,λr W=>by
    rcases XG.mp W with z | z
    .exact l.ok r z
    .simp at z;subst z;exact od⟩,rfl,rfl⟩
   have Q:au (ah 2 F (aa aG (aa (aw aI (aw aI aR (aq 1)) nc) ae))) (b' 11) [Y (.dM (ns.map .ab)),Y (.ab 0),o2,o3,o4,Y (.ab many),Y (.ag (K.ae.map .ae)),Y (.aa (hb.length+2)),Y (.ab room),Y (.aa (hb.length+6)),Y (.ab (i:Nat)),o11] (T hb t y (G K s' A B C D c a))=Y (.nx [Y (.dM (ns.map .ab)),Y (.ab 0),o2,o3,o4,Y (.ab many),Y (.ag (K.ae.map .ae)),Y (.aa (hb.length+2)),Y (.ab room),Y (.aa (hb.length+6)),Y (.ab (i:Nat)),Y (.aa (hb.length+(a.length+7)))],T hb t y (G K s' A B C D c (a++[.aa [.ab x]]))):=
    aC (bf (us:=[.dM (ns.map .ab),.ab ((1+i:Nat):Int)]) (h1:=T hb t y (G K s' A B C D c a)) nofun rfl X)
   refine(ab Q).trans (cQ (u:=.aQ) ?_);have ec:ah 4 f (aa wu (aa n6 (aa (eB qo (aa (aq 1) yB)) (aa (av (aa fJ (aa fJ (aa fJ (aa (aq 0) ae))))) ae)))) [Y (.dM (ns.map .ab)),Y (.ab 0),o2,o3,o4,Y (.ab many),Y (.ag (K.ae.map .ae)),Y (.aa (hb.length+2)),Y (.ab room),Y (.aa (hb.length+6)),Y (.ab (i:Nat)),Y (.aa (hb.length+(a.length+7)))] (T hb t y (G K s' A B C D c (a++[.aa [.ab x]])))=Y (a_ d,T hb t y (G K o A B C D c (a++[.aa [.ab m]]))):=
    bf (us:=[.aa (hb.length+(a.length+7)),.aa (hb.length+2),.ab (if room>1 then room else 1),.af [.bl b_,.bl b_,.bl b_,.ab 0]]) (h1:=T hb t y (G K s' A B C D c (a++[.aa [.ab x]]))) nofun rfl N
   rw[Ew,show pC=bZ 9 from rfl,c8];simp only[Xm,Xg,WZ,cg (hR _ _ _),bI,vT,nW,c8,Ex,W5 Xb,Ez,P,ec,eP,Xa,Xy,W0 (sz (show 0+1+1<=1000 by decide))];rw[show U.af [.ae g,a_ d]=vf (g,d) from rfl,ap];simp[G])
 exact⟨c,s',a,o10,o11,l,e⟩
def aab (f:MF):Prop:=∀ (b g:MH) (t:Nat) (x:Int),t<b.length->∃ a y,f [.aa t] (T b t x g)=Y (cG a,T b t y g)/\Z' a/\1<=a.length/\a.length<=8
def yF (f:MF):Prop:=∀ (a g:MH) (t m:Nat) (x:Int),t<a.length->m<=8->∃ b y,f [.aa t,.ab m] (T a t x g)=Y (.ag (b.map .ae),T a t y g)/\cP m b
theorem AR:aab xC:=λb g t x a=>Gy a
theorem A8:yF xR:=λc g t m x a b=>zw a b
theorem nP {u:U}{k:Nat}(h:ip 0 u):ip k u:=h.af (Xl _)
theorem CS (ks:List (M×M)):ip 0 (cG ks):=.ab (bL.mpr λu a=>by obtain⟨k,_,rfl⟩:=Xp.mp a;exact .ab (.aa .aa (.aa .aa .nil)))
theorem ve (H:aK M):ip 0 (aJ H):=.ab (.aa (CS _) (.aa (.ab dE) (.aa (.ab (bL.mpr λu a=>by obtain⟨k,_,rfl⟩:=Xp.mp a;exact .ab (.aa .aa (.aa (a6 _) .nil)))) .nil)))
structure bV (H:aK M):Prop where
 ok:f9 H
 sm:qY H
 aa:∀ r∈H.aa,yD 13 r.2
 ab:∀ r∈H.aa,j6 r.1=L
 ae:∀ w∈H.af,j6 w=L
 wl:∀ r∈H.aa,wl 13 r.2<=1000
theorem rQ {b:Type}{n:M}:∀ {l:List (M×b)},n∈l.map (·.1)->∃ e,l.lookup n=Y e
 |[],h=>by simp at h
 |(k,a)::r,h=>by
  by_cases q:n=k
  .exact⟨a,by simp[L_,q]⟩
  .have:n∈r.map (·.1):=by simpa [q]using h
   obtain⟨e,c⟩:=rQ this;exact⟨e,by rw[L_,XE.mpr q];exact c⟩
theorem Di {K:Kn}{ks:List (M×M)}{ms:List M}{c:List (M×aA M)}{many:Nat}(o:ks.length<=8)(p:ms.length<=8)(f:cP many K.ae)(i:K.ab=ms)(j:cP 3 K.af)(q:1<=many)(s:many<=5)(b:oZ K many c):bV ⟨ks,ms,c,K.af⟩:=by
 have g:c.map (·.1)=K.ae:=by rw[b.ab,X6 (by rw[f.1];exact WY _)]
 have k:∀ r∈K.ae,∃ e,c.lookup r=Y e:=λr a=>rQ (by rw[g];exact a)
 refine⟨⟨?_,λr d l=>?_⟩,⟨by show ks.length<1000;lia,by show ms.length<1000;lia,by show c.length<1000;have:=b.aa;lia,by show(c.map (·.1)).Nodup;rw[g];exact f.2.1,λr a=>(b.ok r a).sm,λr a=>(b.ok r a).aa.aa ⋯⟩,λr a=>(b.ok r a).aa,λr a=>f.2.2 r.1 (by rw[<-g];exact Xp.mpr ⟨r,a,rfl⟩),j.2.2,λr a=>(b.ok r a).sz⟩
 .intro z;have z':c=[]:=z;have:=b.aa;rw[z']at this;simp at this;lia
 .exact(b.ok _ (YI l)).ok _ ⟨k,λm h=>by rw[i]at h;exact h,λw n=>n⟩
def oB (V:List Int)(n:Int):ME:=ao (bj (V.foldr (λv r=>aa (aq v) r) ae)) (ah 2 ak (aa cu (aa (aq n) ae)))
def xt (fn:MF):ME:=eC (aB (ag "kinds") (di [O] (cy bC) (b' 0) dB (ao aG (aq 0))) (aB (ag "marks") c4 (aB (ag "rooms") gV (aB (ag "words") (ah 2 fn (aa cu (aa (aq 3) ae))) eD))))
def xu:MS:=aW n6 (ag "slips") (oB [2,4,4,8] 4)
def IP (f a:MF):MS:=eJ Mq (b' 10) (af (au (ah 2 a (aa aG (aa (aw aI (aw aI aR (aq 1)) nc) ae))) (b' 11))
  (aO (fy aL pC (aa (av (aa Ih (aa (ah 4 f (aa wu (aa n6 (aa (eB qo (aa (aq 1) yB)) (aa (av (aa fJ (aa fJ (aa fJ (aa (aq 0) ae))))) ae))))) ae))) ae))))
def NL:MS:=ax MB
def Dd (f a:MF):MS:=af xu (af (au (aw pX (oB [8,14,20,45] 4) jn) (b' 8)) (af (au dZ (b' 9)) (af (IP f a) NL)))
def IM (a b fn f:MF):MS:=
  (af (au (ah 2 a wx) (b' 2))
  (af (au (ah 1 b dQ) (b' 3))
  (af (au (ah 2 fn (aa cu (aa (oB [0,0,0,1,2,2] 6) ae))) (b' 4))
  (af (au (oB [1,2,2,3,3,5] 6) (b' 5))
  (af (au (ah 2 fn Mu) (b' 6))
  (af (au (xt fn) (b' 7)) (Dd f a)))))))
theorem AI {a b fn f:MF}:jz a b fn ak f=IM a b fn f:=rfl
noncomputable def hs (ns:List Int)(a b c d e f g i:Option U):bu:=[Y (.dM (ns.map .ab)),Y (.ab 0),a,b,c,d,e,f,g,i,O,O]
theorem A5 {V:List Int}{σ:bu}:∀ H,(V.foldr (λv r=>aa (aq v) r) ae) σ H=Y (V.map .ab,H):=by
 induction V with
 |nil=>intro H;rfl
 |cons a r b=>intro H;show(aa (aq a) _) σ H=_;rw[bI,Lr,WZ,b,WZ];rfl
theorem mN {hb g:MH}{t:Nat}{x:Int}(a:t<hb.length){V:List Int}(b:V≠[])(c:V.length<=20){σ:bu}{n:Int}(d:n=V.length)(e:σ[2]?=Y (Y (.aa t))) :
  ∃ v∈V,oB V n σ (T hb t x g)=Y (.ab v,T hb t (x/n) (g++[.aa (V.map .ab)])):=DQ a b c d e A5
theorem Dw {fn:MF}{hb:MH}{t:Nat}{x:Int}{A B:MO}{ns:List Int}{ks:List (M×M)}{ms rn:List M}{o5:Option U}(b:t<hb.length)(c:yF fn)(m:ks.length<=8) :
  ∃ ws y,cP 3 ws/\xt fn (hs ns (Y (.aa t)) (Y (cG ks)) (Y (.ag (ms.map .ae))) o5 (Y (.ag (rn.map .ae))) O O O) (T hb t x [A,B]) =
   Y (.aa (hb.length+2),T hb t y [A,B,.dK [(p_ "kinds",.aa (hb.length+3)),(p_ "marks",.ag (ms.map .ae)),(p_ "rooms",.ag (rn.map .ae)),(p_ "words",.ag (ws.map .ae))],.aa ((ks.map (·.1)).map .ae)]):=by
 obtain⟨ws,y,d,e⟩:=c hb [A,B,.dK [],.aa ((ks.map (·.1)).map .ae)] t 3 x b ⋯;refine⟨ws,y,e,?_⟩;have f:di [O] (cy bC) (b' 0) dB (ao aG (aq 0)) (hs ns (Y (.aa t)) (Y (cG ks)) (Y (.ag (ms.map .ae))) o5 (Y (.ag (rn.map .ae))) O O O) (T hb t x [A,B,.dK []])=Y (.aa (hb.length+3),T hb t x [A,B,.dK [],.aa ((ks.map (·.1)).map .ae)]):=by
  have:=YZ (fr:=[]) (mi:=cy bC) (a:=ao aG (aq 0)) (σ:=hs ns (Y (.aa t)) (Y (cG ks)) (Y (.ag (ms.map .ae))) o5 (Y (.ag (rn.map .ae))) O O O) (h:=T hb t x [A,B,.dK []]) (h1:=T hb t x [A,B,.dK []]) (it:=lX (ks.map λk=>.af [.ae k.1,.ae k.2])) (us:=ks.map λk=>.af [.ae k.1,.ae k.2])
   (λu=>match u with | .af (z::_)=>z | _=>.aQ) rfl (λi H=>rfl) (by rw[Xw];lia) (λu g l=>by
    obtain⟨k,_,rfl⟩:=Xp.mp g;simp)
  rw[this,q0,jx,X7,X7];rfl
 have j:ah 2 fn (aa cu (aa (aq 3) ae)) (hs ns (Y (.aa t)) (Y (cG ks)) (Y (.ag (ms.map .ae))) o5 (Y (.ag (rn.map .ae))) O O O) (T hb t x [A,B,.dK [],.aa ((ks.map (·.1)).map .ae)])=Y (.ag (ws.map .ae),T hb t y [A,B,.dK [],.aa ((ks.map (·.1)).map .ae)]):=
  bf (us:=[.aa t,.ab 3]) (h1:=T hb t x [A,B,.dK [],.aa ((ks.map (·.1)).map .ae)]) rfl rfl d
 unfold xt;rw[Ll,jx,pz,EB,WZ];rw[show([A,B]++[MO.dK []]:MH)=[A,B,.dK []] from rfl];rw[show(di [O] (cy bC) (b' 0) dB (ao aG (aq 0)) (hs ns (Y (.aa t)) (Y (cG ks)) (Y (.ag (ms.map .ae))) o5 (Y (.ag (rn.map .ae))) O O O) (U.ae (i_ "kinds"),T hb t x [A,B,.dK []]).2)=_ from f,WZ];rw[pz,EB,WZ,show(c4 (hs ns (Y (.aa t)) (Y (cG ks)) (Y (.ag (ms.map .ae))) o5 (Y (.ag (rn.map .ae))) O O O) (T hb t x [A,B,.dK [],.aa ((ks.map (·.1)).map .ae)]))=Y (.ag (ms.map .ae),T hb t x [A,B,.dK [],.aa ((ks.map (·.1)).map .ae)]) from rfl,WZ];rw[pz,EB,WZ,show(gV (hs ns (Y (.aa t)) (Y (cG ks)) (Y (.ag (ms.map .ae))) o5 (Y (.ag (rn.map .ae))) O O O) (T hb t x [A,B,.dK [],.aa ((ks.map (·.1)).map .ae)]))=Y (.ag (rn.map .ae),T hb t x [A,B,.dK [],.aa ((ks.map (·.1)).map .ae)]) from rfl,WZ];rw[pz,EB,WZ,j,WZ,Lq];simp only[WZ,q0,Xa,Xy,lx,lR,gG,ml];simp[et,c7]
theorem HN {f ft:MF}{hb:MH}{t many:Nat}{x:Int}{A B:MO}{ns:List Int}{ks:List (M×M)}{ms rn ws:List M}(mf:Zj f)(mt:pI ns ft)(ht:t<hb.length)(k1:1<=ks.length)(k8:ks.length<=8)(m8:ms.length<=8)(no:cP many rn)(ow:cP 3 ws)(m1:1<=many)(m5:many<=5) :
  ∃ rs y g,oZ ⟨ks.map (·.1),ms,rn,ws,hb.length+3⟩ many rs/\Dd f ft (hs ns (Y (.aa t)) (Y (cG ks)) (Y (.ag (ms.map .ae))) (Y (.ab many)) (Y (.ag (rn.map .ae))) (Y (.aa (hb.length+2))) O O)
   (T hb t x [A,B,.dK [(p_ "kinds",.aa (hb.length+3)),(p_ "marks",.ag (ms.map .ae)),(p_ "rooms",.ag (rn.map .ae)),(p_ "words",.ag (ws.map .ae))],.aa ((ks.map (·.1)).map .ae)])=Y (.rt (aJ ⟨ks,ms,rs,ws⟩),T hb t y g):=by
 generalize hK:(⟨ks.map (·.1),ms,rn,ws,hb.length+3⟩:Kn)=K;generalize hσ:hs ns (Y (.aa t)) (Y (cG ks)) (Y (.ag (ms.map .ae))) (Y (.ab many)) (Y (.ag (rn.map .ae))) (Y (.aa (hb.length+2))) O O=σ;generalize hd:([(p_ "kinds",.aa (hb.length+3)),(p_ "marks",.ag (ms.map .ae)),(p_ "rooms",.ag (rn.map .ae)),(p_ "words",.ag (ws.map .ae))]:List (j_×U))=d0;have σ2:σ[2]?=Y (Y (.aa t)):=by rw[<-hσ];rfl
 have σ5:σ[5]?=Y (Y (.ab many)):=by rw[<-hσ];rfl
 have σ7:σ[7]?=Y (Y (.aa (hb.length+2))):=by rw[<-hσ];rfl
 have V4:ws≠[]:=λz=>by have:=ow.1;rw[z]at this;simp at this
 have VJ:ks.map (·.1)≠[]:=λz=>by rw[List.map_eq_nil_iff.mp z]at k1;simp at k1
 obtain⟨s,_,e1⟩:=mN (g:=[A,B,.dK d0,.aa ((ks.map (·.1)).map .ae)]) (x:=x) ht (V:=[2,4,4,8]) nofun nofun (σ:=σ) (n:=4) rfl σ2;generalize hC:(MO.aa (([2,4,4,8]:List Int).map U.ab))=C at e1;have QY:c7 d0 (p_ "slips") (.ab s)=i5 K s:=by rw[<-hd,<-hK];simp[c7,i5]
 have s1:xu σ (T hb t x [A,B,.dK d0,.aa ((ks.map (·.1)).map .ae)])=Y (.nx σ,T hb t (x/4) [A,B,.dK (i5 K s),.aa ((ks.map (·.1)).map .ae),C]):=by
  unfold xu;rw[ED,e1,WZ];have hg:(T hb t (x/4) ([A,B,.dK d0,.aa ((ks.map (·.1)).map .ae)]++[C]))[hb.length+2]?=Y (.dK d0):=gG;have h1:=(dq (z:="slips") hg).1;have h2:=kh (z:="slips") (v:=.ab s) hg (by rw[<-hd];simp);simp only[c8,σ7,WZ,BW,h1,if_true,h2,ml,QY];rfl
 obtain⟨v,hv,e2⟩:=mN (g:=[A,B,.dK (i5 K s),.aa ((ks.map (·.1)).map .ae),C]) (x:=x/4) ht (V:=[8,14,20,45]) nofun nofun (σ:=σ) (n:=4) rfl σ2;generalize hD:(MO.aa (([8,14,20,45]:List Int).map U.ab))=D at e2;have vb:v<=1000:=by simp at hv;lia
 have v0:0<=v:=by simp at hv;lia
 have rb:v/(many:Int)<=1000:=Int.le_trans (Int.ediv_le_self _ v0) vb;have s2:au (aw pX (oB [8,14,20,45] 4) jn) (b' 8) σ (T hb t (x/4) [A,B,.dK (i5 K s),.aa ((ks.map (·.1)).map .ae),C])=Y (.nx (σ.set 8 (Y (.ab (v/(many:Int))))),T hb t (x/4/4) [A,B,.dK (i5 K s),.aa ((ks.map (·.1)).map .ae),C,D]):=by
  refine aC ?_;rw[mX,e2,WZ];simp only[c8,σ5,WZ,Ln (show(0:Int)<(many:Int) by lia) (show(many:Int)<1073741824 by lia)];rfl
 have s3:au dZ (b' 9) (σ.set 8 (Y (.ab (v/(many:Int))))) (T hb t (x/4/4) [A,B,.dK (i5 K s),.aa ((ks.map (·.1)).map .ae),C,D])=Y (.nx ((σ.set 8 (Y (.ab (v/(many:Int))))).set 9 (Y (.aa (hb.length+6)))),T hb t (x/4/4) (G K s A B C D [] [])):=by
  refine aC ?_;simp only[vR,eP,WZ,Xy,W0 (Xl _),q0,jx,Xa];rw[<-hK];rfl
 obtain⟨rs,s',tp,o10,o11,ok,e4⟩:=EF (K:=K) (s:=s) (y:=x/4/4) (room:=v/(many:Int)) (A:=A) (B:=B) (C:=C) (D:=D) (o2:=Y (.aa t)) (o3:=Y (cG ks)) (o4:=Y (.ag (ms.map .ae))) (o8:=O) mf mt ht (by rw[<-hK]) (by rw[<-hK];exact VJ) (by rw[<-hK];simpa using k8) (by rw[<-hK];exact m8) (by rw[<-hK];exact V4) (by rw[<-hK];show ws.length<=8;have:=ow.1;lia) (by rw[<-hK];exact no.1) m1 m5 rb;refine⟨rs,x/4/4,G K s' A B C D rs tp,ok,?_⟩;unfold Dd;refine(ab s1).trans ((ab s2).trans ((ab s3).trans ?_));have s4:IP f ft ((σ.set 8 (Y (.ab (v/(many:Int))))).set 9 (Y (.aa (hb.length+6)))) (T hb t (x/4/4) (G K s A B C D [] []))=Y (.nx [Y (.dM (ns.map .ab)),Y (.ab 0),Y (.aa t),Y (cG ks),Y (.ag (ms.map .ae)),Y (.ab many),Y (.ag (rn.map .ae)),Y (.aa (hb.length+2)),Y (.ab (v/(many:Int))),Y (.aa (hb.length+6)),o10,o11],T hb t (x/4/4) (G K s' A B C D rs tp)):=by
  rw[<-hσ];have:K.ae=rn:=by rw[<-hK]
  rw[this]at e4;exact e4
 refine(ab s4).trans ?_;have hg:(T hb t (x/4/4) (G K s' A B C D rs tp))[hb.length+6]?=Y (.aa (rs.map vf)):=gG;unfold NL;refine a7 ?_;unfold MB;rw[vT,bI];simp only[c8,Xm,Xg,WZ,bI,qT,eP,Lu,nX hg,Xa,Xy,W0 (sz (show 0+1+1+1<=1000 by decide))];rfl
theorem Dj {ft fk fn f:MF}{ns:List Int}{h:MH}(mt:pI ns ft)(mk:aab fk)(mn:yF fn)(mf:Zj f):∃ H,jS ft fk fn ak f [.dM (ns.map .ab),.ab 0] h=Y (aJ H,h)/\bV H:=by
 obtain⟨x,ex⟩:=mt h 0 ⋯;generalize QS:h++[.aa [.ab x]]=hb at ex;have hl:hb.length=h.length+1:=by rw[<-QS];simp
 generalize Tb:h.length=t at ex;have ht:t<hb.length:=by lia
 have U9:hb=T hb t x []:=j8 (by rw[<-QS,<-Tb];exact cn);obtain⟨ks,x1,ek,ko,k1,k8⟩:=mk hb [] t x ht;have s1:au (ah 2 ft wx) (b' 2) (hs ns O O O O O O O O) h=Y (.nx (hs ns (Y (.aa t)) O O O O O O O),T hb t x []):=by
  rw[<-U9];exact aC (bf (us:=[.dM (ns.map .ab),.ab 0]) (h1:=h) rfl rfl ex)
 have s2:au (ah 1 fk dQ) (b' 3) (hs ns (Y (.aa t)) O O O O O O O) (T hb t x [])=Y (.nx (hs ns (Y (.aa t)) (Y (cG ks)) O O O O O O),T hb t x1 []):=
  aC (bf (us:=[.aa t]) (h1:=T hb t x []) rfl rfl ek)
 obtain⟨v,hv,e3⟩:=mN (g:=[]) (x:=x1) ht (V:=[0,0,0,1,2,2]) nofun nofun (σ:=hs ns (Y (.aa t)) (Y (cG ks)) O O O O O O) (n:=6) rfl rfl;generalize hA:(MO.aa (([0,0,0,1,2,2]:List Int).map U.ab))=A at e3;obtain⟨m,rfl⟩:∃ m:Nat,v=(m:Int):=⟨v.toNat,by simp at hv;lia⟩;have m2:m<=2:=by simp at hv;lia
 obtain⟨ms,x3,em,om⟩:=mn hb [A] t m (x1/6) ht ⋯;have s3:au (ah 2 fn (aa cu (aa (oB [0,0,0,1,2,2] 6) ae))) (b' 4) (hs ns (Y (.aa t)) (Y (cG ks)) O O O O O O) (T hb t x1 [])=Y (.nx (hs ns (Y (.aa t)) (Y (cG ks)) (Y (.ag (ms.map .ae))) O O O O O),T hb t x3 [A]):=by
  refine aC (bf (us:=[.aa t,.ab (m:Nat)]) (h1:=T hb t (x1/6) [A]) ?_ rfl em);rw[bI,show cu (hs ns (Y (.aa t)) (Y (cG ks)) O O O O O O) (T hb t x1 [])=Y (.aa t,T hb t x1 []) from rfl,WZ,bI,e3];rfl
 obtain⟨v,hv,e4⟩:=mN (g:=[A]) (x:=x3) ht (V:=[1,2,2,3,3,5]) nofun nofun (σ:=hs ns (Y (.aa t)) (Y (cG ks)) (Y (.ag (ms.map .ae))) O O O O O) (n:=6) rfl rfl;generalize hB:(MO.aa (([1,2,2,3,3,5]:List Int).map U.ab))=B at e4;obtain⟨many,rfl⟩:∃ m:Nat,v=(m:Int):=⟨v.toNat,by simp at hv;lia⟩;have b1:1<=many:=by simp at hv;lia
 have b5:many<=5:=by simp at hv;lia
 have s4:au (oB [1,2,2,3,3,5] 6) (b' 5) (hs ns (Y (.aa t)) (Y (cG ks)) (Y (.ag (ms.map .ae))) O O O O O) (T hb t x3 [A])=Y (.nx (hs ns (Y (.aa t)) (Y (cG ks)) (Y (.ag (ms.map .ae))) (Y (.ab many)) O O O O),T hb t (x3/6) [A,B]):=aC e4;obtain⟨rn,x5,er,or⟩:=mn hb [A,B] t many (x3/6) ht ⋯;have s5:au (ah 2 fn Mu) (b' 6) (hs ns (Y (.aa t)) (Y (cG ks)) (Y (.ag (ms.map .ae))) (Y (.ab many)) O O O O) (T hb t (x3/6) [A,B])=Y (.nx (hs ns (Y (.aa t)) (Y (cG ks)) (Y (.ag (ms.map .ae))) (Y (.ab many)) (Y (.ag (rn.map .ae))) O O O),T hb t x5 [A,B]):=
  aC (bf (us:=[.aa t,.ab (many:Nat)]) (h1:=T hb t (x3/6) [A,B]) rfl rfl er)
 obtain⟨ws,x6,ow,e6⟩:=Dw (fn:=fn) (x:=x5) (A:=A) (B:=B) (ns:=ns) (ks:=ks) (ms:=ms) (rn:=rn) (o5:=Y (.ab many)) ht mn k8;obtain⟨rs,y,g,ro,e7⟩:=HN (x:=x6) (A:=A) (B:=B) mf mt ht k1 k8 (show ms.length<=8 by have:=om.1;lia) or ow b1 b5;refine⟨⟨ks,ms,rs,ws⟩,?_,Di (K:=⟨ks.map (·.1),ms,rn,ws,hb.length+3⟩) k8 (show ms.length<=8 by have:=om.1;lia) or rfl ow b1 b5 ro⟩;have fin:T hb t y g=h++(.aa [.ab y]::g):=by
  unfold T;rw[<-QS,<-Tb];simp
 refine iy (u:=aJ ⟨ks,ms,rs,ws⟩) (g:=.aa [.ab y]::g) ?_ ((ve _).af (Xl _)).ji;refine bD ?_;show jz ft fk fn ak f (hs ns O O O O O O O O) h=_;rw[AI];unfold IM;rw[<-fin];exact(ab s1).trans ((ab s2).trans ((ab s3).trans ((ab s4).trans ((ab s5).trans ((ab (aC e6)).trans e7)))))
theorem dX {s:String}{us:List U}{h:MH}(a:¬ (s = "row"\/s = "pick"\/s = "again"\/s = "clean"))(h1:s≠"when")(h2:s≠"catch"):dU [.af (.ae s::us)] h=Y (.ag [],h):=by
 refine eA (g:=[.aa []]) (n:=h.length) ?_ (WY _) nofun .nil;simp[cJ,fQ,pf,a,h1,h2]
theorem la {s:String}{us:List U}{h:MH}(a:s = "row"\/s = "pick"\/s = "again"\/s = "clean")(b:cE 0 us):dU [.af (.ae s::us)] h=Y (.ag us,h):=by
 refine eA (g:=[.aa us]) (n:=h.length) ?_ (WY _) nofun b;have c:s≠"when":=by rintro rfl;simp at a
 have d:s≠"catch":=by rintro rfl;simp at a
 simp[cJ,fQ,pf,a,c,d]
theorem vL {a:U}{ts:List (M×aA M)}{h:MH}(hz:ts.length<1000)(j:ip 0 a):dU [.af (.ae "catch"::a::fg ts)] h=Y (.ag (a::ts.map λx=>a_ x.2),h):=by
 have f:=YZ (fr:=[]) (mi:=cy (lS aG (b8 (aq 2)) bo)) (a:=ao aG (aq 1)) (σ:=[Y (.af (.ae "catch"::a::fg ts))]) (h:=h++[MO.aa [a]]) (h1:=h++[MO.aa [a]]) (it:=lX (fg ts)) (us:=fg ts)
  (λu=>match u with | .af [_,d]=>d | _=>.aQ) nofun (λi H=>rfl) (by rw[cH];simp;lia) (λu e l=>by
   rw[cH]at e;obtain⟨x,_,rfl⟩:=Xp.mp e;simp[gW])
 have k:(fg ts).map (λu=>match u with | .af [_,d]=>d | _=>U.aQ)=ts.map λx=>a_ x.2:=by
  rw[cH,X7];rfl
 rw[k]at f;have c:=qu (a:=.aa h.length) (b:=.aa (h++[MO.aa [a]]).length) (us:=[a]) (ws:=ts.map λx=>a_ x.2) (h:=h++[MO.aa [a]]++[MO.aa (ts.map λx=>a_ x.2)]) (by simp[dy]) (by simp[dy]) (by simp;try lia) (λ_ z=>nomatch z) (λ_ z=>nomatch z) (λ_ z=>nomatch z);refine eA (g:=[MO.aa [a]]++[MO.aa (ts.map λx=>a_ x.2)]++[MO.aa (a::ts.map λx=>a_ x.2)]) (n:=(h++[MO.aa [a]]++[MO.aa (ts.map λx=>a_ x.2)]).length) ?_ nofun nofun (.aa j (bL.mpr λu e=>?_))
 .simp at f c;simp[cJ,fQ,f,c]
 .obtain⟨x,_,rfl⟩:=Xp.mp e;exact a6 _
theorem D1 (d:aA M)(h:MH)(hz:(w_ d).length<1000):dU [a_ d] h=Y (.ag ((w_ d).map a_),h):=by
 cases d with
 |aq w=>exact dX ∅ ∅ ∅
 |aE w=>exact dX ∅ ∅ ∅
 |aj=>exact dX ∅ ∅ ∅
 |ai=>exact dX ∅ ∅ ∅
 |ak=>exact dX ∅ ∅ ∅
 |on m=>exact dX ∅ ∅ ∅
 |ao m=>exact dX ∅ ∅ ∅
 |ae r=>exact dX ∅ ∅ ∅
 |ah c=>rw[a_,cx];exact la ∅ (by rw[<-cx];exact fA c)
 |ag c=>rw[a_,cx];exact la ∅ (by rw[<-cx];exact fA c)
 |ab d=>rw[a_];exact la ∅ (.aa (a6 d) .nil)
 |af a b=>rw[a_];exact la ∅ (.aa (a6 a) (.aa (a6 b) .nil))
 |fz m a b=>
  rw[a_];refine eA (g:=[.aa [a_ a,a_ b]]) (n:=h.length) ?_ (WY _) (by simp[w_]) (.aa (a6 a) (.aa (a6 b) .nil));simp[cJ,fQ]
 |aa a ts=>
  have:=vL (h:=h) (a:=a_ a) (ts:=ts) (by have:=hz;simp[w_]at this;lia) (a6 a);rw[a_,this];simp[w_]
noncomputable def dY:Nat->h_ M->aA M->List (h_ M×aA M)
 |0,_,_=>[]
 |n+1,p,d=>(p,d)::(w_ d).zipIdx.flatMap λx=>dY n (l_ p x.2) x.1
def eh (x:h_ M×aA M):U:=.af [aj x.1,a_ x.2]
theorem tY {n:Nat}{p:h_ M}(a:∀ p d,(dY n p d).length=wl n d):∀ (l:List (aA M)) (i:Nat),((l.zipIdx i).flatMap λx=>dY n (l_ p x.2) x.1).length=(l.map (wl n)).sum
 |[],_=>rfl
 |d::r,i=>by
  rw[List.zipIdx_cons,acN,Xv,a,tY a r (i+1),Xq,aak]
theorem qC:∀ (n:Nat) (p:h_ M) (d:aA M),(dY n p d).length=wl n d
 |0,_,_=>rfl
 |n+1,p,d=>by
  unfold dY wl;rw[Xa,tY (qC n),Yz]
theorem zZ:∀ {n:Nat}{p:h_ M}{d:aA M}{l:List Nat}{x:aA M},l.length<n->N_ d l=Y x->((p.1,p.2++l),x)∈dY n p d
 |0,_,_,_,_,h,_=>absurd h (Zs _)
 |n+1,p,d,[],x,_,e=>by
  rcases e
  rw[XF];unfold dY;simp
 |n+1,p,d,i::r,x,h,e=>by
  unfold N_ at e;cases a:(w_ d)[i]? with
  |none=>rw[a]at e;cases e
  |some y=>
   rw[a]at e;unfold dY;refine Xt _ (aan.mpr ⟨(y,i),ac4.mpr a,?_⟩);have:=zZ (n:=n) (p:=l_ p i) (d:=y) (by simp at h;lia) e;simpa [l_]using this
theorem zY:∀ {n:Nat}{p:h_ M}{d:aA M}{q:h_ M}{x:aA M},(q,x)∈dY n p d->∃ l,q=(p.1,p.2++l)/\N_ d l=Y x
 |0,_,_,_,_,h=>by unfold dY at h;simp at h
 |n+1,p,d,q,x,h=>by
  unfold dY at h;rcases Xj.mp h with h | h
  .cases h;exact⟨[],by simp,rfl⟩
  .obtain⟨⟨y,i⟩,a,h⟩:=aan.mp h;have a:=ac4.mp a;obtain⟨l,b,c⟩:=zY h;exact⟨i::l,by rw[b];simp[l_],by unfold N_;rw[a];exact c⟩
theorem mE {p:h_ M}{k:Nat}{h:MH}(a:p.2.length<1000):aI (aj p) (.af [.ab (k:Int)]) h=Y (aj (l_ p k),h):=by
 have:p.2.length+1+1<=1000000:=by lia
 simp[aj,l_,this]
noncomputable def iH:Nat->MF
 |0=>λ_ _=>O
 |n+1=>xM dU (iH n)
theorem rF {n:Nat}{us ws:List U}{h:MH}(e:h[n]?=Y (.aa us))(a:us.length+ws.length<=1000000):iX (.aa n) [.ag ws] h=Y (.aQ,h.set n (.aa (us++ws))):=by
 show(b7 h (.aa n)).bind _=_;rw[cg e];show(if us.length+ws.length<=p' then _ else O)=_;rw[W0 (Xi a (by rw[XJ];decide))]
theorem GA {l:List (aA M)}{f:aA M->Nat}{x:aA M}(h:x∈l):f x<=(l.map f).sum:=by
 induction l with
 |nil=>cases h
 |cons a r b=>
  rw[Xq,aak];rcases Xj.mp h with rfl | h
  .lia
  .have:=b h;lia
theorem z0:∀ {n:Nat}{p:h_ M}{d:aA M}{h:MH},yD n d->Sm d->p.2.length+n<900->wl n d<=1000->iH n [aj p,a_ d] h=Y (.ag ((dY n p d).map eh),h)
 |0,_,_,_,w,_,_,_=>by cases w
 |n+1,p,d,h,w,v,N,C=>by
  have o:=D1 d (h++[.aa [eh (p,d)]]) v.aa;have hd':∀ e∈w_ d,yD n e:=by cases w with | mk a=>exact a
  unfold wl at C;let c (i:Nat):List (h_ M×aA M):=(p,d)::((w_ d).take i).zipIdx.flatMap λx=>dY n (l_ p x.2) x.1
  have m (i:Nat) (l:i<(w_ d).length):c (i+1)=c i++dY n (l_ p i) (w_ d)[i]:=by
   show _::_=_::_++_;rw[Y6,W6 l,adn,List.zipIdx_append,abm,X1,aas (Yn l)];simp
  have r (i:Nat) (l:i<(w_ d).length):(c i).length+(dY n (l_ p i) (w_ d)[i]).length<=1001:=by
   rw[<-Xv,<-m i l];show((p,d)::_).length<=_;rw[Xa,tY (qC n)];have:(((w_ d).take (i+1)).map (wl n)).sum<=((w_ d).map (wl n)).sum:=by
    conv=>rhs;rw[<-abw (i+1) (w_ d),XS,List.sum_append]
    lia
   lia
  obtain⟨σ',K,B,rfl,y,rfl⟩:=kj (mi:=dz Pc) (j:=4) (n:=(w_ d).length) (b:=aO (fy iX cu (aa (ah 2 (iH n) Pk) ae)))
   (σ:=[Y (aj p),Y (a_ d),Y (.aa h.length),Y (.ag ((w_ d).map a_)),O]) (h:=h++[.aa [eh (p,d)]]) (h1:=h++[.aa [eh (p,d)]])
   (λi σ H=>H=h++[.aa ((c i).map eh)]/\∃ y,σ=[Y (aj p),Y (a_ d),Y (.aa h.length),Y (.ag ((w_ d).map a_)),y])
   (eF nofun (by have:=v.aa;lia)) (by have:=v.aa;lia) ⟨by simp[c],O,rfl⟩
   (λi σ H l q=>by
    obtain⟨rfl,y,rfl⟩:=q;have D:(w_ d)[i]?=Y (w_ d)[i]:=W6 l;have z:=XY l;have E:=GA (f:=wl n) z;have F:=z0 (n:=n) (p:=l_ p i) (d:=(w_ d)[i]) (h:=h++[.aa ((c i).map eh)]) (hd' _ z) (v.ab z) (by simp[l_];lia) ⋯;have A:L2.iw ((w_ d).map a_) (i:Int)=Y (a_ (w_ d)[i]):=by rw[S.cv,Xd,D];rfl
    have G:=rF (n:=h.length) (us:=(c i).map eh) (ws:=(dY n (l_ p i) (w_ d)[i]).map eh) (h:=h++[.aa ((c i).map eh)]) nofun (by have:=r i l;simp;lia);refine⟨_,h++[.aa ((c (i+1)).map eh)],?_,rfl,Y (.ab (i:Nat)),rfl⟩;refine cQ (u:=.aQ) ?_;have s:=mE (p:=p) (k:=i) (h:=h++[.aa ((c i).map eh)]) ⋯;simp[b7,s,A,F,G];rw[m i l,XS])
  have t:(c (w_ d).length)=dY (n+1) p d:=by
   show _::_=_;rw[Y7];rfl
  rw[t]at B;refine eA (g:=[.aa ((dY (n+1) p d).map eh)]) (n:=h.length) ?_ (WY _) nofun (bL.mpr λu I=>?_)
  .refine bD ?_;show lM dU (iH n) [Y (aj p),Y (a_ d),O,O,O] h=_;unfold lM;rw[ab (σ':=[Y (aj p),Y (a_ d),Y (.aa h.length),O,O]) (h':=h++[.aa [eh (p,d)]]) (by simp[eh]),ab (σ':=[Y (aj p),Y (a_ d),Y (.aa h.length),Y (.ag ((w_ d).map a_)),O]) (h':=h++[.aa [eh (p,d)]]) (by simp[o]),ab B];rfl
  .obtain⟨x,_,rfl⟩:=Xp.mp I;exact .ab (.aa (bP _) (.aa (a6 _) .nil))
def eG (H:aK M):List (h_ M×aA M):=H.aa.flatMap λr=>dY 13 (r.1,[]) r.2
abbrev allM:MF:=rV (iH 13)
theorem yK {H:aK M}(o:bV H):(eG H).length<=1000*H.aa.length:=by
 unfold eG;have:∀ l:List (M×aA M),(∀ r∈l,wl 13 r.2<=1000)->(l.flatMap λr=>dY 13 (r.1,[]) r.2).length<=1000*l.length:=λl=>by
  induction l with
  |nil=>intro _;simp
  |cons a r b=>
   intro h;rw[acN,Xv,qC,Xa];have:=h a nofun;have:=b λx c=>h x (by simp[c])
   lia
 exact this _ o.wl
theorem Jt {H:aK M}{h:MH}(o:bV H):allM [aJ H] h=Y (.ag ((eG H).map eh),h):=by
 have m:=o.sm.ae;have z:=yK o;let a (i:Nat):List (h_ M×aA M):=(H.aa.take i).flatMap λr=>dY 13 (r.1,[]) r.2
 have k (i:Nat) (t:i<H.aa.length):a (i+1)=a i++dY 13 (H.aa[i].1,[]) H.aa[i].2:=by
  show ZO _ _=ZO _ _++_;rw[Y6,W6 t,adn,abm];simp
 have l:a H.aa.length=eG H:=by show ZO _ _=_;rw[Y7];rfl
 have v (i:Nat):(a i).length<=(eG H).length:=by
  show(ZO _ _).length<=(ZO _ _).length
  conv=>rhs;rw[<-abw i H.aa,abm,Xv]
  lia
 obtain⟨f,h',e,c,j,rfl,rfl⟩:=d7 (mi:=cy (ao aG (aq 2))) (g:=iC 2 (bt (b' 2) (bt (b' 3) iB))) (b:=aO (fy iX aR (aa (ah 2 (iH 13) Pf) ae)))
  (σ:=[Y (aJ H),Y (.aa h.length),O,O]) (h:=h++[MO.aa []]) (h1:=h++[MO.aa []]) (it:=lX (H.aa.map λr=>.af [.ae r.1,a_ r.2])) (us:=H.aa.map λr=>.af [.ae r.1,a_ r.2])
  (λi σ K=>K=h++[MO.aa ((a i).map eh)]/\∃ c j,σ=[Y (aJ H),Y (.aa h.length),c,j])
  (λf K=>∃ c j,f=.nx [Y (aJ H),Y (.aa h.length),c,j]/\K=h++[MO.aa ((eG H).map eh)])
  (by simp[aJ]) (λi K=>rfl) (by simp;lia) ⟨by simp[a],O,O,rfl⟩
  (λi u σ K s q=>by
   obtain⟨rfl,c,j,rfl⟩:=q;rw[Xd]at s;obtain⟨r,m,rfl⟩:=XD.mp s;have t:=(W2.mp m).1;have A:H.aa[i]=r:=(W2.mp m).2;have w:=Xk m;have B:=z0 (n:=13) (p:=(r.1,[])) (d:=r.2) (h:=h++[.aa ((a i).map eh)]) (o.aa _ w) (o.sm.sm _ w) nofun (o.wl _ w);have y:=k i t;rw[A]at y;have C:=rF (n:=h.length) (us:=(a i).map eh) (ws:=(dY 13 (r.1,[]) r.2).map eh) (h:=h++[.aa ((a i).map eh)]) nofun (by have:=v (i+1);rw[y,Xv]at this;simp;lia);refine⟨[Y (aJ H),Y (.aa h.length),Y (.ae r.1),Y (a_ r.2)],h++[.aa ((a i).map eh)],.nx [Y (aJ H),Y (.aa h.length),Y (.ae r.1),Y (a_ r.2)],h++[.aa ((a (i+1)).map eh)],by simp,?_,rfl,_,_,rfl⟩;have Vc:iH 13 [.af [.ae r.1],a_ r.2] (h++[.aa ((a i).map eh)])=_:=B;simp[b7,Vc,C];rw[y,XS])
  (λσ K q=>by
   obtain⟨rfl,c,j,rfl⟩:=q;refine⟨c,j,rfl,?_⟩;rw[Xw,l])
 refine eA (g:=[.aa ((eG H).map eh)]) (n:=h.length) ?_ (WY _) nofun (bL.mpr λu s=>?_)
 .refine bD ?_;show nD (iH 13) [Y (aJ H),O,O,O] h=_;unfold nD;rw[ab (σ':=[Y (aJ H),Y (.aa h.length),O,O]) (h':=h++[.aa []]) nofun,ab e];rfl
 .obtain⟨x,_,rfl⟩:=Xp.mp s;exact .ab (.aa (bP _) (.aa (a6 _) .nil))
theorem rP {b:Type}{x:M×b}:∀ {l:List (M×b)},(l.map (·.1)).Nodup->x∈l->l.lookup x.1=Y x.2
 |[],_,h=>by cases h
 |(k,a)::r,n,h=>by
  rw[Xq,ZL]at n;rw[Xf];rcases Xj.mp h with rfl | h
  .simp
  .have:x.1≠k:=λz=>n.1 (Xp.mpr ⟨x,h,z⟩)
   rw[beq_false_of_ne this];exact rP n.2 h
theorem Js {H:aK M}(o:bV H){p:h_ M}{d:aA M}(e:bc H p=Y d):(p,d)∈eG H:=by
 unfold bc at e;cases a:H.aa.lookup p.1 with
 |none=>rw[a]at e;cases e
 |some c=>
  rw[a]at e;have b:=YI a;have:=zZ (n:=13) (p:=(p.1,[])) (jh (o.aa _ b) e) e;refine aan.mpr ⟨(p.1,c),b,?_⟩;simpa using this
theorem Jr {H:aK M}(o:bV H){p:h_ M}{d:aA M}(h:(p,d)∈eG H):bc H p=Y d:=by
 obtain⟨r,a,h⟩:=aan.mp h;obtain⟨l,rfl,e⟩:=zY h;unfold bc;have:H.aa.lookup r.1=Y r.2:=rP o.sm.nd a;dsimp only;rw[this];exact e
@[simp] theorem Ry {a:ME}{s:sN}{σ:bu}{h:MH}:vE a s σ h=(a σ h).bind λp=>(s σ p.2).bind λk=>match p.1 with | .af us=>if k.1=Y (-1) then Y (.af us.reverse,k.2) else O | _=>none:=rfl
theorem FC {ks:List (M×M)}{n:M}{h:MH}(hz:ks.length<1000):dW [cG ks,.ae n] h=Y (.ag ((WH ks n).map .ae),h):=by
 let it (k:M×M):U:=.af [.ae k.1,.ae k.2];obtain⟨f,h',e,j,l,w,rfl,rfl⟩:=d7 (mi:=cy (vE aG (b8 (bU vI (aq 1))))) (g:=iC 2 (bt (b' 3) (bt (b' 4) iB))) (b:=az O9 (af (aO (fy aL cu n4)) (au c4 (b' 1))) ai)
  (σ:=[Y (cG ks),Y (.ae n),Y (.aa h.length),O,O]) (h:=h++[MO.aa []]) (h1:=h++[MO.aa []]) (it:=lX (ks.map it).reverse) (us:=(ks.map it).reverse)
  (λi σ H=>∃ a w j l,σ=[Y (cG ks),Y (.ae w),Y (.aa h.length),j,l]/\H=h++[MO.aa (a.map .ae)]/\a.length<=i/\a++jc (ks.reverse.drop i) w=WH ks n)
  (λf H=>∃ j l w,f=.nx [Y (cG ks),Y (.ae w),Y (.aa h.length),j,l]/\H=h++[MO.aa ((WH ks n).map .ae)])
  (by simp[cG,it]) (λi H=>rfl) (by simp;lia) ⟨[],n,O,O,rfl,rfl,WY _,rfl⟩
  (λi u σ H s q=>by
   obtain⟨a,w,j,l,rfl,rfl,x,d⟩:=q;rw[<-abu,Xd]at s;obtain⟨k,p,rfl⟩:=XD.mp s;have r:=(W2.mp p).1;rw[XZ r]at d;have Dg:ks.reverse[i]=k:=by rw[W6 r]at p;exact Xe p
   rw[Dg]at d;have t:i<ks.length:=by simpa using r
   obtain⟨m,o⟩:=k;unfold jc at d;refine⟨[Y (cG ks),Y (.ae w),Y (.aa h.length),Y (.ae m),Y (.ae o)],h++[MO.aa (a.map .ae)],?_⟩;by_cases c:m=w
   .rw[W0 c]at d;subst c;have v:=cX (n:=h.length) (us:=a.map U.ae) (u:=.ae m) (h:=h++[MO.aa (a.map U.ae)]) nofun (by simp;lia);refine⟨.nx [Y (cG ks),Y (.ae o),Y (.aa h.length),Y (.ae m),Y (.ae o)],h++[MO.aa ((a++[m]).map .ae)],by simp[it],?_,⟨a++[m],o,_,_,rfl,rfl,by simp;lia,by simpa using d⟩⟩;simp at v;simp[v,b7]
   .rw[W5 c]at d;refine⟨.nx [Y (cG ks),Y (.ae w),Y (.aa h.length),Y (.ae m),Y (.ae o)],h++[MO.aa (a.map .ae)],by simp[it],?_,⟨a,w,_,_,rfl,rfl,by lia,d⟩⟩;simp[c])
  (λσ H q=>by
   obtain⟨a,w,j,l,rfl,rfl,x,d⟩:=q;have y:ks.reverse.drop (ks.map it).reverse.length=[]:=by simp
   rw[y]at d;have QZ:a=WH ks n:=by simpa [jc]using d
   exact⟨j,l,w,rfl,by rw[QZ]⟩)
 refine eA (g:=[MO.aa ((WH ks n).map .ae)]) (n:=h.length) ?_ (WY _) nofun dE;refine bD ?_;show jC [Y (cG ks),Y (.ae n),O,O,O] h=_;unfold jC;rw[ab (σ':=[Y (cG ks),Y (.ae n),Y (.aa h.length),O,O]) (h':=h++[.aa []]) nofun,ab e];rfl
noncomputable def zj (p:h_ M):NK.KD:=.aa (.ae p.1::p.2.map λn:Nat=>.ab (n:Int))
theorem qA:∀ ns:List Nat,lI (ns.map λn:Nat=>U.ab (n:Int))=Y (ns.map λn:Nat=>NK.KD.ab (n:Int))
 |[]=>rfl
 |n::r=>by
  show(uy (.ab (n:Int))).bind _=_;show(lI _).bind _=_;rw[qA r];rfl
theorem xA {p:h_ M}:AQ (aj p)=Y (zj p):=by
 have e:uy (aj p)=Y (zj p):=by
  show(lI (.ae p.1::p.2.map λn:Nat=>U.ab (n:Int))).bind _=_;have:lI (.ae p.1::p.2.map λn:Nat=>U.ab (n:Int))=Y (.ae p.1::p.2.map λn:Nat=>NK.KD.ab (n:Int)):=by
   show(lI _).bind _=_;rw[qA];rfl
  rw[this];rfl
 show(uy (aj p)).bind _=_;rw[e];refine W0 ?_;show List.all _ _=L;rw[X0];intro x hx;rcases Xj.mp hx with rfl | hx
 .rfl
 .obtain⟨n,_,rfl⟩:=Xp.mp hx;rfl
theorem Gw {p q:h_ M}(h:zj p=zj q):p=q:=by
 unfold zj at h;injection h with h;injection h with c d;injection c with c;have e:p.2=q.2:=acX (λa b z=>by injection z with z;lia) |>.mp d
 exact Prod.ext c e
def Ds (H:aK M)(a:List (NK.KD×U)):Prop:=∀ p d,bc H p=Y d->bx a (zj p)=Y (a_ d)
theorem BA {H:aK M}{A:List (NK.KD×U)}{b:Nat}{a:aA M}{ts:List (M×aA M)}{p:h_ M}{h:MH}(G:qY H)(hb:h[b]?=Y (.dT A))(I:Ds H A)(V:ts.length<1000)(s:cD H p) :
  jT dW [aJ H,.aa b,a_ (.aa a ts),aj p] h=Y (oQ (aT H ts p),h):=by
 obtain⟨k,s⟩:=s;have t:aT H ts p=bB (WH H.ae k) 0 ts:=by unfold aT Y0;rw[s]
 rw[t];generalize v:WH H.ae k=d;have B:=FC (ks:=H.ae) (n:=k) (h:=h) G.aa;rw[v]at B;have N:bS h (.aa b) (aj p)=Y (Y (a_ (.aE k))):=by
  unfold bS;dsimp only;rw[hb];show(AQ (aj p)).bind _=_;rw[xA,WZ,I p _ s]
 have P:cU h (.aa b)=true:=by simp[cU,hb]
 obtain⟨f,W,w,Q,T⟩:=d7 (mi:=dz (aa (aw dO Ik (aq 2)) ae)) (g:=b' 5) (b:=az (mB (gu b_ (ao (ao cu (aw aI (aq 2) jn)) (aq 0)) c4)) (ax jn) ai)
  (σ:=[Y (aJ H),Y (.aa b),Y (a_ (.aa a ts)),Y (aj p),Y (.ag (d.map .ae)),O]) (h:=h) (h1:=h) (it:=Q_ 0 ts.length) (us:=(C_ ts.length).map λk:Nat=>U.ab (k:Int))
  (λi σ K=>K=h/\∃ m,σ=[Y (aJ H),Y (.aa b),Y (a_ (.aa a ts)),Y (aj p),Y (.ag (d.map .ae)),m]/\bB d i (ts.drop i)=bB d 0 ts)
  (λf K=>K=h/\((∃ n,f=.rt (.ab (n:Nat))/\bB d 0 ts=Y n)\/(∃ m,f=.nx [Y (aJ H),Y (.aa b),Y (a_ (.aa a ts)),Y (aj p),Y (.ag (d.map .ae)),m]/\bB d 0 ts=O)))
  (eF (by simp[a_,cH];lia) ⋯) lQ (by simp;lia) ⟨rfl,O,rfl,rfl⟩
  (λi u σ K C q=>by
   obtain⟨rfl,m,rfl,l⟩:=q;rw[Xd]at C;obtain⟨j,o,rfl⟩:=XD.mp C;have y:i<ts.length:=by have:=(W2.mp o).1;simpa using this
   have:j=i:=by rw[aap y]at o;exact(Xe o).symm
   subst this;rw[XZ y]at l;obtain⟨z,D⟩:M×aA Str:=ts[j];have E:ts[j]?=Y ts[j]:=W6 y;generalize ts[j]=x at l E;obtain⟨z,D⟩:=x;rw[jZ]at l;have r:L2.iw (U.ae "catch"::a_ a::fg ts) (2+(j:Int))=Y (gW (z,D)):=by
    rw[show(2:Int)+(j:Int)=((j+2:Nat):Int) by lia,S.cv,Xg,Xg,cH,Xd,E];rfl
   refine⟨[Y (aJ H),Y (.aa b),Y (a_ (.aa a ts)),Y (aj p),Y (.ag (d.map .ae)),Y (.ab (j:Nat))],K,?_⟩;by_cases c:z∈d
   .rw[W0 c]at l;refine⟨.rt (.ab (j:Nat)),K,by simp,?_,⟨rfl,.inl ⟨j,rfl,l.symm⟩⟩⟩;simp[a_,r,gW,c]
   .rw[W5 c]at l;refine⟨.nx [Y (aJ H),Y (.aa b),Y (a_ (.aa a ts)),Y (aj p),Y (.ag (d.map .ae)),Y (.ab (j:Nat))],K,by simp,?_,⟨rfl,_,rfl,l⟩⟩;simp[a_,r,gW,c])
  (λσ K q=>by
   obtain⟨rfl,m,rfl,l⟩:=q;refine⟨rfl,.inr ⟨m,rfl,?_⟩⟩;rw[Xw,ac8,List.drop_length]at l;rw[<-l];rfl)
 rw[Q]at w;have F:au (ah 2 dW (aa (ao aG (aq 0)) (aa (ao (ao aR bC) (aq 1)) ae))) (b' 4) [Y (aJ H),Y (.aa b),Y (a_ (.aa a ts)),Y (aj p),O,O] h=Y (.nx [Y (aJ H),Y (.aa b),Y (a_ (.aa a ts)),Y (aj p),Y (.ag (d.map .ae)),O],h):=by
  refine aC (bf (us:=[cG H.ae,.ae k]) (h1:=h) ?_ rfl B);simp[aJ,P,N];simp[a_]
 refine mH ?_ (by cases bB d 0 ts<;>constructor);rcases T with⟨n,rfl,e⟩ | ⟨m,rfl,e⟩
 .refine bD ?_;show fR dW [Y (aJ H),Y (.aa b),Y (a_ (.aa a ts)),Y (aj p),O,O] h=_;unfold fR;rw[ab F,cM w,e];rfl
 .refine bD ?_;show fR dW [Y (aJ H),Y (.aa b),Y (a_ (.aa a ts)),Y (aj p),O,O] h=_;unfold fR;rw[ab F,ab w,e];rfl
end D11
namespace RN
variable {S:Type}[DecidableEq S]
structure Bs (S:Type) where
 ag:List S
 ae:Nat
 aa:Nat
 af:List (Ev S)
 ab:Option (WI S)
def Bs.st (s:Bs S)(fr:List (q_ S)):St S:=⟨fr,s.ag,s.ae,s.aa,s.af,s.ab⟩
def Bs.ah (s:Bs S)(e:Ev S):Bs S:={s with af:=s.af++[e]}
noncomputable def iE (f:Bs S->Nat->Bs S×Option (n_ S)):Nat->Nat->Bs S->Bs S×Option (n_ S)
 |0,_,s=>(s,Y .aa)
 |c+1,k,s=>match f s k with
  |(a,Y .aa)=>iE f c (k+1) a
  |r=>r
noncomputable def sV (f:Bs S->Bs S×Option (n_ S))(cs:List Int):Nat->Bs S->Bs S×Option (n_ S)
 |0,s=>(s,O)
 |n+1,s=>match cs[s.ae]? with
  |none=>({s with ab:=Y .cC},O)
  |some c=>if c%2=0 then({s with ae:=s.ae+1},Y .aa) else match f {s with ae:=s.ae+1} with
   |(a,Y .aa)=>sV f cs n a
   |(a,Y .ae)=>(a,Y .aa)
   |r=>r
def Yt (s:Bs S)(p:h_ S)(e x:n_ S):Bs S×Option (n_ S):=match e,x with
 |.aE q,.aa=>(s.ah (.aa p q),Y (.aE q))
 |.aE q,x=>(s.ah (.nO p q),Y x)
 |e,.aa=>(s,Y e)
 |_,x=>(s,Y x)
def eZ (H:aK S)(cs:List Int)(F:Bs S->h_ S->aA S->Option (h_ S)->Bs S×Option (n_ S))(n:Nat)(s:Bs S)(p:h_ S)(d:aA S)(h:Option (h_ S)):Bs S×Option (n_ S):=
 match d with
 |.aq w=>(s.ah (.ag p w),Y .aa)
 |.aE _=>(s.ah (.aE p),Y (.aE p))
 |.aj=>(s.ah (.af p h),h.map .aE)
 |.ai=>(s,Y .ab)
 |.ak=>(s,Y .ae)
 |.on m=>({s with ag:=lF H s.ag m},Y .aa)
 |.ao m=>({s with ag:=ik s.ag m},Y .aa)
 |.ah f=>iE (λs k=>match f[k]? with | some x=>F s (l_ p k) x h | none=>(s,O)) f.length 0 s
 |.ag f=>match cs[s.ae]? with
  |none=>({s with ab:=Y .cC},O)
  |some c=>match f[(c%f.length).toNat]? with
   |some x=>F {s with ae:=s.ae+1} (l_ p (c%f.length).toNat) x h
   |none=>(s,O)
 |.ab x=>sV (λs=>F s (l_ p 0) x h) cs n s
 |.fz m a b=>if m∈s.ag then F s (l_ p 0) a h else F s (l_ p 1) b h
 |.ae r=>match H.aa.lookup r with
  |none=>(s,O)
  |some x=>match F s (r,[]) x O with
   |(i,Y (.aE q))=>(i.ah (.ae p q),Y (.aE q))
   |(i,Y _)=>(i,Y .aa)
   |r=>r
 |.af a b=>match F s (l_ p 0) a h with
  |(g,Y e)=>match F g (l_ p 1) b h with
   |(l,Y x)=>Yt l p e x
   |r=>r
  |r=>r
 |.aa a j=>match F s (l_ p 0) a h with
  |(g,Y (.aE q))=>match aT H j q with
   |none=>(g.ah (.by p q),Y (.aE q))
   |some k=>match j[k]? with
    |some x=>F (g.ah (.take p k q)) (l_ p (1+k)) x.2 (Y q)
    |none=>(g,O)
  |r=>r
noncomputable def c9 (H:aK S)(cs:List Int)(most:Nat):Nat->Bs S->h_ S->aA S->Option (h_ S)->Bs S×Option (n_ S)
 |0,s,_,_,_=>(s,O)
 |n+1,s,p,d,h=>if most<=s.aa then({s with ab:=Y .aa},O) else eZ H cs (c9 H cs most n) (n+1) {s with aa:=s.aa+1} p d h
def iq (H:aK S)(cs:List Int)(most:Nat)(st:St S)(e:Option (n_ S))(rest:List (q_ S))(r:Bs S×Option (n_ S)):Prop:=
 (∃ f k,r.1.ab=Y f/\∀ m,L' H cs most (m+k) st e=Y ⟨r.1.af,f,r.1.aa⟩)\/
 (∃ x k,r.1.ab=O/\r.2=Y x/\∀ m,L' H cs most (m+k) st e=L' H cs most m (r.1.st rest) (Y x))
end RN
namespace D11
open PySem L2 S RN
variable [kf:KF]
structure Lm where
 H:aK M
 cs:List Int
 aa:Nat
 b:MH
 ds:List (NK.KD×U)
def oN (w:Lm)(s:Bs M):List (j_×U):=[(p_ "house",aJ w.H),(p_ "deeds",.aa w.b.length),(p_ "choices",.aa (w.b.length+2)),(p_ "most",.ab w.aa),(p_ "begun",.ab s.aa),(p_ "trail",.aa (w.b.length+3)),(p_ "marks",.aa (w.b.length+4)),(p_ "end",cF s.ab)]
def SH (w:Lm)(s:Bs M)(mk:List (j_×U)):MH:=w.b++[.dT w.ds,.dK (oN w s),.aa ((w.cs.drop s.ae).map .ab),.aa (s.af.map bO),.dK mk]
variable {w:Lm}{s:Bs M}{mk:List (j_×U)}
theorem il:(SH w s mk).length=w.b.length+5:=by simp[SH]
theorem Hx:(SH w s mk)[w.b.length]?=Y (.dT w.ds):=by simp[SH]
theorem Br:(SH w s mk)[w.b.length+1]?=Y (.dK (oN w s)):=by simp[SH]
theorem LO:(SH w s mk)[w.b.length+2]?=Y (.aa ((w.cs.drop s.ae).map .ab)):=by simp[SH]
theorem Hy:(SH w s mk)[w.b.length+3]?=Y (.aa (s.af.map bO)):=by simp[SH]
theorem Hz:(SH w s mk)[w.b.length+4]?=Y (.dK mk):=by simp[SH]
@[simp] theorem R4:cU (SH w s mk) (.aa (w.b.length+1))=true:=(dq (z:="") Br).1
@[simp] theorem Qa:cU (SH w s mk) (.aa (w.b.length+4))=true:=(dq (z:="") Hz).1
@[simp] theorem P9:cU (SH w s mk) (.aa w.b.length)=true:=by simp[cU,Hx]
theorem jX {z:M}:bS (SH w s mk) (.aa (w.b.length+1)) (.ae z)=Y (bx (oN w s) (p_ z)):=(dq Br).2
@[simp] theorem PB:bS (SH w s mk) (.aa (w.b.length+1)) (.ae "house")=Y (Y (aJ w.H)):=jX.trans (by simp[oN,bx])
@[simp] theorem Pz:bS (SH w s mk) (.aa (w.b.length+1)) (.ae "deeds")=Y (Y (.aa w.b.length)):=jX.trans (by simp[oN,bx])
@[simp] theorem MK:bS (SH w s mk) (.aa (w.b.length+1)) (.ae "choices")=Y (Y (.aa (w.b.length+2))):=jX.trans (by simp[oN,bx])
@[simp] theorem QK:bS (SH w s mk) (.aa (w.b.length+1)) (.ae "most")=Y (Y (.ab w.aa)):=jX.trans (by simp[oN,bx])
@[simp] theorem Py:bS (SH w s mk) (.aa (w.b.length+1)) (.ae "begun")=Y (Y (.ab s.aa)):=jX.trans (by simp[oN,bx])
@[simp] theorem PF:bS (SH w s mk) (.aa (w.b.length+1)) (.ae "trail")=Y (Y (.aa (w.b.length+3))):=jX.trans (by simp[oN,bx])
@[simp] theorem PD:bS (SH w s mk) (.aa (w.b.length+1)) (.ae "marks")=Y (Y (.aa (w.b.length+4))):=jX.trans (by simp[oN,bx])
@[simp] theorem S2:bS (SH w s mk) (.aa (w.b.length+1)) (.ae "end")=Y (Y (cF s.ab)):=jX.trans (by simp[oN,bx])
theorem JP {p:h_ M}{d:aA M}(a:Ds w.H w.ds)(e:bc w.H p=Y d):bS (SH w s mk) (.aa w.b.length) (aj p)=Y (Y (a_ d)):=by
 unfold bS;dsimp only;rw[Hx];show(AQ (aj p)).bind _=_;rw[xA,WZ,a p _ e]
theorem Bl {k:Nat}:eN (SH w s mk) (.aa (w.b.length+1)) (.ae "begun") (.ab (k:Int))=Y (SH w {s with aa:=k} mk):=by
 rw[kh Br (by simp[oN])];simp[SH,oN,c7]
theorem uf {f:WI M}:eN (SH w s mk) (.aa (w.b.length+1)) (.ae "end") (bw f)=Y (SH w {s with ab:=Y f} mk):=by
 rw[kh Br (by simp[oN])];simp[SH,oN,c7,cF]
theorem vN {m:M}{v:U}(a:mk.length<1000):eN (SH w s mk) (.aa (w.b.length+4)) (.ae m) v=Y (SH w s (c7 mk (p_ m) v)):=by
 rw[kh Hz a];simp[SH]
@[simp] theorem R5:b7 (SH w s mk) (.aa (w.b.length+3))=Y (w.b.length+3,s.af.map bO):=cg Hy
@[simp] theorem Qb:b7 (SH w s mk) (.aa (w.b.length+2))=Y (w.b.length+2,(w.cs.drop s.ae).map .ab):=cg LO
theorem Ep (e:Ev M)(a:s.af.length<1000000):aL (.aa (w.b.length+3)) [bO e] (SH w s mk)=Y (.aQ,SH w (s.ah e) mk):=by
 rw[cX Hy (by simpa using a)];simp[SH,Bs.ah,oN]
theorem y7 {l:List (Ev M)}:cE 0 (l.map bO):=bL.mpr λu a=>by obtain⟨x,_,rfl⟩:=Xp.mp a;exact Aw x
def MC (a:List (NK.KD×U)):Prop:=cE 0 (a.map (·.2))
def M4 (mk:List (j_×U)):Prop:=cE 0 (mk.map (·.2))
theorem pU (x:WI M):ip 0 (bw x):=by
 cases x with
 |ab=>exact .ab (.aa .aa .nil)
 |aE p=>exact .ab (.aa .aa (.aa (bP p) .nil))
 |cC=>exact .ab (.aa .aa .nil)
 |aa=>exact .ab (.aa .aa .nil)
theorem HJ:cE (w.b.length+5) ((oN w s).map (·.2)):=by
 refine .aa (nP (ve _)) (.aa (.ag ⋯) (.aa (.ag ⋯) (.aa .ae (.aa .ae (.aa (.ag ⋯) (.aa (.ag ⋯) (.aa ?_ .nil)))))));cases s.ab with
 |none=>exact .aQ
 |some f=>exact nP (pU f)
theorem LP {s':Bs M}{mk':List (j_×U)}{g:MH}(c:MC w.ds)(d:M4 mk'):l9 (SH w s mk) (SH w s' mk'++g):=by
 refine⟨by rw[Xv,il,il];lia,λi a=>?_⟩;rw[il]at a;rw[W3 (by rw[il];exact a)];by_cases q:i<w.b.length
 .left;unfold SH;rw[W3 q,W3 q]
 .right;rw[il];have:i=w.b.length\/i=w.b.length+1\/i=w.b.length+2\/i=w.b.length+3\/i=w.b.length+4:=by lia
  rcases this with rfl | rfl | rfl | rfl | rfl
  .exact⟨_,Hx,c.ab (Xl _)⟩
  .exact⟨_,Br,HJ⟩
  .exact⟨_,LO,bL.mpr λu e=>by obtain⟨x,_,rfl⟩:=Xp.mp e;exact .ae⟩
  .exact⟨_,Hy,y7.ab (Xl _)⟩
  .exact⟨_,Hz,d.ab (Xl _)⟩
theorem ES {N:Nat}{m:MS}{us:List U}{u:U}{s':Bs M}{mk':List (j_×U)}{g:MH}(a:MC w.ds)(b:M4 mk')(l:ip 0 u)(e:cJ N m us (SH w s mk)=Y (u,SH w s' mk'++g)):dw N m us (SH w s mk)=Y (u,SH w s' mk'):=by
 unfold dw;rw[e];show FR _ _ _=_;rw[tQ (nP l).ji (LP a b),show(SH w s mk).length=(SH w s' mk').length by rw[il,il],mZ]
theorem lT {h:MH}{n:Nat}:∀ {ns:List Int},eR (aZ h n) (ns.map .ab)=Y (ns.map Ze)
 |[]=>rfl
 |x::r=>by
  show(aZ h n (.ab x)).bind _=_;rw[pQ];show(eR (aZ h n) (r.map U.ab)).bind _=_;rw[lT];rfl
theorem pR {h:MH}{n:Nat}{ns:List Int}(e:h[n]?=Y (.aa (ns.map .ab))):aZ h Dp (.aa n)=Y (.list (ns.map Ze)):=by
 show(match h[n]? with | some (.aa a)=>(eR (aZ h _) a).bind λb=>Y (ach b) | _=>O)=_;rw[e];show(eR _ _).bind _=_;rw[lT];rfl
def sW (w:Lm)(s:Bs M)(k:Int):U×Bs Str:=match w.cs[s.ae]? with
 |none=>(.aQ,{s with ab:=Y .cC})
 |some c=>(.ab (c%k),{s with ae:=s.ae+1})
theorem uK (l:MC w.ds)(m:M4 mk){k:Int}(p:0<k):aS [.aa (w.b.length+1),.ab k] (SH w s mk)=Y ((sW w s k).1,SH w (sW w s k).2 mk):=by
 have f:(SH w s mk++[MO.aa []])[w.b.length+2]?=Y (.aa ((w.cs.drop s.ae).map .ab)):=(W3 (by rw[il];lia)).trans LO;have q:(SH w s mk++[MO.aa []])[(SH w s mk).length]?=Y (.aa (([]:List Int).map .ab)):=by simp
 have h:∀ (x:MO),(SH w s mk++[x])[w.b.length+1]?=Y (.dK (oN w s)):=λx=>(W3 (by rw[il];lia)).trans Br
 have d:S.bh b_ (.aa (w.b.length+2)) (.aa (SH w s mk).length) (SH w s mk++[MO.aa []])=Y (.bl (w.cs.drop s.ae).isEmpty,SH w s mk++[MO.aa []]):=by
  unfold S.bh;rw[pR f,pR q];cases w.cs.drop s.ae with
  |nil=>simp[F',WK]
  |cons a r=>simp[F',WK]
 unfold sW;cases i:w.cs[s.ae]? with
 |none=>
  have e:w.cs.drop s.ae=[]:=abl (XA.mp i);refine ES (s':={s with ab:=Y .cC}) (g:=[.aa []]) l m .aQ ?_;obtain⟨j,n⟩:=dq (z:="end") (h (.aa []));have o:=kh (z:="end") (v:=bw .cC) (h (.aa [])) (by simp[oN]);have t:(SH w s mk++[MO.aa []]).set (w.b.length+1) (.dK (c7 (oN w s) (p_ "end") (bw .cC)))=SH w {s with ab:=Y .cC} mk++[MO.aa []]:=by
   simp[SH,oN,c7,cF]
  rw[t]at o;have UH:eN (SH w s mk++[MO.aa []]) (.aa (w.b.length+1)) (.ae "end") (.af [.ae "waits"])=_:=o;rw[e]at d;simp[cJ,jy,d,j,UH]
 |some c=>
  have u:=(W2.mp i).1;have e:w.cs.drop s.ae=c::w.cs.drop (s.ae+1):=by
   rw[XZ u];congr 1;exact(W2.mp i).2
  refine ES (s':={s with ae:=s.ae+1}) (g:=[.aa []]) l m .ae ?_;obtain⟨j,n⟩:=dq (z:="choices") (h (.aa []));have UG:bS (SH w s mk++[MO.aa []]) (.aa (w.b.length+1)) (.ae "choices")=Y (Y (.aa (w.b.length+2))):=n.trans (by simp[oN,bx]);have y:zD (.aa (w.b.length+2)) [.ab 0] (SH w s mk++[MO.aa []])=Y (.ab c,SH w {s with ae:=s.ae+1} mk++[MO.aa []]):=by
   show(b7 _ _).bind _=_;rw[cg f,WZ];dsimp only;rw[e];show Y (U.ab c,_)=_;simp[SH,oN]
  rw[e]at d;simp[cJ,jy,d,j,UG,cg f,y,sf p]
end D11
namespace D11
open PySem L2 S RN
variable [kf:KF][c0:Cw]
def l6 (H:aK M)(p:h_ M):Prop:=∃ d,bc H p=Y d
def BZ (H:aK M):Ev M->Prop
 |.ag p x=>l6 H p/\x∈H.af
 |.aE p=>l6 H p
 |.af p q=>l6 H p/\∃ x,q=Y x/\cD H x
 |.take p n q=>l6 H p/\n<1000/\cD H q
 |.by p q=>l6 H p/\cD H q
 |.aa p q=>l6 H p/\cD H q
 |.nO p q=>l6 H p/\cD H q
 |.ae p q=>l6 H p/\cD H q
 |.ab q=>cD H q
structure Iv (w:Lm)(s:Bs M)(mk:List (j_×U))(c:Nat):Prop where
 ab:s.aa<=w.aa
 tr:s.af.length+c<=s.aa
 ev:∀ e∈s.af,BZ w.H e
 ai:∀ m∈s.ag,m∈w.H.ab
 ag:∀ m:M,bx mk (p_ m)=Y (.bl L)↔m∈s.ag
 ah:∀ (m:M) u,bx mk (p_ m)=Y u->∃ b,u=.bl b
 bl:M4 mk
 aj:mk.length<=s.aa
noncomputable def hf:Bool->WI M
 |true=>.aa
 |false=>.cC
structure Po (w:Lm)(s:Bs M)(c:Nat)(r:Bs M×Option (n_ M))(mk:List (j_×U)):Prop where
 iv:Iv w r.1 mk c
 le:s.aa<=r.1.aa
 en:(r.2=O/\∃ f,r.1.ab=Y (hf f))\/(r.1.ab=O/\∃ x,r.2=Y x/\jo w.H (Y x))
structure sM (w:Lm):Prop where
 ok:bV w.H
 ds:Ds w.H w.ds
 dl:MC w.ds
 mo:w.aa<=1000
def gB (w:Lm)(n:Nat)(f:MF):Prop:=∀ (s:Bs M) (p:h_ M) (d:aA M) (h:Option (h_ M)) (mk:List (j_×U)) (c:Nat),s.ab=O->Iv w s mk c->w.aa<n+s.aa->bc w.H p=Y d->Ok w.H h.isSome d->(∀ q,h=Y q->cD w.H q)->
 ∃ a,f [.aa (w.b.length+1),aj p,aV h] (SH w s mk)=Y (aN (c9 w.H w.cs w.aa n s p d h).2,SH w (c9 w.H w.cs w.aa n s p d h).1 a)/\Po w s c (c9 w.H w.cs w.aa n s p d h) a/\((c9 w.H w.cs w.aa n s p d h).1.ab=O->s.aa<(c9 w.H w.cs w.aa n s p d h).1.aa)
variable {w:Lm}{n:Nat}{f:MF}{s:Bs M}{mk:List (j_×U)}{c:Nat}{p:h_ M}{h:Option (h_ M)}
theorem sM.pl (afh:sM w)(a:l6 w.H p):p.2.length<900:=let ⟨_,e⟩:=a;(d6 afh.ok.sm e).2
theorem sM.sm (afh:sM w){d:aA M}(e:bc w.H p=Y d):Sm d:=(d6 afh.ok.sm e).1
theorem Iv.aa {c':Nat}(a:Iv w s mk c)(h:c'<=c):Iv w s mk c':=⟨a.ab,by have:=a.tr;lia,a.ev,a.ai,a.ag,a.ah,a.bl,a.aj⟩
theorem Iv.af (a:Iv w s mk (c+1)){e:Ev M}(o:BZ w.H e):Iv w (s.ah e) mk c:=by
 refine⟨a.ab,?_,λx b=>?_,a.ai,a.ag,a.ah,a.bl,a.aj⟩
 .have:=a.tr;show(s.af++[e]).length+c<=s.aa;simp;lia
 .rcases XG.mp b with z | z
  .exact a.ev x z
  .simp at z;subst z;exact o
theorem Iv.aq (a:Iv w s mk c):Iv w {s with ae:=s.ae+1} mk c:=⟨a.ab,a.tr,a.ev,a.ai,a.ag,a.ah,a.bl,a.aj⟩
theorem Iv.ak (a:Iv w s mk c)(x:Option (WI M)):Iv w {s with ab:=x} mk c:=⟨a.ab,a.tr,a.ev,a.ai,a.ag,a.ah,a.bl,a.aj⟩
theorem Iv.ae (afh:sM w)(a:Iv w s mk c):s.af.length<1000000:=by have:=a.tr;have:=a.ab;have:=afh.mo;lia
theorem mO {e:Option (WI M)}:iA (cF e)=e.isNone:=by cases e with | none=>rfl | some x=>cases x<;>rfl
theorem Hm (afh:sM w)(D:gB w n f){e:List (aA M)}(I:bc w.H p=Y (.ah e))(ok:∀ d∈e,Ok w.H h.isSome d)(hh:∀ q,h=Y q->cD w.H q)(hs:s.ab=O)(iv:Iv w s mk c)(hf:w.aa<n+s.aa)
  {F:Bs M->Nat->Bs M×Option (n_ M)} (hF:∀ s k x,e[k]?=Y x->F s k=c9 w.H w.cs w.aa n s (l_ p k) x h) :
  ∃ mk',ee f [.aa (w.b.length+1),aj p,a_ (.ah e),aV h] (SH w s mk)=Y (aN (iE F e.length 0 s).2,SH w (iE F e.length 0 s).1 mk')/\Po w s c (iE F e.length 0 s) mk':=by
 have hl:e.length<1000:=(afh.sm I).aa;have NP:=afh.pl ⟨_,I⟩;generalize hr:iE F e.length 0 s=r;obtain⟨N,K,X,q⟩:=d7 (mi:=dz (aa (aw dO Ik (aq 1)) ae)) (g:=b' 4) (b:=af (au (ah 3 f My) (b' 5)) (az (qS (mB (aw (S.bh L) jn (ag "done"))) (mB (aw (d8 L) (ao aG (ag "end")) bJ))) (ax jn) ai))
  (σ:=[Y (.aa (w.b.length+1)),Y (aj p),Y (a_ (.ah e)),Y (aV h),O,O]) (h:=SH w s mk) (h1:=SH w s mk) (it:=Q_ 0 e.length) (us:=(C_ e.length).map λk:Nat=>U.ab (k:Int))
  (λi σ K=>∃ m mk' P E,σ=[Y (.aa (w.b.length+1)),Y (aj p),Y (a_ (.ah e)),Y (aV h),P,E]/\K=SH w m mk'/\m.ab=O/\Iv w m mk' c/\s.aa<=m.aa/\iE F (e.length-i) i m=r)
  (λN K=>∃ mk',K=SH w r.1 mk'/\Po w s c r mk'/\(N=.rt (aN r.2)\/(r.2=Y .aa/\∃ σ,N=.nx σ)))
  (eF (by simp[a_,cx]) ⋯) lQ (by simp;lia) ⟨s,mk,O,O,rfl,rfl,hs,iv,WY _,hr⟩
  (λi u σ K Z q=>by
   obtain⟨m,mk',P,E,rfl,rfl,y,A,Q,a⟩:=q;rw[Xd]at Z;obtain⟨l,B,rfl⟩:=XD.mp Z;have T:i<e.length:=by have:=(W2.mp B).1;simpa using this
   have:l=i:=by rw[aap T]at B;exact(Xe B).symm
   subst this;have hx:e[l]?=Y e[l]:=W6 T;obtain⟨j,e1,v,_⟩:=D m (l_ p l) e[l] h mk' c y A ⋯ ((c6 I).trans hx) (ok _ (XY T)) hh;rw[show e.length-l=(e.length-(l+1))+1 by lia]at a;unfold iE at a;rw[hF m l _ hx]at a;generalize c9 w.H w.cs w.aa n m (l_ p l) e[l] h=r1 at e1 v a;obtain⟨o,V⟩:=r1;have G:au (ah 3 f My) (b' 5) [Y (.aa (w.b.length+1)),Y (aj p),Y (a_ (.ah e)),Y (aV h),Y (.ab (l:Nat)),E] (SH w m mk')=Y (.nx [Y (.aa (w.b.length+1)),Y (aj p),Y (a_ (.ah e)),Y (aV h),Y (.ab (l:Nat)),Y (aN V)],SH w o j):=by
    refine aC (bf (us:=[.aa (w.b.length+1),aj (l_ p l),aV h]) (h1:=SH w m mk') ?_ rfl e1);simp[mE (show p.2.length<1000 by lia)]
   have t:s.aa<=o.aa:=Xi Q v.le;refine⟨[Y (.aa (w.b.length+1)),Y (aj p),Y (a_ (.ah e)),Y (aV h),Y (.ab (l:Nat)),E],SH w m mk',?_⟩;rcases v.en with⟨z,fn,zf⟩ | ⟨C,x,z,W⟩
   .have z:V=none:=z;subst z;have a:(o,O)=r:=a;refine⟨.rt .aQ,SH w o j,rfl,?_,j,by rw[<-a],by rw[<-a];exact⟨v.iv,t,.inl ⟨rfl,fn,zf⟩⟩,.inl (by rw[<-a];rfl)⟩;rw[ab G];simp[aN]
   .have z:V=Y x:=z;have C:o.ab=none:=C;subst z;cases x with
    |aa=>
     refine⟨.nx [Y (.aa (w.b.length+1)),Y (aj p),Y (a_ (.ah e)),Y (aV h),Y (.ab (l:Nat)),Y (.ae "done")],SH w o j,rfl,?_,o,j,_,_,rfl,rfl,C,v.iv,t,a⟩;rw[ab G];simp[aN,aH,mO,show o.ab=O from C]
    |ab=>
     have a:(o,Y .ab)=r:=a;refine⟨.rt (.ae "leave"),SH w o j,rfl,?_,j,by rw[<-a],by rw[<-a];exact⟨v.iv,t,.inr ⟨C,_,rfl,W⟩⟩,.inl (by rw[<-a];rfl)⟩;rw[ab G];simp[aN,aH]
    |ae=>
     have a:(o,Y .ae)=r:=a;refine⟨.rt (.ae "stop"),SH w o j,rfl,?_,j,by rw[<-a],by rw[<-a];exact⟨v.iv,t,.inr ⟨C,_,rfl,W⟩⟩,.inl (by rw[<-a];rfl)⟩;rw[ab G];simp[aN,aH]
    |aE q=>
     have a:(o,Y (.aE q))=r:=a;refine⟨.rt (aj q),SH w o j,rfl,?_,j,by rw[<-a],by rw[<-a];exact⟨v.iv,t,.inr ⟨C,_,rfl,W⟩⟩,.inl (by rw[<-a];rfl)⟩;rw[ab G];simp[aN,aH])
  (λσ K q=>by
   obtain⟨m,mk',P,E,rfl,rfl,y,A,Q,a⟩:=q;rw[Xw,ac8,adg]at a;have a:(m,Y .aa)=r:=a;exact⟨mk',by rw[<-a],by rw[<-a];exact⟨A,Q,.inr ⟨y,_,rfl,trivial⟩⟩,.inr ⟨by rw[<-a],_,rfl⟩⟩)
 obtain⟨mk',rfl,v,z⟩:=q;refine⟨mk',?_,v⟩;refine bD ?_;show nE f [Y (.aa (w.b.length+1)),Y (aj p),Y (a_ (.ah e)),Y (aV h),O,O] (SH w s mk)=_;unfold nE;rcases z with rfl | ⟨z,σ,rfl⟩
 .exact cM X
 .rw[ab X,z];rfl
end D11
namespace D11
open PySem L2 S RN
variable [kf:KF][c0:Cw]
variable {w:Lm}{n:Nat}{f:MF}{s:Bs M}{mk:List (j_×U)}{c:Nat}{p:h_ M}{h:Option (h_ M)}
noncomputable def nL:n_ M->Bool
 |.aa=>L
 |_=>b_
theorem CV {neg:Bool}{x:n_ M}{K:MH}:S.bh neg (aH x) (.ae "done") K=Y (.bl (if neg then !nL x else nL x),K):=by
 cases x<;>simp[aH,nL]
def Nl (f:MF):MS:=(af (au (ah 2 aS (aa aG (aa (aq 2) ae))) (b' 3))
  (af (az Io (ax bJ) ai)
  (af (az (mB (aw (S.bh b_) bC (aq 0))) (ax (ag "done")) ai)
  (af (au (ah 3 f (aa aG (aa (aw aI aR (av (aa (aq 0) ae))) dQ))) (b' 4))
  (af (az (mB (aw (S.bh b_) c4 (ag "stop"))) (ax (ag "done")) ai)
  (az (mB (aw (S.bh L) c4 (ag "done"))) (ax c4) ai))))))
theorem pK (afh:sM w)(D:gB w n f){x:aA M}(B:bc w.H p=Y (.ab x))(G:Ok w.H h.isSome x)(I:∀ q,h=Y q->cD w.H q):∀ (k m:Nat) {s:Bs M}{mk:List (j_×U)}{o3 o4:Option U},k<m->s.ab=O->Iv w s mk c->w.aa<k+s.aa->w.aa<n+s.aa->
  ∃ mk',lA (dS (mC (.bl L))) (Nl f) m [Y (.aa (w.b.length+1)),Y (aj p),Y (aV h),o3,o4] (SH w s mk)=Y (.rt (aN (sV (λs=>c9 w.H w.cs w.aa n s (l_ p 0) x h) w.cs k s).2),SH w (sV (λs=>c9 w.H w.cs w.aa n s (l_ p 0) x h) w.cs k s).1 mk')/\Po w s c (sV (λs=>c9 w.H w.cs w.aa n s (l_ p 0) x h) w.cs k s) mk'
 |0,m,s,mk,o3,o4,_,C,r,W,N=>by have:=r.ab;lia
 |k+1,0,s,mk,o3,o4,X,_,_,_,_=>by lia
 |k+1,m+1,s,mk,o3,o4,X,C,r,W,N=>by
  have j:∀ {Z:bu}{K:MH},dS (mC (.bl L)) Z K=Y (L,K):=rfl;have E:=uK (w:=w) (s:=s) (mk:=mk) afh.dl r.bl (k:=2) ∅;have l:au (ah 2 aS (aa aG (aa (aq 2) ae))) (b' 3) [Y (.aa (w.b.length+1)),Y (aj p),Y (aV h),o3,o4] (SH w s mk)=Y (.nx [Y (.aa (w.b.length+1)),Y (aj p),Y (aV h),Y (sW w s 2).1,o4],SH w (sW w s 2).2 mk):=
   aC (bf (us:=[.aa (w.b.length+1),.ab 2]) (h1:=SH w s mk) rfl rfl E)
  unfold sW at l;unfold sV;cases P:w.cs[s.ae]? with
  |none=>
   rw[P]at l;refine⟨mk,?_,r.ak _,WY _,.inl ⟨rfl,b_,rfl⟩⟩;rw[dv j (f:=.rt .aQ) (h2:=SH w {s with ab:=Y .cC} mk)]
   .rfl
   .unfold Nl;rw[ab l];simp
  |some g=>
   rw[P]at l;dsimp only at l ⊢;by_cases q:g%2=0
   .rw[W0 q];refine⟨mk,?_,r.aq,WY _,.inr ⟨C,_,rfl,trivial⟩⟩;rw[dv j (f:=.rt (.ae "done")) (h2:=SH w {s with ae:=s.ae+1} mk)]
    .rfl
    .unfold Nl;rw[ab l];simp[q]
   .rw[W5 q];obtain⟨a,Q,i,T⟩:=D {s with ae:=s.ae+1} (l_ p 0) x h mk c C r.aq N (c6 B) G I;generalize c9 w.H w.cs w.aa n {s with ae:=s.ae+1} (l_ p 0) x h=r1 at Q i T;obtain⟨e,A⟩:=r1;have t:aI (aj p) (.af [.ab 0]) (SH w {s with ae:=s.ae+1} mk)=Y (aj (l_ p 0),SH w {s with ae:=s.ae+1} mk):=mE (k:=0) (by have:=afh.pl ⟨_,B⟩;lia);have e3:au (ah 3 f (aa aG (aa (aw aI aR (av (aa (aq 0) ae))) dQ))) (b' 4) [Y (.aa (w.b.length+1)),Y (aj p),Y (aV h),Y (.ab (g%2)),o4] (SH w {s with ae:=s.ae+1} mk)=Y (.nx [Y (.aa (w.b.length+1)),Y (aj p),Y (aV h),Y (.ab (g%2)),Y (aN A)],SH w e a):=by
     refine aC (bf (us:=[.aa (w.b.length+1),aj (l_ p 0),aV h]) (h1:=SH w {s with ae:=s.ae+1} mk) ?_ rfl Q);simp[t]
    have u:∀ F K,(af (az (mB (aw (S.bh b_) c4 (ag "stop"))) (ax (ag "done")) ai) (az (mB (aw (S.bh L) c4 (ag "done"))) (ax c4) ai)) [Y (.aa (w.b.length+1)),Y (aj p),Y (aV h),Y (.ab (g%2)),Y (aN A)] (SH w e a)=Y (F,K)->Nl f [Y (.aa (w.b.length+1)),Y (aj p),Y (aV h),o3,o4] (SH w s mk)=Y (F,K):=λF K z=>by
     unfold Nl;rw[ab l,ab (σ':=[Y (.aa (w.b.length+1)),Y (aj p),Y (aV h),Y (.ab (g%2)),o4]) (h':=SH w {s with ae:=s.ae+1} mk) nofun,ab (σ':=[Y (.aa (w.b.length+1)),Y (aj p),Y (aV h),Y (.ab (g%2)),o4]) (h':=SH w {s with ae:=s.ae+1} mk) (by simp[q]),ab e3,z]
    have d:s.aa<=e.aa:=i.le;rcases i.en with⟨z,fn,zf⟩ | ⟨v,y,z,V⟩
    .have z:A=none:=z;subst z;refine⟨a,?_,i.iv,d,.inl ⟨rfl,fn,zf⟩⟩;rw[dv j (u (.rt .aQ) (SH w e a) (by simp[aN]))];rfl
    .have z:A=Y y:=z;subst z;cases y with
     |aa=>
      have IT:s.aa<e.aa:=T v;obtain⟨mk',e5,o⟩:=pK afh D B G I k m (s:=e) (mk:=a) (o3:=Y (.ab (g%2))) (o4:=Y (.ae "done")) ⋯ v i.iv ⋯ ⋯;refine⟨mk',?_,o.iv,Xi d o.le,o.en⟩;rw[dv j (u (.nx [Y (.aa (w.b.length+1)),Y (aj p),Y (aV h),Y (.ab (g%2)),Y (.ae "done")]) (SH w e a) (by simp[aN,aH]))];exact e5
     |ab=>
      refine⟨a,?_,i.iv,d,.inr ⟨v,_,rfl,V⟩⟩;rw[dv j (u (.rt (.ae "leave")) (SH w e a) (by simp[aN,aH]))];rfl
     |ae=>
      refine⟨a,?_,i.iv,d,.inr ⟨v,_,rfl,trivial⟩⟩;rw[dv j (u (.rt (.ae "done")) (SH w e a) (by simp[aN,aH]))];rfl
     |aE q=>
      refine⟨a,?_,i.iv,d,.inr ⟨v,_,rfl,V⟩⟩;rw[dv j (u (.rt (aj q)) (SH w e a) (by simp[aN,aH]))];rfl
theorem z7 (afh:sM w)(D:gB w n f){x:aA M}(a:bc w.H p=Y (.ab x))(d:Ok w.H h.isSome x)(g:∀ q,h=Y q->cD w.H q)(i:n<1000)(j:s.ab=O)(k:Iv w s mk c)(l:w.aa<n+s.aa) :
  ∃ mk',cW aS f [.aa (w.b.length+1),aj p,aV h] (SH w s mk)=Y (aN (sV (λs=>c9 w.H w.cs w.aa n s (l_ p 0) x h) w.cs (n+1) s).2,SH w (sV (λs=>c9 w.H w.cs w.aa n s (l_ p 0) x h) w.cs (n+1) s).1 mk')/\Po w s c (sV (λs=>c9 w.H w.cs w.aa n s (l_ p 0) x h) w.cs (n+1) s) mk':=by
 obtain⟨mk',e,m⟩:=pK (c:=c) afh D a d g (n+1) FU (s:=s) (mk:=mk) (o3:=O) (o4:=O) (uC ⋯) j k ⋯ l;exact⟨mk',bD e,m⟩
noncomputable def tT:n_ M->Bool
 |.aE _=>L
 |_=>b_
theorem gy {x:n_ M}{σ:bu}{K:MH}{i:Nat}(e:σ[i]?=Y (Y (aH x))):dS (qR "tuple" (bZ i)) σ K=Y (tT x,K):=by
 cases x<;>simp[e,aH,aj,qU,qe,eS,tT]
theorem HU {σ:bu}{K:MH}{i:Nat}(e:σ[i]?=Y (Y .aQ)):dS (qR "tuple" (bZ i)) σ K=Y (b_,K):=by
 simp[e,qU,qe,eS]
theorem fS {σ:bu}(e:σ[0]?=Y (Y (.aa (w.b.length+1)))):mB (aw (d8 L) (ao aG (ag "end")) bJ) σ (SH w s mk)=Y (s.ab.isSome,SH w s mk):=by
 have:iA (cF s.ab)=s.ab.isNone:=mO;simp[e,this]
theorem iG {i:Nat}{σ:bu}{K K':MH}{k:Nat}{v:U}{T:ME}(a:p.2.length<1000)(d:σ[0]?=Y (Y (.aa (w.b.length+1))))(g:σ[1]?=Y (Y (aj p)))(j:σ[i]?=Y (Y (aV h)))(l:T σ K=Y (.ab (k:Nat),K))(e:f [.aa (w.b.length+1),aj (l_ p k),aV h] K=Y (v,K')) :
  ah 3 f (aa aG (aa (aw aI aR (av (aa T ae))) (aa (bZ i) ae))) σ K=Y (v,K'):=by
 refine bf (us:=[.aa (w.b.length+1),aj (l_ p k),aV h]) (h1:=K) ?_ rfl e;simp[d,g,j,l,mE a]
theorem Ab {q:h_ M}{e x:n_ M}:Yt s q e x=(match e with | .aE y=>s.ah (if nL x=L then .aa q y else .nO q y) | _=>s,Y (if nL x=L then e else x)):=by
 cases e<;>cases x<;>rfl
theorem Hg {g:MH}(e:Ev M)(a:s.af.length<1000000):aL (.aa (w.b.length+3)) [bO e] (SH w s mk++g)=Y (.aQ,SH w (s.ah e) mk++g):=by
 rw[cX ((W3 (by rw[il];lia)).trans Hy) (by simpa using a)];simp[SH,Bs.ah,oN]
theorem Ap (afh:sM w)(D:gB w n f){a b:aA M}(V:bc w.H p=Y (.af a b))(oa:Ok w.H h.isSome a)(ob:Ok w.H h.isSome b)(hh:∀ q,h=Y q->cD w.H q)(hs:s.ab=O)(iv:Iv w s mk (c+1))(hn:w.aa<n+s.aa)
  {r:Bs M×Option (n_ M)} (m:r=match c9 w.H w.cs w.aa n s (l_ p 0) a h with
   |(v,Y e)=>match c9 w.H w.cs w.aa n v (l_ p 1) b h with
    |(j,Y x)=>Yt j p e x
    |r=>r
   |r=>r) :
  ∃ mk',cq f [.aa (w.b.length+1),aj p,aV h] (SH w s mk)=Y (aN r.2,SH w r.1 mk')/\Po w s c r mk':=by
 have NP:=afh.pl ⟨_,V⟩;obtain⟨o,e1,I,_⟩:=D s (l_ p 0) a h mk (c+1) hs iv hn (c6 V) oa hh;generalize c9 w.H w.cs w.aa n s (l_ p 0) a h=r1 at e1 I m;obtain⟨v,Z⟩:=r1;have EJ:au (ah 3 f (aa aG (aa (aw aI aR (av (aa (aq 0) ae))) dQ))) (b' 3) [Y (.aa (w.b.length+1)),Y (aj p),Y (aV h),O,O] (SH w s mk)=Y (.nx [Y (.aa (w.b.length+1)),Y (aj p),Y (aV h),Y (aN Z),O],SH w v o):=
  aC (iG (k:=0) (T:=aq 0) ⋯ rfl rfl rfl rfl e1)
 have E {u:U} {s':Bs M} {mk':List (j_×U)} {g:MH} (hm:M4 mk') (l:ip 0 u) (e:eM f [Y (.aa (w.b.length+1)),Y (aj p),Y (aV h),O,O] (SH w s mk)=Y (.rt u,SH w s' mk'++g)):cq f [.aa (w.b.length+1),aj p,aV h] (SH w s mk)=Y (u,SH w s' mk'):=ES afh.dl hm l (bD e);have P:∀ x:n_ M,ip 0 (aH x):=λx=>by cases x<;>first | exact .aa | exact bP _
 rcases I.en with⟨z,Q,F⟩ | ⟨W,e,z,zo⟩
 .have z:Z=none:=z;have F:v.ab=Y (hf Q):=F;subst z;have m:r=(v,O):=m;subst m;refine⟨o,E (g:=[]) I.iv.bl .aQ ?_,I.iv.aa ⋯,I.le,.inl ⟨rfl,Q,F⟩⟩;rw[XF];unfold eM;rw[ab EJ];refine cM ?_;rw[aF (fS rfl),F];rfl
 .have z:Z=Y e:=z;have W:v.ab=none:=W;have VM:s.aa<=v.aa:=I.le;have Ve:Iv w v o (c+1):=I.iv;subst z;obtain⟨d,e2,A,_⟩:=D v (l_ p 1) b h o (c+1) W Ve ⋯ (c6 V) ob hh;have m:r=match c9 w.H w.cs w.aa n v (l_ p 1) b h with
    |(j,Y x)=>Yt j p e x
    |r=>r:=m
  generalize c9 w.H w.cs w.aa n v (l_ p 1) b h=r2 at e2 A m;obtain⟨j,x2⟩:=r2;have n1:az (mB (aw (d8 L) (ao aG (ag "end")) bJ)) (ax bJ) ai [Y (.aa (w.b.length+1)),Y (aj p),Y (aV h),Y (aH e),O] (SH w v o)=Y (.nx [Y (.aa (w.b.length+1)),Y (aj p),Y (aV h),Y (aH e),O],SH w v o):=by
   rw[aF (fS rfl),W];rfl
  have RU:au (ah 3 f (aa aG (aa (aw aI aR (av (aa (aq 1) ae))) dQ))) (b' 4) [Y (.aa (w.b.length+1)),Y (aj p),Y (aV h),Y (aH e),O] (SH w v o)=Y (.nx [Y (.aa (w.b.length+1)),Y (aj p),Y (aV h),Y (aH e),Y (aN x2)],SH w j d):=
   aC (iG (k:=1) (T:=aq 1) ⋯ rfl rfl rfl rfl e2)
  have N:s.aa<=j.aa:=Xi VM A.le;rcases A.en with⟨z,Q,F⟩ | ⟨B,x,z,WE⟩
  .have z:x2=none:=z;have F:j.ab=Y (hf Q):=F;subst z;have m:r=(j,O):=m;subst m;refine⟨d,E (g:=[]) A.iv.bl .aQ ?_,A.iv.aa ⋯,N,.inl ⟨rfl,Q,F⟩⟩;rw[XF];unfold eM;refine(ab EJ).trans ((ab n1).trans ((ab RU).trans (cM ?_)));rw[aF (fS rfl),F];rfl
  .have z:x2=Y x:=z;have B:j.ab=none:=B;have C:Iv w j d (c+1):=A.iv;subst z;have m:r=Yt j p e x:=m;rw[Ab]at m;have n2:az (mB (aw (d8 L) (ao aG (ag "end")) bJ)) (ax bJ) ai [Y (.aa (w.b.length+1)),Y (aj p),Y (aV h),Y (aH e),Y (aH x)] (SH w j d)=Y (.nx [Y (.aa (w.b.length+1)),Y (aj p),Y (aV h),Y (aH e),Y (aH x)],SH w j d):=by
    rw[aF (fS rfl),B];rfl
   have G {K:MH}:ax (zq (mB (aw (S.bh b_) c4 (ag "done"))) bC c4) [Y (.aa (w.b.length+1)),Y (aj p),Y (aV h),Y (aH e),Y (aH x)] K=Y (.rt (aH (if nL x=L then e else x)),K):=by
    cases q:nL x<;>simp[CV,q]
   have eo:jo w.H (Y (if nL x=L then e else x)):=by split<;>assumption
   have t (q:tT e=b_) (m:r=(j,Y (if nL x=L then e else x))):∃ mk',cq f [.aa (w.b.length+1),aj p,aV h] (SH w s mk)=Y (aN r.2,SH w r.1 mk')/\Po w s c r mk':=by
    subst m;refine⟨d,E (g:=[]) C.bl (P _) ?_,C.aa ⋯,N,.inr ⟨B,_,rfl,eo⟩⟩;rw[XF];unfold eM;refine(ab EJ).trans ((ab n1).trans ((ab RU).trans ((ab n2).trans ((ab (σ':=[Y (.aa (w.b.length+1)),Y (aj p),Y (aV h),Y (aH e),Y (aH x)]) (h':=SH w j d) (by rw[aF (gy rfl),q];rfl)).trans G))))
   cases e with
   |aa=>exact t rfl m
   |ab=>exact t rfl m
   |ae=>exact t rfl m
   |aE y=>
    subst m;have UL:BZ w.H (if nL x=L then .aa p y else .nO p y):=by split<;>exact⟨⟨_,V⟩,zo⟩
    refine⟨d,E (g:=[.aa [.ae "lost",.ae "kept"]]) C.bl (P _) ?_,C.af UL,N,.inr ⟨B,_,rfl,eo⟩⟩;unfold eM;refine(ab EJ).trans ((ab n1).trans ((ab RU).trans ((ab n2).trans ?_)));refine(ab (σ':=[Y (.aa (w.b.length+1)),Y (aj p),Y (aV h),Y (aH (.aE y)),Y (aH x)]) (h':=SH w (j.ah (if nL x=L then .aa p y else .nO p y)) d++[.aa [.ae "lost",.ae "kept"]]) ?_).trans G;rw[aF (gy rfl),show tT (.aE y:n_ M)=L from rfl,W0 rfl];refine cQ (u:=.aQ) ?_;show fy _ _ _ [Y (.aa (w.b.length+1)),Y (aj p),Y (aV h),Y (aj y),Y (aH x)] _=_;have X:=Hg (w:=w) (mk:=d) (g:=[.aa [.ae "lost",.ae "kept"]]) (if nL x=L then .aa p y else .nO p y) (C.ae afh);obtain⟨i1,i2⟩:=eH (i:=0) (us:=[.ae "lost",.ae "kept"]) (h:=SH w j d++[MO.aa [.ae "lost",.ae "kept"]]) cn;obtain⟨_,i3⟩:=eH (i:=1) (us:=[.ae "lost",.ae "kept"]) (h:=SH w j d++[MO.aa [.ae "lost",.ae "kept"]]) cn;cases q:nL x with
    |true=>
     rw[q]at X;have Qw:aL (.aa (w.b.length+3)) [.af [.ae "kept",aj p,aj y]] (SH w j d++[.aa [.ae "lost",.ae "kept"]])=_:=X;simp[CV,q,oT,i1,i3,Qw]
    |false=>
     rw[q]at X;have Qw:aL (.aa (w.b.length+3)) [.af [.ae "lost",aj p,aj y]] (SH w j d++[.aa [.ae "lost",.ae "kept"]])=_:=X;simp[CV,q,oT,i1,i2,Qw]
end D11
namespace RN
variable {S:Type}[DecidableEq S]{H:aK S}{cs:List Int}{most:Nat}
theorem y9 {st:St S}{e:Option (n_ S)}{n:Nat}(a:st.af=O)(b:st.aa≠[]):L' H cs most (n+1) st e=L' H cs most n (E' H cs most st e).1 (E' H cs most st e).2:=by
 show(if st.af.isSome=L\/st.aa=[] then _ else _)=_;rw[W5];rintro(z | z)
 .rw[a]at z;cases z
 .exact b z
theorem Ax {st:St S}{e:Option (n_ S)}{n:Nat}{f:WI S}(a:st.af=Y f):L' H cs most (n+1) st e=Y ⟨st.ah,f,st.ae⟩:=by
 show(if st.af.isSome=L\/st.aa=[] then _ else _)=_;rw[W0 (.inl (by rw[a];rfl))];unfold R_;rw[a]
section
variable {st:St S}{e:Option (n_ S)}{rest:List (q_ S)}{r:Bs S×Option (n_ S)}
theorem iq.go (d:st.af=O)(g:st.aa≠[])(q:iq H cs most (E' H cs most st e).1 (E' H cs most st e).2 rest r):iq H cs most st e rest r:=by
 rcases q with⟨f,k,a,b⟩ | ⟨x,k,a,b,c⟩
 .exact .inl ⟨f,k+1,a,λm=>(y9 d g).trans (b m)⟩
 .exact .inr ⟨x,k+1,a,b,λm=>(y9 d g).trans (c m)⟩
theorem iq.ae {f:WI S}(d:st.af=Y f)(a:r.1.ab=Y f)(b:r.1.af=st.ah)(c:r.1.aa=st.ae):iq H cs most st e rest r:=
 .inl ⟨f,1,a,λm=>by rw[Ax d,b,c]⟩
theorem iq.aa {x:n_ S}{s:Bs S}(a:s.ab=O):iq H cs most (s.st rest) (Y x) rest (s,Y x):=.inr ⟨x,0,a,rfl,λm=>rfl⟩
theorem iq.ab {fr:List (q_ S)}{d:Bs S×Option (n_ S)}(q:iq H cs most st e fr d)(h1:∀ f,d.1.ab=Y f->r.1.ab=Y f/\r.1.af=d.1.af/\r.1.aa=d.1.aa)
  (h2:∀ x,d.1.ab=O->d.2=Y x->iq H cs most (d.1.st fr) (Y x) rest r):iq H cs most st e rest r:=by
 rcases q with⟨f,k,a,b⟩ | ⟨x,k,a,b,c⟩
 .obtain⟨j,l,n⟩:=h1 f a;exact .inl ⟨f,k,j,λm=>by rw[b,l,n]⟩
 .rcases h2 x a b with⟨f,g,h,i⟩ | ⟨y,g,h,i,o⟩
  .exact .inl ⟨f,g+k,h,λm=>by rw[<-ZM,c,i]⟩
  .exact .inr ⟨y,g+k,h,i,λm=>by rw[<-ZM,c,o]⟩
end
def wA (H:aK S)(cs:List Int)(most:Nat)(s:Bs S)(p:h_ S)(d:aA S)(h:Option (h_ S))(r:Bs S×Option (n_ S)):Prop:=
 (∀ a,iq H cs most (J_ most (s.st a) p d h) O a r)/\(r.1.ab=O->s.aa<r.1.aa/\r.1.aa<=most)/\(r.2=O\/r.1.ab=O)
def Ji (H:aK S)(cs:List Int)(most n:Nat):Prop:=∀ (s:Bs S) (p:h_ S) (d:aA S) (h:Option (h_ S)),s.ab=O->s.aa<=most->most<n+s.aa->Ok H h.isSome d->wA H cs most s p d h (c9 H cs most n s p d h)
theorem gA {s:Bs S}{f:q_ S}{rest:List (q_ S)}{n:Nat}{d:aA S}{h:Option (h_ S)}(e:(w_ f.cz)[n]?=Y d):ay most (s.st (f::rest)) f rest n h=J_ most (s.st ({f with aa:=f.aa+1}::rest)) (l_ f.ab n) d h:=by
 unfold ay;rw[e];rfl
theorem wJ {s:Bs S}{p:h_ S}{d:aA S}{h:Option (h_ S)}{rest:List (q_ S)}(q:most<=s.aa):J_ most (s.st rest) p d h=({s with ab:=Y .aa}:Bs S).st rest:=W0 q
theorem B7 {s:Bs S}{p:h_ S}{d:aA S}{h:Option (h_ S)}{rest:List (q_ S)}(q:¬ most<=s.aa):J_ most (s.st rest) p d h=({s with aa:=s.aa+1}:Bs S).st (⟨p,d,h,0,O⟩::rest):=W5 q
theorem EG {n:Nat}(I:Ji H cs most n){p:h_ S}{g:List (aA S)}{h:Option (h_ S)}(K:∀ d∈g,Ok H h.isSome d):∀ (c k:Nat) (s:Bs S) (e:Option (n_ S)),k+c=g.length->s.ab=O->s.aa<=most->most<n+s.aa->(e=O\/e=Y .aa)->
  (∀ rest,iq H cs most (s.st (⟨p,.ah g,h,k,O⟩::rest)) e rest (iE (λs k=>match g[k]? with | some x=>c9 H cs most n s (l_ p k) x h | none=>(s,O)) c k s))/\
  ((iE (λs k=>match g[k]? with | some x=>c9 H cs most n s (l_ p k) x h | none=>(s,O)) c k s).1.ab=O->s.aa<=(iE (λs k=>match g[k]? with | some x=>c9 H cs most n s (l_ p k) x h | none=>(s,O)) c k s).1.aa/\(iE (λs k=>match g[k]? with | some x=>c9 H cs most n s (l_ p k) x h | none=>(s,O)) c k s).1.aa<=most)/\((iE (λs k=>match g[k]? with | some x=>c9 H cs most n s (l_ p k) x h | none=>(s,O)) c k s).2=O\/(iE (λs k=>match g[k]? with | some x=>c9 H cs most n s (l_ p k) x h | none=>(s,O)) c k s).1.ab=O)
 |0,k,s,e,T,o,C,N,E=>by
  refine⟨λrest=>iq.go o (XH _ _) ?_,λ_=>⟨WY _,C⟩,.inr o⟩;have:E' H cs most (s.st (⟨p,.ah g,h,k,O⟩::rest)) e=(s.st rest,Y .aa):=by
   have t:(k=g.length):=by lia
   rcases E with rfl | rfl
   .show(match bb H cs most _ _ rest O with | (b,O)=>(b,O) | (b,Y x)=>({b with aa:=rest},Y x))=_;unfold bb;dsimp only;rw[W0 t];rfl
   .show(match bb H cs most _ _ rest (Y .aa) with | (b,O)=>(b,O) | (b,Y x)=>({b with aa:=rest},Y x))=_;unfold bb;dsimp only;rw[W0 t];rfl
  rw[this];exact iq.aa o
 |c+1,k,s,e,T,o,C,N,E=>by
  have u:k<g.length:=by lia
  have P:g[k]?=Y g[k]:=W6 u;have D:=I s (l_ p k) g[k] h o C N (K _ (XY u));have v:∀ rest,E' H cs most (s.st (⟨p,.ah g,h,k,O⟩::rest)) e=(J_ most (s.st (⟨p,.ah g,h,k+1,O⟩::rest)) (l_ p k) g[k] h,O):=λrest=>by
   have t:¬ k=g.length:=by lia
   have Q:=gA (most:=most) (s:=s) (f:=⟨p,.ah g,h,k,O⟩) (rest:=rest) (n:=k) (d:=g[k]) (h:=h) P;rcases E with rfl | rfl
   .show(match bb H cs most _ _ rest O with | (b,O)=>(b,O) | (b,Y x)=>({b with aa:=rest},Y x))=_;unfold bb;dsimp only;rw[W5 t];dsimp only;rw[Q]
   .show(match bb H cs most _ _ rest (Y .aa) with | (b,O)=>(b,O) | (b,Y x)=>({b with aa:=rest},Y x))=_;unfold bb;dsimp only;rw[W5 t];dsimp only;rw[Q]
  unfold iE;rw[P];dsimp only;generalize c9 H cs most n s (l_ p k) g[k] h=r at D;obtain⟨i,x⟩:=r;obtain⟨l,j,m⟩:=D;have a:(∀ z:n_ S,x=Y z->z≠.aa)->(∀ rest,iq H cs most (s.st (⟨p,.ah g,h,k,O⟩::rest)) e rest (i,x))/\(i.ab=O->s.aa<=i.aa/\i.aa<=most)/\(x=O\/i.ab=O):=λU=>by
   refine⟨λrest=>iq.go o (XH _ _) ?_,λz=>⟨Yn (j z).1,(j z).2⟩,m⟩;rw[v];refine(l _).ab (λf z=>⟨z,rfl,rfl⟩) λy F w=>?_
   have w:x=Y y:=w;subst w;refine iq.go F (XH _ _) ?_;have V:=U y rfl;have:E' H cs most (i.st (⟨p,.ah g,h,k+1,O⟩::rest)) (Y y)=(i.st rest,Y y):=by
    cases y with
    |aa=>exact absurd rfl V
    |_=>rfl
   rw[this];exact iq.aa F
  match x,l,j,m,a with
  |none,l,j,m,a=>exact a λz hz=>nomatch hz
  |some .ab,l,j,m,a=>exact a λz hz=>by cases hz;exact λq=>nomatch q
  |some .ae,l,j,m,a=>exact a λz hz=>by cases hz;exact λq=>nomatch q
  |some (.aE q),l,j,m,a=>exact a λz hz=>by cases hz;exact λq=>nomatch q
  |some .aa,l,j,m,_=>
   cases A:i.ab with
   |some f=>
    rcases m with z | z
    .cases z
    .rw[A]at z;cases z
   |none=>
    obtain⟨G,W⟩:=j A;have G:s.aa<i.aa:=G;have B:=EG (p:=p) I K c (k+1) i (Y .aa) ⋯ A W ⋯ (.inr rfl);refine⟨λrest=>iq.go o (XH _ _) ?_,λz=>⟨Xi (Yn G) (B.2.1 z).1,(B.2.1 z).2⟩,B.2.2⟩;rw[v];refine(l _).ab (λf z=>by rw[A]at z;cases z) λy F w=>?_
    cases w;exact B.1 rest
theorem uI {n:Nat}(Q:Ji H cs most n){p:h_ S}{x:aA S}{h:Option (h_ S)}(T:Ok H h.isSome x):∀ (c:Nat) (s:Bs S) (b:Nat) (e:Option (n_ S)),s.ab=O->s.aa<=most->most<n+s.aa->most<c+s.aa->(e=O\/e=Y .aa)->
  (∀ rest,iq H cs most (s.st (⟨p,.ab x,h,b,O⟩::rest)) e rest (sV (λs=>c9 H cs most n s (l_ p 0) x h) cs c s))/\
  ((sV (λs=>c9 H cs most n s (l_ p 0) x h) cs c s).1.ab=O->s.aa<=(sV (λs=>c9 H cs most n s (l_ p 0) x h) cs c s).1.aa/\(sV (λs=>c9 H cs most n s (l_ p 0) x h) cs c s).1.aa<=most)/\
  ((sV (λs=>c9 H cs most n s (l_ p 0) x h) cs c s).2=O\/(sV (λs=>c9 H cs most n s (l_ p 0) x h) cs c s).1.ab=O)
 |0,s,b,e,l,E,U,X,B=>by lia
 |c+1,s,b,e,l,E,U,X,B=>by
  unfold sV;cases V:cs[s.ae]? with
  |none=>
   dsimp only;refine⟨λrest=>iq.go l (XH _ _) ?_,(λz=>nomatch z),.inl rfl⟩;have:E' H cs most (s.st (⟨p,.ab x,h,b,O⟩::rest)) e=(({s with ab:=Y .cC}:Bs S).st (⟨p,.ab x,h,b,O⟩::rest),O):=by
    have o:F_ cs (s.st (⟨p,.ab x,h,b,O⟩::rest))=(({s with ab:=Y .cC}:Bs S).st (⟨p,.ab x,h,b,O⟩::rest),O):=by
     unfold F_;rw[show(s.st (⟨p,.ab x,h,b,O⟩::rest)).ab=s.ae from rfl,V];rfl
    rcases B with rfl | rfl
    .show(match bb H cs most _ _ rest O with | (g,O)=>(g,O) | (g,Y x)=>({g with aa:=rest},Y x))=_;unfold bb;dsimp only;rw[o]
    .show(match bb H cs most _ _ rest (Y .aa) with | (g,O)=>(g,O) | (g,Y x)=>({g with aa:=rest},Y x))=_;unfold bb;dsimp only;rw[o]
   rw[this];exact iq.ae rfl rfl rfl rfl
  |some a=>
   dsimp only;have o:∀ rest,F_ cs (s.st (⟨p,.ab x,h,b,O⟩::rest))=(({s with ae:=s.ae+1}:Bs S).st (⟨p,.ab x,h,b,O⟩::rest),Y a):=λrest=>by
    unfold F_;rw[show(s.st (⟨p,.ab x,h,b,O⟩::rest)).ab=s.ae from rfl,V];rfl
   by_cases t:a%2=0
   .rw[W0 t];refine⟨λrest=>iq.go l (XH _ _) ?_,λ_=>⟨WY _,E⟩,.inr l⟩;have:E' H cs most (s.st (⟨p,.ab x,h,b,O⟩::rest)) e=(({s with ae:=s.ae+1}:Bs S).st rest,Y .aa):=by
     rcases B with rfl | rfl
     .show(match bb H cs most _ _ rest O with | (g,O)=>(g,O) | (g,Y x)=>({g with aa:=rest},Y x))=_;unfold bb;dsimp only;rw[o];dsimp only;rw[W0 t];rfl
     .show(match bb H cs most _ _ rest (Y .aa) with | (g,O)=>(g,O) | (g,Y x)=>({g with aa:=rest},Y x))=_;unfold bb;dsimp only;rw[o];dsimp only;rw[W0 t];rfl
    rw[this];exact iq.aa l
   .rw[W5 t];have D:=Q {s with ae:=s.ae+1} (l_ p 0) x h l E U T;have u:∀ rest,E' H cs most (s.st (⟨p,.ab x,h,b,O⟩::rest)) e=(J_ most (({s with ae:=s.ae+1}:Bs S).st (⟨p,.ab x,h,b+1,O⟩::rest)) (l_ p 0) x h,O):=λrest=>by
     have W:=gA (most:=most) (s:={s with ae:=s.ae+1}) (f:=⟨p,.ab x,h,b,O⟩) (rest:=rest) (n:=0) (d:=x) (h:=h) rfl;rcases B with rfl | rfl
     .show(match bb H cs most _ _ rest O with | (g,O)=>(g,O) | (g,Y x)=>({g with aa:=rest},Y x))=_;unfold bb;dsimp only;rw[o];dsimp only;rw[W5 t];dsimp only;rw[W]
     .show(match bb H cs most _ _ rest (Y .aa) with | (g,O)=>(g,O) | (g,Y x)=>({g with aa:=rest},Y x))=_;unfold bb;dsimp only;rw[o];dsimp only;rw[W5 t];dsimp only;rw[W]
    generalize c9 H cs most n {s with ae:=s.ae+1} (l_ p 0) x h=r at D;obtain⟨j,y⟩:=r;obtain⟨m,v,k⟩:=D;have v:j.ab=O->s.aa<j.aa/\j.aa<=most:=v;have k:y=O\/j.ab=none:=k;have i:∀ A:Option (n_ S),(∀ z:n_ S,y=Y z->∃ F,A=Y F/\∀ rest,E' H cs most (j.st (⟨p,.ab x,h,b+1,O⟩::rest)) (Y z)=(j.st rest,Y F))->(y=O->A=O)->(∀ rest,iq H cs most (s.st (⟨p,.ab x,h,b,O⟩::rest)) e rest (j,A))/\(j.ab=O->s.aa<=j.aa/\j.aa<=most)/\(A=O\/j.ab=O):=λA Z G=>by
     refine⟨λrest=>iq.go l (XH _ _) ?_,λz=>⟨Yn (v z).1,(v z).2⟩,k.imp G id⟩;rw[u];refine(m _).ab (λf z=>⟨z,rfl,rfl⟩) λw I K=>?_
     obtain⟨F,q1,q2⟩:=Z w K;refine iq.go I (XH _ _) ?_;rw[q2,q1];exact iq.aa I
    match y,m,k,i with
    |none,m,k,i=>exact i O (λz hz=>nomatch hz) λ_=>rfl
    |some .ab,m,k,i=>exact i _ (λz hz=>by cases hz;exact⟨_,rfl,λ_=>rfl⟩) λq=>nomatch q
    |some .ae,m,k,i=>exact i (Y .aa) (λz hz=>by cases hz;exact⟨_,rfl,λ_=>rfl⟩) λq=>nomatch q
    |some (.aE w),m,k,i=>exact i _ (λz hz=>by cases hz;exact⟨_,rfl,λ_=>rfl⟩) λq=>nomatch q
    |some .aa,m,k,_=>
     have N:j.ab=none:=k.resolve_left λq=>nomatch q
     obtain⟨P,d2⟩:=v N;have P:s.aa<j.aa:=P;have C:=uI (p:=p) Q T c j (b+1) (Y .aa) N d2 ⋯ ⋯ (.inr rfl);refine⟨λrest=>iq.go l (XH _ _) ?_,λz=>⟨Xi (Yn P) (C.2.1 z).1,(C.2.1 z).2⟩,C.2.2⟩;rw[u];refine(m _).ab (λf z=>by have z:j.ab=Y f:=z;rw[N]at z;cases z) λw I K=>?_
     cases K;exact C.1 rest
theorem iz {c s:Bs S}{f f':q_ S}{e:Option (n_ S)}{p:h_ S}{d:aA S}{h:Option (h_ S)}{r r':Bs S×Option (n_ S)}(i:c.ab=O)(D:wA H cs most s p d h r)
  (st:∀ rest,E' H cs most (c.st (f::rest)) e=(J_ most (s.st (f'::rest)) p d h,O)) (j:r.1.ab≠O->r'=r)
  (h1:∀ x,r.1.ab=O->r.2=Y x->∀ rest,iq H cs most (r.1.st (f'::rest)) (Y x) rest r'):∀ rest,iq H cs most (c.st (f::rest)) e rest r':=λrest=>by
 refine iq.go i (XH _ _) ?_;rw[st];refine(D.1 _).ab (λg z=>?_) λx a b=>h1 x a b rest
 rw[j (by rw[z];exact λq=>nomatch q)];exact⟨z,rfl,rfl⟩
theorem qB {s:Bs S}{f:q_ S}{x y:n_ S}{s':Bs S}(b:s.ab=O)(a:s'.ab=O)(st:∀ rest,E' H cs most (s.st (f::rest)) (Y x)=(s'.st rest,Y y)):∀ rest,iq H cs most (s.st (f::rest)) (Y x) rest (s',Y y):=λrest=>by
 refine iq.go b (XH _ _) ?_;rw[st];exact iq.aa a
theorem hQ {s:Bs S}{f:q_ S}{rest:List (q_ S)}{e:Option (n_ S)}{t:St S}(g:bb H cs most (s.st (f::rest)) f rest e=(t,O)):E' H cs most (s.st (f::rest)) e=(t,O):=by
 unfold E';rw[show(s.st (f::rest)).aa=f::rest from rfl];dsimp only;rw[g]
theorem sF {s:Bs S}{f:q_ S}{fr rest:List (q_ S)}{n:Nat}{d:aA S}{h:Option (h_ S)}(e:(w_ f.cz)[n]?=Y d):ay most (s.st fr) f rest n h=J_ most (s.st ({f with aa:=f.aa+1}::rest)) (l_ f.ab n) d h:=by
 unfold ay;rw[e];rfl
theorem Aa {s:Bs S}{p:h_ S}{e x:n_ S}(b:s.ab=O):∃ a y,Yt s p e x=(a,Y y)/\a.ab=O/\a.aa=s.aa:=by
 cases e<;>cases x<;>exact⟨_,_,rfl,b,rfl⟩
theorem uO {s:Bs S}{p:h_ S}{a b:aA S}{h:Option (h_ S)}{e x:n_ S}{rest:List (q_ S)}:E' H cs most (s.st (⟨p,.af a b,h,2,Y e⟩::rest)) (Y x)=((Yt s p e x).1.st rest,(Yt s p e x).2):=by
 cases e<;>cases x<;>rfl
theorem Ny (ho:f9 H):∀ n,Ji H cs most n
 |0=>λs p d h hs hm hn W=>by lia
 |n+1=>λs p d h hs hm hn W=>by
  have Z:=Ny ho n;by_cases q:most<=s.aa
  .rw[show c9 H cs most (n+1) s p d h=_ from W0 q];exact⟨λrest=>by rw[wJ q];exact iq.ae rfl rfl rfl rfl,(λz=>nomatch z),.inl rfl⟩
  rw[show c9 H cs most (n+1) s p d h=_ from W5 q];have I:∀ r:Bs S×Option (n_ S),(∀ rest,iq H cs most (({s with aa:=s.aa+1}:Bs S).st (⟨p,d,h,0,O⟩::rest)) O rest r)->(r.1.ab=O->s.aa+1<=r.1.aa/\r.1.aa<=most)->(r.2=O\/r.1.ab=O)->wA H cs most s p d h r:=λr a b c=>
   ⟨λrest=>by rw[B7 q];exact a rest,b,c⟩
  have l:∀ (A:Bs S) (x:n_ S),A.ab=O->A.aa=s.aa+1->(∀ rest,E' H cs most (({s with aa:=s.aa+1}:Bs S).st (⟨p,d,h,0,O⟩::rest)) O=(A.st rest,Y x))->wA H cs most s p d h (A,Y x):=λA x a b c=>
   I _ (λrest=>iq.go hs (XH _ _) (by rw[c];exact iq.aa a)) (λ_=>⟨aby b.symm,by show A.aa<=most;lia⟩) (.inr a)
  have g:({s with aa:=s.aa+1}:Bs S).ab=none:=hs;generalize hS:({s with aa:=s.aa+1}:Bs S)=i at *;have U:i.aa=s.aa+1:=by rw[<-hS]
  have F:i.aa<=most:=by lia
  have G:most<n+i.aa:=by lia
  cases d with
  |aq w=>exact l _ _ g U λrest=>rfl
  |aE k=>exact l _ _ g U λrest=>rfl
  |aj=>
   have t:=W.mU;cases h with
   |none=>cases t
   |some w=>exact l _ _ g U λrest=>rfl
  |ai=>exact l _ _ g U λrest=>rfl
  |ak=>exact l _ _ g U λrest=>rfl
  |on m=>exact l _ _ g U λrest=>rfl
  |ao m=>exact l _ _ g U λrest=>rfl
  |ah B=>
   obtain⟨a,b,c⟩:=EG (p:=p) Z W.ui B.length 0 i O ⋯ g F G (.inl rfl);exact I _ a (λz=>by rw[<-U];exact b z) c
  |ab x=>
   obtain⟨a,b,c⟩:=uI (p:=p) Z W.nz (n+1) i 0 O g F G ⋯ (.inl rfl);exact I _ a (λz=>by rw[<-U];exact b z) c
  |fz m a b=>
   have one:∀ k x,(w_ (.fz m a b))[k]?=Y x->Ok H h.isSome x->(if m∈i.ag then 0 else 1)=k->wA H cs most s p (.fz m a b) h (c9 H cs most n i (l_ p k) x h):=λk x e ox ek=>by
    have D:=Z i (l_ p k) x h g F G ox;refine I _ (iz (f':=⟨p,.fz m a b,h,1,O⟩) g D (λrest=>?_) (λ_=>rfl) λy K V=>?_) (λz=>⟨by rw[<-U];exact Yn (D.2.1 z).1,(D.2.1 z).2⟩) D.2.2
    .have e2:=gA (most:=most) (s:=i) (f:=⟨p,.fz m a b,h,0,O⟩) (rest:=rest) (n:=k) (d:=x) (h:=h) e;refine hQ ?_;unfold bb;dsimp only;rw[show(i.st (⟨p,.fz m a b,h,0,O⟩::rest)).ag=i.ag from rfl,ek,e2]
    .generalize c9 H cs most n i (l_ p k) x h=r at K V;obtain⟨A,w⟩:=r;cases V;exact qB K K λrest=>rfl
   by_cases t:m∈i.ag
   .delta eZ;dsimp only;rw[W0 t];exact one 0 a rfl W.j5.1 (W0 t)
   .delta eZ;dsimp only;rw[W5 t];exact one 1 b rfl W.j5.2 (W5 t)
  |ag B=>
   obtain⟨hl,od⟩:=W.mV
   delta eZ;dsimp only
   have cc:∀ rest,F_ cs (i.st (⟨p,.ag B,h,0,O⟩::rest))=(match cs[i.ae]? with | some c=>(({i with ae:=i.ae+1}:Bs S).st (⟨p,.ag B,h,0,O⟩::rest),Y c) | none=>(({i with ab:=Y .cC}:Bs S).st (⟨p,.ag B,h,0,O⟩::rest),O)):=λrest=>by
    unfold F_;rw[show(i.st (⟨p,.ag B,h,0,O⟩::rest)).ab=i.ae from rfl];cases cs[i.ae]?<;>rfl
   cases ec:cs[i.ae]? with
   |none=>
    refine I _ (λrest=>iq.go g (XH _ _) ?_) (λz=>nomatch z) (.inl rfl);rw[ec]at cc;rw[hQ (t:=({i with ab:=Y .cC}:Bs S).st (⟨p,.ag B,h,0,O⟩::rest)) (by unfold bb;dsimp only;rw[cc])];exact iq.ae rfl rfl rfl rfl
   |some c=>
    rw[ec]at cc;have pos:(0:Int)<B.length:=by lia
    have hk:(c%(B.length:Int)).toNat<B.length:=by
     have:=ZI c (show(B.length:Int)≠0 by lia);have:=ZH c pos;lia
    have ek:B[(c%(B.length:Int)).toNat]?=Y B[(c%(B.length:Int)).toNat]:=W6 hk;dsimp only;rw[ek];dsimp only;have D:=Z {i with ae:=i.ae+1} (l_ p (c%(B.length:Int)).toNat) B[(c%(B.length:Int)).toNat] h g F G (od _ (XY hk));refine I _ (iz (f':=⟨p,.ag B,h,1,O⟩) g D (λrest=>hQ ?_) (λ_=>rfl) λy K V=>?_) (λz=>⟨by rw[<-U];exact Yn (D.2.1 z).1,(D.2.1 z).2⟩) D.2.2
    .have e2:=gA (most:=most) (s:={i with ae:=i.ae+1}) (f:=⟨p,.ag B,h,0,O⟩) (rest:=rest) (h:=h) ek;unfold bb;dsimp only;rw[cc];dsimp only;rw[e2]
    .generalize c9 H cs most n _ _ _ h=r at K V;obtain⟨A,w⟩:=r;cases V;exact qB K K λrest=>rfl
  |ae r=>
   obtain⟨x,ex⟩:=W.my
   delta eZ;dsimp only
   rw[ex];dsimp only;have D:=Z i (r,[]) x O g F G (ho.ok r x ex);generalize c9 H cs most n i (r,[]) x O=r0 at D;obtain⟨A,w⟩:=r0;have N:w=O\/A.ab=none:=D.2.2;have P:A.ab=O->i.aa<A.aa/\A.aa<=most:=D.2.1;have X:∀ rest,E' H cs most (i.st (⟨p,.ae r,h,0,O⟩::rest)) O=(J_ most (i.st (⟨p,.ae r,h,0,O⟩::rest)) (r,[]) x O,O):=λrest=>hQ (by
    unfold bb;dsimp only;unfold bY;rw[ex])
   have o:∀ r':Bs S×Option (n_ S),(A.ab≠O->r'=(A,w))->(∀ y,A.ab=O->w=Y y->∃ Q y',r'=(Q,Y y')/\Q.ab=O/\Q.aa=A.aa/\∀ rest,E' H cs most (A.st (⟨p,.ae r,h,0,O⟩::rest)) (Y y)=(Q.st rest,Y y'))->(w=O->r'=(A,w))->wA H cs most s p (.ae r) h r':=λr' a b c=>by
    refine I _ (iz (f':=⟨p,.ae r,h,0,O⟩) g D X a λy K V=>?_) (λz=>?_) ?_
    .obtain⟨Q,y',e1,e2,_,e3⟩:=b y K V;rw[e1];exact qB K e2 e3
    .cases w with
     |none=>rw[c rfl]at z ⊢;exact⟨by have:=(P z).1;show s.aa+1<=A.aa;lia,(P z).2⟩
     |some y=>
      have z':=N.resolve_left λq=>nomatch q
      obtain⟨Q,y',e1,e2,e3,_⟩:=b y z' rfl;rw[e1];have:=P z';exact⟨by show s.aa+1<=Q.aa;lia,by show Q.aa<=most;lia⟩
    .cases w with
     |none=>rw[c rfl];exact .inl rfl
     |some y=>
      obtain⟨Q,y',e1,e2,e3,_⟩:=b y (N.resolve_left λq=>nomatch q) rfl;rw[e1];exact .inr e2
   have nh:∀ {y:n_ S},w=Y y->¬ A.ab≠none:=λe z=>by
    rcases N with q | q
    .rw[e]at q;cases q
    .exact z q
   match w,N,o,@nh with
   |none,_,o,_=>exact o _ (λ_=>rfl) (λy _ e=>nomatch e) (λ_=>rfl)
   |some (.aE z),_,o,nh=>exact o _ (λa=>(nh rfl a).elim) (λy a e=>by cases e;exact⟨_,_,rfl,a,rfl,λ_=>rfl⟩) (λe=>nomatch e)
   |some .aa,_,o,nh=>exact o _ (λa=>(nh rfl a).elim) (λy a e=>by cases e;exact⟨_,_,rfl,a,rfl,λ_=>rfl⟩) (λe=>nomatch e)
   |some .ab,_,o,nh=>exact o _ (λa=>(nh rfl a).elim) (λy a e=>by cases e;exact⟨_,_,rfl,a,rfl,λ_=>rfl⟩) (λe=>nomatch e)
   |some .ae,_,o,nh=>exact o _ (λa=>(nh rfl a).elim) (λy a e=>by cases e;exact⟨_,_,rfl,a,rfl,λ_=>rfl⟩) (λe=>nomatch e)
  |af a b=>
   obtain⟨oa,ob⟩:=W.kd
   delta eZ;dsimp only
   have D:=Z i (l_ p 0) a h g F G oa;generalize c9 H cs most n i (l_ p 0) a h=r0 at D;obtain⟨j,w⟩:=r0;have N:w=O\/j.ab=none:=D.2.2;have P:j.ab=O->i.aa<j.aa/\j.aa<=most:=D.2.1;have X:∀ rest,E' H cs most (i.st (⟨p,.af a b,h,0,O⟩::rest)) O=(J_ most (i.st (⟨p,.af a b,h,1,O⟩::rest)) (l_ p 0) a h,O):=λrest=>hQ (by
    unfold bb;dsimp only;rw[W0 ∅];exact congrArg (·,O) (gA (s:=i) (f:=⟨p,.af a b,h,0,O⟩) rfl))
   cases w with
   |none=>exact I _ (iz (f':=⟨p,.af a b,h,1,O⟩) g D X (λ_=>rfl) λy _ e=>nomatch e) (λz=>⟨by have:=(P z).1;show s.aa+1<=j.aa;lia,(P z).2⟩) (.inl rfl)
   |some e=>
    have C:j.ab=none:=N.resolve_left λq=>nomatch q
    obtain⟨d1,d2⟩:=P C;dsimp only;have E:=Z j (l_ p 1) b h C d2 ⋯ ob;generalize c9 H cs most n j (l_ p 1) b h=r1 at E;obtain⟨T,w⟩:=r1;have E3:w=O\/T.ab=none:=E.2.2;have E2:T.ab=O->j.aa<T.aa/\T.aa<=most:=E.2.1;have M0:∀ rest,E' H cs most (j.st (⟨p,.af a b,h,1,O⟩::rest)) (Y e)=(J_ most (j.st (⟨p,.af a b,h,2,Y e⟩::rest)) (l_ p 1) b h,O):=λrest=>hQ (by
     unfold bb;dsimp only;rw[W0 ∅];exact congrArg (·,O) (sF (s:=j) (f:=⟨p,.af a b,h,1,Y e⟩) rfl))
    have nA:∀ {r':Bs S×Option (n_ S)},(j,Y e).1.ab≠O->r'=(j,Y e):=λq=>(q C).elim
    cases w with
    |none=>
     refine I _ (iz (f':=⟨p,.af a b,h,1,O⟩) g D X nA λy _ q=>?_) (λz=>⟨by have:=(E2 z).1;show s.aa+1<=T.aa;lia,(E2 z).2⟩) (.inl rfl);cases q;exact iz (f':=⟨p,.af a b,h,2,Y e⟩) C E M0 (λ_=>rfl) λy _ e=>nomatch e
    |some x=>
     have hB:T.ab=none:=E3.resolve_left λq=>nomatch q
     obtain⟨e1,e2⟩:=E2 hB;obtain⟨Q,y',b1,b2,b3⟩:=Aa (p:=p) (e:=e) (x:=x) hB;dsimp only;refine I _ (iz (f':=⟨p,.af a b,h,1,O⟩) g D X nA λy _ q=>?_) (λz=>?_) (.inr (by rw[b1];exact b2))
     .cases q;refine iz (f':=⟨p,.af a b,h,2,Y e⟩) C E M0 (λq=>(q hB).elim) λy _ q=>?_
      cases q;rw[b1];refine qB hB b2 λrest=>?_
      rw[uO,b1]
     .rw[b1];exact⟨by show s.aa+1<=Q.aa;lia,by show Q.aa<=most;lia⟩
  |aa a u=>
   obtain⟨oa,ot⟩:=W.kb
   delta eZ;dsimp only
   have D:=Z i (l_ p 0) a h g F G oa;generalize c9 H cs most n i (l_ p 0) a h=r0 at D;obtain⟨j,w⟩:=r0;have N:w=O\/j.ab=none:=D.2.2;have P:j.ab=O->i.aa<j.aa/\j.aa<=most:=D.2.1;have X:∀ rest,E' H cs most (i.st (⟨p,.aa a u,h,0,O⟩::rest)) O=(J_ most (i.st (⟨p,.aa a u,h,1,O⟩::rest)) (l_ p 0) a h,O):=λrest=>hQ (by
    unfold bb;dsimp only;exact congrArg (·,O) (gA (s:=i) (f:=⟨p,.aa a u,h,0,O⟩) rfl))
   have v:∀ e:n_ S,w=Y e->(∀ q,e≠.aE q)->wA H cs most s p (.aa a u) h (j,w):=λe he hq=>by
    subst he;have C:j.ab=none:=N.resolve_left λq=>nomatch q
    obtain⟨d1,d2⟩:=P C;refine I _ (iz (f':=⟨p,.aa a u,h,1,O⟩) g D X (λ_=>rfl) λy _ q=>?_) (λz=>⟨by show s.aa+1<=j.aa;lia,d2⟩) (.inr C);cases q;refine qB C C λrest=>?_
    cases e with
    |aE q=>exact absurd rfl (hq q)
    |_=>rfl
   match w,D,N,v with
   |none,D,N,_=>exact I _ (iz (f':=⟨p,.aa a u,h,1,O⟩) g D X (λ_=>rfl) λy _ e=>nomatch e) (λz=>⟨by have:=(P z).1;show s.aa+1<=j.aa;lia,(P z).2⟩) (.inl rfl)
   |some .aa,_,_,v=>exact v _ rfl λq z=>nomatch z
   |some .ab,_,_,v=>exact v _ rfl λq z=>nomatch z
   |some .ae,_,_,v=>exact v _ rfl λq z=>nomatch z
   |some (.aE q),D,N,_=>
    have C:j.ab=none:=N.resolve_left λq=>nomatch q
    obtain⟨d1,d2⟩:=P C;have nA:∀ {r':Bs S×Option (n_ S)},(j,Y (n_.aE q)).1.ab≠O->r'=(j,Y (.aE q)):=λz=>(z C).elim
    dsimp only;cases ef:aT H u q with
    |none=>
     dsimp only;refine I _ (iz (f':=⟨p,.aa a u,h,1,O⟩) g D X nA λy _ z=>?_) (λz=>⟨by show s.aa+1<=j.aa;lia,d2⟩) (.inr C);cases z;refine qB C C λrest=>?_
     unfold E' bb;dsimp only[Bs.st];rw[W5 ∅,ef];rfl
    |some k=>
     have hk:k<u.length:=mG ef;have ek:u[k]?=Y u[k]:=W6 hk;dsimp only;rw[ek];dsimp only;have E:=Z (j.ah (.take p k q)) (l_ p (1+k)) u[k].2 (Y q) C d2 (by show most<n+j.aa;lia) (ot _ (XY hk));generalize c9 H cs most n (j.ah (.take p k q)) (l_ p (1+k)) u[k].2 (Y q)=r1 at E;obtain⟨T,w⟩:=r1;have E3:w=O\/T.ab=none:=E.2.2;have E2:T.ab=O->j.aa<T.aa/\T.aa<=most:=E.2.1;have M0:∀ rest,E' H cs most (j.st (⟨p,.aa a u,h,1,O⟩::rest)) (Y (.aE q))=(J_ most ((j.ah (.take p k q)).st (⟨p,.aa a u,h,2,O⟩::rest)) (l_ p (1+k)) u[k].2 (Y q),O):=λrest=>hQ (by
      have ei:(w_ (.aa a u))[1+k]?=Y u[k].2:=by
       show(a::u.map (·.2))[1+k]?=_;rw[Yz,Xg,Xd,ek];rfl
      unfold bb;dsimp only;rw[W5 ∅,ef];exact congrArg (·,O) (sF (s:=j.ah (.take p k q)) (f:=⟨p,.aa a u,h,1,O⟩) (fr:=⟨p,.aa a u,h,1,O⟩::rest) ei))
     refine I _ (iz (f':=⟨p,.aa a u,h,1,O⟩) g D X nA λy _ z=>?_) (λz=>⟨by have:=(E2 z).1;show s.aa+1<=T.aa;lia,(E2 z).2⟩) E3;cases z;refine iz (f':=⟨p,.aa a u,h,2,O⟩) C E M0 (λ_=>rfl) λy K V=>?_
     have V:w=Y y:=V;subst V;refine qB K K λrest=>?_
     cases y<;>rfl
end RN
namespace D11
open PySem L2 S RN
variable [kf:KF][c0:Cw]
variable {w:Lm}{n:Nat}{f:MF}{s:Bs M}{mk:List (j_×U)}{c:Nat}{p:h_ M}{h:Option (h_ M)}
abbrev qz:MF:=jT dW
noncomputable def O6:U->Bool
 |.af _=>L
 |_=>b_
theorem lh {σ:bu}{a:MA}{e:Ev M}{v:U}(d:σ[0]?=Y (Y (.aa (w.b.length+1))))(g:s.af.length<1000000)(i:v=bO e)(j:a σ (SH w s mk)=Y ([v],SH w s mk)):aO (fy aL (ao aG (ag "trail")) a) σ (SH w s mk)=Y (.nx σ,SH w (s.ah e) mk):=by
 subst i;refine cQ (u:=.aQ) ?_;simp[d,j,Ep e g]
theorem Ao (afh:sM w)(D:gB w n f){a:aA M}{ts:List (M×aA M)}(C:bc w.H p=Y (.aa a ts))(Z:Ok w.H h.isSome a)(ot:∀ x∈ts,Ok w.H L x.2)(hh:∀ q,h=Y q->cD w.H q)(hs:s.ab=O)(iv:Iv w s mk (c+1))(hn:w.aa<n+s.aa)
  {r:Bs M×Option (n_ M)} (j:r=match c9 w.H w.cs w.aa n s (l_ p 0) a h with
   |(i,Y (.aE q))=>match aT w.H ts q with
    |none=>(i.ah (.by p q),Y (.aE q))
    |some k=>match ts[k]? with
     |some x=>c9 w.H w.cs w.aa n (i.ah (.take p k q)) (l_ p (1+k)) x.2 (Y q)
     |none=>(i,O)
   |r=>r) :
  ∃ mk',cp f qz [.aa (w.b.length+1),aj p,a_ (.aa a ts),aV h] (SH w s mk)=Y (aN r.2,SH w r.1 mk')/\Po w s c r mk':=by
 have NP:=afh.pl ⟨_,C⟩;have I:ts.length<1000:=by have:=(afh.sm C).aa;simp[w_]at this;lia
 obtain⟨d,P,m,_⟩:=D s (l_ p 0) a h mk (c+1) hs iv hn (c6 C) Z hh;generalize c9 w.H w.cs w.aa n s (l_ p 0) a h=r1 at P m j;obtain⟨i,F⟩:=r1;have EJ:au (ah 3 f (aa aG (aa (aw aI aR (av (aa (aq 0) ae))) n4))) (b' 4) [Y (.aa (w.b.length+1)),Y (aj p),Y (a_ (.aa a ts)),Y (aV h),O,O] (SH w s mk)=Y (.nx [Y (.aa (w.b.length+1)),Y (aj p),Y (a_ (.aa a ts)),Y (aV h),Y (aN F),O],SH w i d):=
  aC (iG (k:=0) (T:=aq 0) ⋯ rfl rfl rfl rfl P)
 have l {v:U} (g:(i.ab.isSome || !O6 v)=L) (ev:v=aN F) (hv:dS Mp [Y (.aa (w.b.length+1)),Y (aj p),Y (a_ (.aa a ts)),Y (aV h),Y v,O] (SH w i d)=Y (O6 v,SH w i d)):cp f qz [.aa (w.b.length+1),aj p,a_ (.aa a ts),aV h] (SH w s mk)=Y (v,SH w i d):=by
  subst ev;refine bD ?_;show fO f qz [Y (.aa (w.b.length+1)),Y (aj p),Y (a_ (.aa a ts)),Y (aV h),O,O] _=_;unfold fO;refine(ab EJ).trans (cM ?_);rw[aF (k:=L) (h':=SH w i d)]
  .rfl
  .rw[OC,fS rfl,WZ];cases q:i.ab.isSome with
   |true=>rfl
   |false=>
    rw[q]at g;rw[W5 Xb,EA,hv,WZ];exact congrArg (λz=>Y (z,_)) g
 rcases m.en with⟨z,Q,G⟩ | ⟨o,e,z,t⟩
 .have z:F=none:=z;have G:i.ab=Y (hf Q):=G;subst z;have j:r=(i,O):=j;subst j;exact⟨d,l (by rw[G];rfl) rfl (HU rfl),m.iv.aa ⋯,m.le,.inl ⟨rfl,Q,G⟩⟩
 .have z:F=Y e:=z;have o:i.ab=none:=o;have E:s.aa<=i.aa:=m.le;have A:Iv w i d (c+1):=m.iv;subst z;cases e with
  |aa=>have j:r=(i,Y .aa):=j;subst j;exact⟨d,l (by rw[o];rfl) rfl (gy (x:=.aa) rfl),m.iv.aa ⋯,m.le,.inr ⟨o,_,rfl,t⟩⟩
  |ab=>have j:r=(i,Y .ab):=j;subst j;exact⟨d,l (by rw[o];rfl) rfl (gy (x:=.ab) rfl),m.iv.aa ⋯,m.le,.inr ⟨o,_,rfl,t⟩⟩
  |ae=>have j:r=(i,Y .ae):=j;subst j;exact⟨d,l (by rw[o];rfl) rfl (gy (x:=.ae) rfl),m.iv.aa ⋯,m.le,.inr ⟨o,_,rfl,t⟩⟩
  |aE q=>
   have t:cD w.H q:=t;have tk:=BA (h:=SH w i d) (b:=w.b.length) (a:=a) afh.ok.sm Hx afh.ds I t;have S {u:U} {K:MH} (g:(af (az BO (af (aO (fy aL (ao aG (ag "trail")) (aa (av (aa (ag "by") (aa aR fZ))) ae)))
  (ax c4)) ai)
  (af (aO (fy aL (ao aG (ag "trail")) (aa (av (aa (ag "take") Pe)) ae)))
  (ax (ah 3 f (aa aG (aa (aw aI aR (av (aa (aw aI (aq 1) jn) ae))) fZ)))))) [Y (.aa (w.b.length+1)),Y (aj p),Y (a_ (.aa a ts)),Y (aV h),Y (aj q),Y (oQ (aT w.H ts q))] (SH w i d)=Y (.rt u,K)):cp f qz [.aa (w.b.length+1),aj p,a_ (.aa a ts),aV h] (SH w s mk)=Y (u,K):=by
    refine bD ?_;show fO f qz [Y (.aa (w.b.length+1)),Y (aj p),Y (a_ (.aa a ts)),Y (aV h),O,O] _=_;unfold fO;refine(ab EJ).trans ((ab (σ':=[Y (.aa (w.b.length+1)),Y (aj p),Y (a_ (.aa a ts)),Y (aV h),Y (aj q),O]) (h':=SH w i d) ?_).trans ((ab (σ':=[Y (.aa (w.b.length+1)),Y (aj p),Y (a_ (.aa a ts)),Y (aV h),Y (aj q),Y (oQ (aT w.H ts q))]) (h':=SH w i d) ?_).trans g))
    .rw[aF (k:=b_) (h':=SH w i d)]
     .rfl
     .rw[OC,fS rfl,o,WZ];show(mP _ _ _)=_;rw[EA,gy (x:=.aE q) rfl];rfl
    .refine aC (bf (us:=[aJ w.H,.aa w.b.length,a_ (.aa a ts),aj q]) (h1:=SH w i d) ?_ rfl tk);simp
   cases hf:aT w.H ts q with
   |none=>
    have j:r=(i.ah (.by p q),Y (.aE q)):=by rw[j];show(match aT w.H ts q with | none=>_ | some k=>_)=_;rw[hf]
    subst j;refine⟨d,S ?_,A.af (e:=.by p q) ⟨⟨_,C⟩,t⟩,E,.inr ⟨o,_,rfl,t⟩⟩;rw[hf];refine cM ?_;rw[aF (k:=L) (h':=SH w i d) (by simp[oQ]),W0 rfl];exact(ab (lh (e:=.by p q) rfl (A.ae afh) rfl (by simp[bO]))).trans rfl
   |some k=>
    have V:k<ts.length:=mG hf;have W:ts[k]?=Y ts[k]:=W6 V;have j:r=c9 w.H w.cs w.aa n (i.ah (.take p k q)) (l_ p (1+k)) ts[k].2 (Y q):=by
     rw[j];show(match aT w.H ts q with | none=>_ | some k=>_)=_;rw[hf];show(match ts[k]? with | some x=>_ | none=>_)=_;rw[W]
    obtain⟨N,X,B,_⟩:=D (i.ah (.take p k q)) (l_ p (1+k)) ts[k].2 (Y q) d c o (A.af (e:=.take p k q) ⟨⟨_,C⟩,by lia,t⟩) (by show w.aa<n+i.aa;lia) ((c6 C).trans (by
     show(a::ts.map (·.2))[1+k]?=_;rw[Yz,Xg,Xd,W];rfl)) (ot _ (XY V)) (λy z=>by cases z;exact t)
    rw[<-j]at X B;refine⟨N,S ?_,B.iv,Xi E B.le,B.en⟩;rw[hf];refine(ab (σ':=[Y (.aa (w.b.length+1)),Y (aj p),Y (a_ (.aa a ts)),Y (aV h),Y (aj q),Y (.ab (k:Nat))]) (h':=SH w i d) (by simp[oQ])).trans ?_;refine(ab (lh (e:=.take p k q) rfl (A.ae afh) rfl (by simp[bO]))).trans (a7 ?_);exact iG (h:=Y q) (k:=1+k) (T:=aw aI (aq 1) jn) ⋯ rfl rfl rfl nofun X
theorem Cv (afh:sM w)(D:gB w n f){x:M}{d:aA M}(N:bc w.H p=Y (.ae x))(C:w.H.aa.lookup x=Y d)(P:s.ab=O)(Q:Iv w s mk (c+1))(S:w.aa<n+s.aa)
  {r:Bs M×Option (n_ M)} (i:r=match c9 w.H w.cs w.aa n s (x,[]) d O with
    |(y,Y (.aE q))=>(y.ah (.ae p q),Y (.aE q))
    |(y,Y _)=>(y,Y .aa)
    |r=>r) :
  ∃ mk',cL f [.aa (w.b.length+1),aj p,a_ (.ae x)] (SH w s mk)=Y (aN r.2,SH w r.1 mk')/\Po w s c r mk':=by
 have A:bc w.H (x,[])=Y d:=by unfold bc;dsimp only;rw[C];rfl
 obtain⟨a,E,m,_⟩:=D s (x,[]) d O mk (c+1) P Q S A (afh.ok.ok.ok x d C) (λq z=>nomatch z);generalize c9 w.H w.cs w.aa n s (x,[]) d O=T at E m i;obtain⟨j,B⟩:=T;have EJ:au (ah 3 f (aa aG (aa (av (aa (ao cu (aq 1)) ae)) FH))) (b' 3) [Y (.aa (w.b.length+1)),Y (aj p),Y (a_ (.ae x)),O] (SH w s mk)=Y (.nx [Y (.aa (w.b.length+1)),Y (aj p),Y (a_ (.ae x)),Y (aN B)],SH w j a):=by
  refine aC (bf (us:=[.aa (w.b.length+1),.af [.ae x],.aQ]) (h1:=SH w s mk) ?_ rfl E);simp[a_]
 have k {u:U} {K:MH} (e:gH f [Y (.aa (w.b.length+1)),Y (aj p),Y (a_ (.ae x)),O] (SH w s mk)=Y (.rt u,K)):cL f [.aa (w.b.length+1),aj p,a_ (.ae x)] (SH w s mk)=Y (u,K):=bD e;rcases m.en with⟨z,F,v⟩ | ⟨o,e,z,G⟩
 .have z:B=none:=z;have v:j.ab=Y (hf F):=v;subst z;have i:r=(j,O):=i;subst i;refine⟨a,k ?_,m.iv.aa ⋯,m.le,.inl ⟨rfl,F,v⟩⟩;unfold gH;refine(ab EJ).trans (cM ?_);rw[aF (fS rfl),v];rfl
 .have z:B=Y e:=z;have o:j.ab=none:=o;have t:s.aa<=j.aa:=m.le;have l:Iv w j a (c+1):=m.iv;subst z;have I:az (mB (aw (d8 L) (ao aG (ag "end")) bJ)) (ax bJ) ai [Y (.aa (w.b.length+1)),Y (aj p),Y (a_ (.ae x)),Y (aH e)] (SH w j a)=Y (.nx [Y (.aa (w.b.length+1)),Y (aj p),Y (a_ (.ae x)),Y (aH e)],SH w j a):=by
   rw[aF (fS rfl),o];rfl
  have g (q:tT e=b_) (i:r=(j,Y .aa)):∃ mk',cL f [.aa (w.b.length+1),aj p,a_ (.ae x)] (SH w s mk)=Y (aN r.2,SH w r.1 mk')/\Po w s c r mk':=by
   subst i;refine⟨a,k ?_,l.aa ⋯,t,.inr ⟨o,_,rfl,trivial⟩⟩;unfold gH;refine(ab EJ).trans ((ab I).trans ((ab (σ':=[Y (.aa (w.b.length+1)),Y (aj p),Y (a_ (.ae x)),Y (aH e)]) (h':=SH w j a) ?_).trans rfl));rw[aF (gy rfl),q];rfl
  cases e with
  |aa=>exact g rfl i
  |ab=>exact g rfl i
  |ae=>exact g rfl i
  |aE q=>
   have i:r=(j.ah (.ae p q),Y (.aE q)):=i;subst i;refine⟨a,k ?_,l.af (e:=.ae p q) ⟨⟨_,N⟩,G⟩,t,.inr ⟨o,_,rfl,G⟩⟩;unfold gH;refine(ab EJ).trans ((ab I).trans (cM ?_));rw[aF (gy rfl),show tT (.aE q:n_ M)=L from rfl,W0 rfl];exact(ab (lh (e:=.ae p q) rfl (l.ae afh) rfl (by simp[aH,bO]))).trans rfl
end D11
namespace D11
open PySem L2 S RN
variable [kf:KF][c0:Cw]
variable {w:Lm}{f:MF}{s:Bs M}{mk:List (j_×U)}{c:Nat}{p:h_ M}{h:Option (h_ M)}
noncomputable def gh:Nat->MF
 |0=>λ_ _=>O
 |j+1=>jR (ee (gh j)) (cW aS (gh j)) (cq (gh j)) (cp (gh j) qz) (cL (gh j)) (gh j) aS
def QC (r a cl ca ci f:MF):MS:=
  (af (az (mB (aw (S.bh b_) c4 (ag "say"))) (aO (fy aL (ao aG (ag "trail")) (aa (av (aa (ag "say") (aa aR (aa (ao bC (aq 1)) ae)))) ae))) ai)
  (af (az (mB (gu b_ c4 (av (aa (ag "on") (aa (ag "off") ae))))) (aW (ao aG (ag "marks")) (ao bC (aq 1)) (aw (S.bh b_) c4 (ag "on"))) ai)
  (af (az (mB (aw (S.bh b_) c4 (ag "slip"))) (af (aO (fy aL (ao aG (ag "trail")) (aa (av (aa (ag "slip") ni)) ae)))
  (ax aR)) ai)
  (af (az (mB (aw (S.bh b_) c4 (ag "pass"))) (af (aO (fy aL (ao aG (ag "trail")) (aa (av (aa (ag "pass") (aa aR dQ))) ae)))
  (ax cu)) ai)
  (af (az (mB (gu b_ c4 (av (aa (ag "leave") (aa (ag "stop") ae))))) (ax c4) ai)
  (af (az (mB (aw (S.bh b_) c4 (ag "row"))) (ax (ah 4 r Ip)) ai)
  (af (az (mB (aw (S.bh b_) c4 (ag "again"))) (ax (ah 3 a lV)) ai)
  (af (az (mB (aw (S.bh b_) c4 (ag "clean"))) (ax (ah 3 cl lV)) ai)
  (af (az (mB (aw (S.bh b_) c4 (ag "catch"))) (ax (ah 4 ca Ip)) ai)
  (af (az (mB (aw (S.bh b_) c4 (ag "call"))) (ax (ah 3 ci BP)) ai)
  (af (az (mB (aw (S.bh b_) c4 (ag "when"))) (ax (ah 3 f (aa aG (aa (aw aI aR (av (aa (aw dO (aq 1) (eB oT (aa (fC (ao aG (ag "marks")) (ao bC (aq 1)) fJ) ae))) ae))) dQ)))) ai)
  (af (az (mB (aw (S.bh b_) c4 (ag "pick"))) (af (au (ah 2 aS (aa aG (aa (aw dO FJ (aq 1)) ae))) (b' 5))
  (ax (zq BO bJ (ah 3 f Mz)))) ai)
  (ax (ag "done"))))))))))))))
theorem CO {r a cl ca ci f:MF}:mu r a cl ca ci f aS =
  (af (az (mB (aw (S.bh b_) (ao aG (ag "begun")) (ao aG (ag "most")))) (af (aW aG (ag "end") (av (aa (ag "long") ae))) (ax bJ)) ai)
  (af (aW aG (ag "begun") (aw aI (ao aG (ag "begun")) (aq 1)))
  (af (au (ao (ao aG (ag "deeds")) aR) (b' 3))
  (af (au (ao bC (aq 0)) (b' 4)) (QC r a cl ca ci f))))):=rfl
theorem Gi (afh:sM w){z:String}{us:List U}{d:aA M}(j:a_ d=.af (.ae z::us))(l:bc w.H p=Y d)(o:Iv w s mk c)(q:¬ w.aa<=s.aa){r a cl ca ci f:MF}{u:U}{K:MH}
  (e:QC r a cl ca ci f [Y (.aa (w.b.length+1)),Y (aj p),Y (aV h),Y (.af (.ae z::us)),Y (.ae z),O] (SH w {s with aa:=s.aa+1} mk)=Y (.rt u,K)):jR r a cl ca ci f aS [.aa (w.b.length+1),aj p,aV h] (SH w s mk)=Y (u,K):=by
 refine bD ?_;show mu r a cl ca ci f aS [Y (.aa (w.b.length+1)),Y (aj p),Y (aV h),O,O,O] _=_;have m:¬ (s.aa:Int)=(w.aa:Int):=by lia
 have g:=Bl (w:=w) (s:=s) (mk:=mk) (k:=s.aa+1);rw[show(((s.aa+1:Nat):Int))=(s.aa:Int)+1 by lia]at g;have i:=JP (w:=w) (s:={s with aa:=s.aa+1}) (mk:=mk) afh.ds l;rw[j]at i;rw[CO,ab (σ':=[Y (.aa (w.b.length+1)),Y (aj p),Y (aV h),O,O,O]) (h':=SH w s mk) (by simp[m]),ab (σ':=[Y (.aa (w.b.length+1)),Y (aj p),Y (aV h),O,O,O]) (h':=SH w {s with aa:=s.aa+1} mk) (by simp[g]),ab (σ':=[Y (.aa (w.b.length+1)),Y (aj p),Y (aV h),Y (.af (.ae z::us)),O,O]) (h':=SH w {s with aa:=s.aa+1} mk) (by simp[i]),ab (σ':=[Y (.aa (w.b.length+1)),Y (aj p),Y (aV h),Y (.af (.ae z::us)),Y (.ae z),O]) (h':=SH w {s with aa:=s.aa+1} mk) nofun];exact e
theorem Iv.ar (a:Iv w s mk c)(q:¬ w.aa<=s.aa):Iv w {s with aa:=s.aa+1} mk (c+1):=⟨by show s.aa+1<=_;lia,by have:=a.tr;show s.af.length+(c+1)<=s.aa+1;lia,a.ev,a.ai,a.ag,a.ah,a.bl,by have:=a.aj;show mk.length<=s.aa+1;lia⟩
theorem gU {b:Type}[DecidableEq b]{a j:b}{u:U}{r:List (b×U)}:bx ((a,u)::r) j=if a=j then Y u else bx r j:=by
 by_cases e:a=j<;>simp[bx,e]
theorem wq {d:Type}[DecidableEq d]{k j:d}{v:U}:∀ {l:List (d×U)},bx (l.map λb=>if b.1=k then(b.1,v) else b) j=if k=j then(if (l.any λb=>j' (b.1=k))=L then Y v else O) else bx l j
 |[]=>by simp[bx]
 |(a,u)::r=>by
  rw[Xq,Yy];have g:=wq (k:=k) (j:=j) (v:=v) (l:=r);by_cases e:a=k
  .subst e;rw[W0 rfl,gU,gU,g];by_cases q:a=j<;>simp[q]
  .rw[W5 e,gU,gU,g];by_cases q:a=j
   .subst q;rw[W0 rfl,W0 rfl,W5 (λz:k=a=>e z.symm)]
   .rw[W5 q,W5 q,XU e,adp]
theorem pB {b:Type}[DecidableEq b]{k j:b}{v:U}{l:List (b×U)}:bx (c7 l k v) j=if k=j then Y v else bx l j:=by
 unfold c7;by_cases c:(l.any λe=>j' (e.1=k))=L
 .rw[W0 c,wq,W0 c]
 .rw[W5 c];have d:k∉l.map (·.1):=λz=>by
   obtain⟨x,g,rfl⟩:=Xp.mp z;exact c (acP.mpr ⟨x,g,by simp⟩)
  clear c
  induction l with
  |nil=>rw[ZJ,gU]
  |cons a r i=>
   obtain⟨a,u⟩:=a;rw[acM,gU,gU];rw[Xq,Xj,not_or]at d;by_cases q:a=j
   .subst q;rw[W0 rfl,W0 rfl,W5 d.1]
   .rw[W5 q,W5 q];exact i d.2
theorem zF {a:Type}[DecidableEq a]{k:a}{v:U}{l:List (a×U)}:(c7 l k v).length<=l.length+1:=by
 unfold c7;split<;>simp
theorem zG {a:Type}[DecidableEq a]{k:a}{v:U}{l:List (a×U)}(b:cE 0 (l.map (·.2)))(d:ip 0 v):cE 0 ((c7 l k v).map (·.2)):=by
 unfold c7;refine bL.mpr λu hu=>?_
 split at hu
 .obtain⟨x,e,rfl⟩:=Xp.mp hu;obtain⟨y,g,rfl⟩:=Xp.mp e;split
  .exact d
  .exact bL.mp b _ (Xp.mpr ⟨y,g,rfl⟩)
 .rw[XS,XG]at hu;rcases hu with hu | hu
  .exact bL.mp b _ hu
  .simp at hu;subst hu;exact d
theorem Iv.ao (a:Iv w s mk (c+1)){m:M}{b:Bool}{ms:List M}(d:mk.length<s.aa)(h1:∀ x∈ms,x∈w.H.ab)(h2:∀ x,x∈ms↔if m=x then b=L else x∈s.ag):Iv w {s with ag:=ms} (c7 mk (p_ m) (.bl b)) c:=by
 refine⟨a.ab,by have:=a.tr;show s.af.length+c<=s.aa;lia,a.ev,h1,λx=>?_,λx u e=>?_,zG a.bl .bl,Xi zF d⟩
 .show _↔x∈ms;rw[h2,pB];by_cases q:m=x
  .subst q;simp
  .have:¬ (p_ m:j_)=p_ x:=λz=>q (ZE z)
   rw[W5 this,W5 q];exact a.ag x
 .rw[pB]at e;split at e
  .rcases e;exact⟨b,rfl⟩
  .exact a.ah x u e
end D11
namespace D11
open PySem L2 S RN
variable [kf:KF][c0:Cw]
variable {w:Lm}{n:Nat}{f:MF}{s:Bs M}{mk:List (j_×U)}{c:Nat}{p:h_ M}{h:Option (h_ M)}
section
variable {z y y2:String}{A B:MS}{σ:bu}{K K':MH}{u:U}
theorem uz (e:σ[4]?=Y (Y (.ae z)))(n:¬ (z=y\/z=y2)):af (az (mB (gu b_ c4 (av (aa (ag y) (aa (ag y2) ae))))) A ai) B σ K=B σ K:=by simp[e,nK,n]
theorem QT (e:σ[4]?=Y (Y (.ae y)))(a:A σ K=Y (.nx σ,K')):af (az (mB (aw (S.bh b_) c4 (ag y))) A ai) B σ K=B σ K':=by simp[e,a]
theorem NN (e:σ[4]?=Y (Y (.ae z)))(n:z=y\/z=y2)(a:A σ K=Y (.rt u,K')):af (az (mB (gu b_ c4 (av (aa (ag y) (aa (ag y2) ae))))) A ai) B σ K=Y (.rt u,K'):=by simp[e,nK,n,a]
theorem IS (e:σ[4]?=Y (Y (.ae z)))(n:z=y\/z=y2)(a:A σ K=Y (.nx σ,K')):af (az (mB (gu b_ c4 (av (aa (ag y) (aa (ag y2) ae))))) A ai) B σ K=B σ K':=by simp[e,nK,n,a]
end
theorem Ho {H:aK M}{t:Bool}{x:M}(o:Ok H t (.aq x)):x∈H.af:=by cases o with | aj h=>exact h
theorem Kr {H:aK M}{t:Bool}{x:M}(o:Ok H t (.on x)):x∈H.ab:=by cases o with | on h=>exact h
theorem FF {m:M}{σ:bu}{ws:List U}(d:Iv w s mk c)(g:σ[0]?=Y (Y (.aa (w.b.length+1))))(i:σ[3]?=Y (Y (.af (.ae "when"::.ae m::ws)))) :
  aw dO (aq 1) (eB oT (aa (fC (ao aG (ag "marks")) (ao bC (aq 1)) fJ) ae)) σ (SH w s mk)=Y (.ab ((if m∈s.ag then 0 else 1:Nat):Int),SH w s mk):=by
 have e:fC (ao aG (ag "marks")) (ao bC (aq 1)) fJ σ (SH w s mk)=Y ((bx mk (p_ m)).getD (.bl b_),SH w s mk):=by
  have:=(dq (z:=m) (Hz (w:=w) (s:=s) (mk:=mk))).2;simp[fC,g,i,this]
 have j:(bx mk (p_ m)).getD (.bl b_)=.bl (j' (m∈s.ag)):=by
  cases a:bx mk (p_ m) with
  |none=>
   have:¬ m∈s.ag:=λz=>by rw[(d.ag m).mpr z]at a;cases a
   simp[this]
  |some u=>
   obtain⟨b,rfl⟩:=d.ah m u a;cases b with
   |true=>simp[(d.ag m).mp a]
   |false=>
    have:¬ m∈s.ag:=λz=>by rw[(d.ag m).mpr z]at a;cases a
    simp[this]
 rw[j]at e;rw[mX,Lr,WZ,qT,bI,e,WZ];by_cases q:m∈s.ag<;>simp[q,oT]
theorem IF (afh:sM w):∀ n,n<1000->gB w n (gh n)
 |0,_=>λs p d h mk c hs P hn _ _ _=>by have:=P.ab;lia
 |n+1,hn1=>λs p d h mk c hs P hn C I N=>by
  have D:=IF afh n ⋯;show ∃ mk',jR (ee (gh n)) (cW aS (gh n)) (cq (gh n)) (cp (gh n) qz) (cL (gh n)) (gh n) aS [.aa (w.b.length+1),aj p,aV h] (SH w s mk)=_/\_;by_cases q:w.aa<=s.aa
  .rw[show c9 w.H w.cs w.aa (n+1) s p d h=_ from W0 q];refine⟨mk,?_,⟨P.ak _,WY _,.inl ⟨rfl,L,rfl⟩⟩,(λz=>nomatch z)⟩;have e:(s.aa:Int)=(w.aa:Int):=by have:=P.ab;lia
   refine bD ?_;show mu _ _ _ _ _ _ aS [Y (.aa (w.b.length+1)),Y (aj p),Y (aV h),O,O,O] _=_;rw[CO];refine cM ?_;have pe:eN (SH w s mk) (.aa (w.b.length+1)) (.ae "end") (.af [.ae "long"])=_:=uf (f:=.aa);simp[e,pe,aN]
  rw[show c9 w.H w.cs w.aa (n+1) s p d h=_ from W5 q];have g:=P.ar q;have j:({s with aa:=s.aa+1}:Bs M).ab=none:=hs;have o:w.aa<n+({s with aa:=s.aa+1}:Bs M).aa:=by show w.aa<n+(s.aa+1);lia
  have W:mk.length<({s with aa:=s.aa+1}:Bs M).aa:=by have:=P.aj;show mk.length<s.aa+1;lia
  have Wv:({s with aa:=s.aa+1}:Bs M).aa=s.aa+1:=rfl;have Wu:({s with aa:=s.aa+1}:Bs M).ag=s.ag:=rfl;have hd {z:String} {us:List U} {u:U} {K:MH} (hd:a_ d=.af (.ae z::us)):=Gi (mk:=mk) (c:=c) (h:=h) afh hd C P q (r:=ee (gh n)) (a:=cW aS (gh n)) (cl:=cq (gh n)) (ca:=cp (gh n) qz) (ci:=cL (gh n)) (f:=gh n) (u:=u) (K:=K);generalize S:({s with aa:=s.aa+1}:Bs M)=i at *;have G {z:String} {us:List U} {r:Bs M×Option (n_ M)} {mk':List (j_×U)} (hz:a_ d=.af (.ae z::us)) (e:QC (ee (gh n)) (cW aS (gh n)) (cq (gh n)) (cp (gh n) qz) (cL (gh n)) (gh n) [Y (.aa (w.b.length+1)),Y (aj p),Y (aV h),Y (.af (.ae z::us)),Y (.ae z),O] (SH w i mk)=Y (.rt (aN r.2),SH w r.1 mk')) (l:Po w i c r mk') :
    ∃ mk',jR (ee (gh n)) (cW aS (gh n)) (cq (gh n)) (cp (gh n) qz) (cL (gh n)) (gh n) aS [.aa (w.b.length+1),aj p,aV h] (SH w s mk)=Y (aN r.2,SH w r.1 mk')/\Po w s c r mk'/\(r.1.ab=O->s.aa<r.1.aa):=
   ⟨mk',hd hz e,⟨l.iv,by have:=l.le;lia,l.en⟩,λ_=>by have:=l.le;lia⟩
  cases d with
  |aq x=>
   refine G (z:="say") (mk':=mk) rfl ?_ ⟨g.af (e:=.ag p x) ⟨⟨_,C⟩,Ho I⟩,WY _,.inr ⟨j,_,rfl,trivial⟩⟩;refine(QT rfl (lh (e:=.ag p x) rfl (g.ae afh) rfl (by simp[bO]))).trans ?_
   repeat first | refine(sk rfl ∅).trans ?_ | refine(uz rfl ∅).trans ?_
   rfl
  |aE x=>
   refine G (z:="slip") (mk':=mk) rfl ?_ ⟨g.af (e:=.aE p) ⟨_,C⟩,WY _,.inr ⟨j,_,rfl,⟨_,C⟩⟩⟩
   repeat first | refine(sk rfl ∅).trans ?_ | refine(uz rfl ∅).trans ?_
   exact T' rfl ((ab (lh (e:=.aE p) rfl (g.ae afh) rfl (by simp[bO]))).trans rfl)
  |aj=>
   have ht:=I.mU;obtain⟨x,rfl⟩:=abz.mp ht;refine G (z:="pass") (mk':=mk) rfl ?_ ⟨g.af (e:=.af p (Y x)) ⟨⟨_,C⟩,x,rfl,N x rfl⟩,WY _,.inr ⟨j,_,rfl,N x rfl⟩⟩
   repeat first | refine(sk rfl ∅).trans ?_ | refine(uz rfl ∅).trans ?_
   exact T' rfl ((ab (lh (e:=.af p (Y x)) rfl (g.ae afh) rfl (by simp[bO,aV]))).trans rfl)
  |ai=>
   refine G (z:="leave") (mk':=mk) rfl ?_ ⟨g.aa ⋯,WY _,.inr ⟨j,_,rfl,trivial⟩⟩
   repeat first | refine(sk rfl ∅).trans ?_ | refine(uz rfl ∅).trans ?_
   exact NN rfl ∅ rfl
  |ak=>
   refine G (z:="stop") (mk':=mk) rfl ?_ ⟨g.aa ⋯,WY _,.inr ⟨j,_,rfl,trivial⟩⟩
   repeat first | refine(sk rfl ∅).trans ?_ | refine(uz rfl ∅).trans ?_
   exact NN rfl ∅ rfl
  |on m=>
   have hm:m∈w.H.ab:=Kr I;have pm:=vN (w:=w) (s:=i) (mk:=mk) (m:=m) (v:=.bl L) (by have:=g.ab;have:=afh.mo;lia);refine G (z:="on") (mk':=c7 mk (p_ m) (.bl L)) (r:=({i with ag:=lF w.H i.ag m},Y .aa)) rfl ?_ ⟨g.ao W (λx V=>(Zp.mp V).1) (λx=>?_),WY _,.inr ⟨j,_,rfl,trivial⟩⟩
   .repeat first | refine(sk rfl ∅).trans ?_ | refine(uz rfl ∅).trans ?_
    refine(IS (K':=SH w i (c7 mk (p_ m) (.bl L))) rfl ∅ (by simp[pm])).trans ?_
    repeat first | refine(sk rfl ∅).trans ?_ | refine(uz rfl ∅).trans ?_
    rfl
   .unfold lF;rw[Zp];by_cases e:m=x
    .subst e;simp[hm]
    .have e':¬ x=m:=λz=>e z.symm
     simp[e,e'];exact g.ai x
  |ao m=>
   have pm:=vN (w:=w) (s:=i) (mk:=mk) (m:=m) (v:=.bl b_) (by have:=g.ab;have:=afh.mo;lia);refine G (z:="off") (mk':=c7 mk (p_ m) (.bl b_)) (r:=({i with ag:=ik i.ag m},Y .aa)) rfl ?_ ⟨g.ao W (λx V=>g.ai x (Zp.mp V).1) (λx=>?_),WY _,.inr ⟨j,_,rfl,trivial⟩⟩
   .repeat first | refine(sk rfl ∅).trans ?_ | refine(uz rfl ∅).trans ?_
    refine(IS (K':=SH w i (c7 mk (p_ m) (.bl b_))) rfl ∅ (by simp[pm])).trans ?_
    repeat first | refine(sk rfl ∅).trans ?_ | refine(uz rfl ∅).trans ?_
    rfl
   .unfold ik;rw[Zp];by_cases e:m=x
    .subst e;simp
    .have e':¬ x=m:=λz=>e z.symm
     simp[e,e']
  |ah t=>
   have key:∀ F:Bs M->Nat->Bs M×Option (n_ M),(∀ s k x,t[k]?=Y x->F s k=c9 w.H w.cs w.aa n s (l_ p k) x h)->∃ mk',jR (ee (gh n)) (cW aS (gh n)) (cq (gh n)) (cp (gh n) qz) (cL (gh n)) (gh n) aS [.aa (w.b.length+1),aj p,aV h] (SH w s mk)=Y (aN (iE F t.length 0 i).2,SH w (iE F t.length 0 i).1 mk')/\Po w s c (iE F t.length 0 i) mk'/\((iE F t.length 0 i).1.ab=O->s.aa<(iE F t.length 0 i).1.aa):=λF hF=>by
    obtain⟨mk',e,l⟩:=Hm (c:=c) afh D C I.ui N j (g.aa ⋯) o hF;refine G (z:="row") (mk':=mk') rfl ?_ l
    repeat first | refine(sk rfl ∅).trans ?_ | refine(uz rfl ∅).trans ?_
    exact T' rfl (a7 (bf (us:=[.aa (w.b.length+1),aj p,a_ (.ah t),aV h]) (h1:=SH w i mk) rfl rfl e))
   exact key _ λs k x e=>by simp only[e]
  |ab x=>
   obtain⟨mk',e,l⟩:=z7 (c:=c) afh D C I.nz N ⋯ j (g.aa ⋯) o;refine G (z:="again") (mk':=mk') rfl ?_ l
   repeat first | refine(sk rfl ∅).trans ?_ | refine(uz rfl ∅).trans ?_
   exact T' rfl (a7 (bf (us:=[.aa (w.b.length+1),aj p,aV h]) (h1:=SH w i mk) rfl rfl e))
  |af a b=>
   obtain⟨mk',e,l⟩:=Ap (c:=c) (h:=h) afh D C I.kd.1 I.kd.2 N j g o (r:=(c9 w.H w.cs w.aa (n+1) s p (.af a b) h)) (by
    rw[c9,W5 q,S]
    delta eZ;dsimp only
    generalize c9 w.H w.cs w.aa n i (l_ p 0) a h=X;obtain⟨s2,_ | e⟩:=X
    .rfl
    .dsimp only;generalize c9 w.H w.cs w.aa n s2 (l_ p 1) b h=r2;obtain⟨s3,_ | x⟩:=r2<;>rfl)
   rw[c9,W5 q,S]at e l;refine G (z:="clean") (mk':=mk') rfl ?_ l
   repeat first | refine(sk rfl ∅).trans ?_ | refine(uz rfl ∅).trans ?_
   exact T' rfl (a7 (bf (us:=[.aa (w.b.length+1),aj p,aV h]) (h1:=SH w i mk) rfl rfl e))
  |aa a ts=>
   obtain⟨mk',e,l⟩:=Ao (c:=c) (h:=h) afh D C I.kb.1 I.kb.2 N j g o (r:=(c9 w.H w.cs w.aa (n+1) s p (.aa a ts) h)) (by
    rw[c9,W5 q,S]
    delta eZ;dsimp only
    generalize c9 w.H w.cs w.aa n i (l_ p 0) a h=X;obtain⟨s2,_ | e⟩:=X
    .rfl
    .cases e with
     |aE y=>
      dsimp only;cases aT w.H ts y with
      |none=>rfl
      |some k=>dsimp only;cases ts[k]?<;>rfl
     |_=>rfl)
   rw[c9,W5 q,S]at e l;refine G (z:="catch") (mk':=mk') rfl ?_ l
   repeat first | refine(sk rfl ∅).trans ?_ | refine(uz rfl ∅).trans ?_
   exact T' rfl (a7 (bf (us:=[.aa (w.b.length+1),aj p,a_ (.aa a ts),aV h]) (h1:=SH w i mk) rfl rfl e))
  |ae x=>
   obtain⟨d,V⟩:=I.my;obtain⟨mk',e,l⟩:=Cv (c:=c) afh D C V j g o (r:=(c9 w.H w.cs w.aa (n+1) s p (.ae x) h)) (by
    rw[c9,W5 q,S]
    delta eZ;dsimp only
    rw[V];dsimp only;generalize c9 w.H w.cs w.aa n i (x,[]) d O=X;obtain⟨s2,_ | e⟩:=X
    .rfl
    .cases e<;>rfl)
   rw[c9,W5 q,S]at e l;refine G (z:="call") (mk':=mk') rfl ?_ l
   repeat first | refine(sk rfl ∅).trans ?_ | refine(uz rfl ∅).trans ?_
   exact T' rfl (a7 (bf (us:=[.aa (w.b.length+1),aj p,a_ (.ae x)]) (h1:=SH w i mk) rfl rfl e))
  |fz m a b=>
   have NP:=afh.pl ⟨_,C⟩;have E {r:Bs M×Option (n_ M)} {mk':List (j_×U)} (e:gh n [.aa (w.b.length+1),aj (l_ p (if m∈i.ag then 0 else 1)),aV h] (SH w i mk)=Y (aN r.2,SH w r.1 mk')) (l:Po w i c r mk'):=G (z:="when") (mk':=mk') (r:=r) rfl ((sk rfl ∅).trans ((uz rfl ∅).trans ((sk rfl ∅).trans ((sk rfl ∅).trans ((uz rfl ∅).trans ((sk rfl ∅).trans ((sk rfl ∅).trans ((sk rfl ∅).trans ((sk rfl ∅).trans ((sk rfl ∅).trans (T' rfl (a7 (iG (w:=w) (h:=h) (p:=p) ⋯ rfl rfl rfl (FF g rfl rfl) e))))))))))))) l
   delta eZ;dsimp only
   by_cases hm:m∈i.ag
   .rw[W0 hm]at E ⊢;obtain⟨mk',e,l,_⟩:=D i (l_ p 0) a h mk c j (g.aa ⋯) o (c6 C) I.j5.1 N;exact E e l
   .rw[W5 hm]at E ⊢;obtain⟨mk',e,l,_⟩:=D i (l_ p 1) b h mk c j (g.aa ⋯) o (c6 C) I.j5.2 N;exact E e l
  |ag t=>
   have NP:=afh.pl ⟨_,C⟩;obtain⟨hl,od⟩:=I.mV;have h0:(0:Int)<(t.length:Int):=by lia
   have ask:=uK (w:=w) (s:=i) (mk:=mk) afh.dl g.bl (k:=(t.length:Int)) h0;have Q:au (ah 2 aS (aa aG (aa (aw dO FJ (aq 1)) ae))) (b' 5) [Y (.aa (w.b.length+1)),Y (aj p),Y (aV h),Y (a_ (.ag t)),Y (.ae "pick"),O] (SH w i mk)=Y (.nx [Y (.aa (w.b.length+1)),Y (aj p),Y (aV h),Y (a_ (.ag t)),Y (.ae "pick"),Y (sW w i t.length).1],SH w (sW w i t.length).2 mk):=by
    refine aC (bf (us:=[.aa (w.b.length+1),.ab (t.length:Int)]) (h1:=SH w i mk) ?_ rfl ask);simp[a_,cx]
   have E {r:Bs M×Option (n_ M)} {mk':List (j_×U)} {u:U} (eu:u=aN r.2) (e:(af (au (ah 2 aS (aa aG (aa (aw dO FJ (aq 1)) ae))) (b' 5)) (ax (zq BO bJ (ah 3 (gh n) Mz))) ) [Y (.aa (w.b.length+1)),Y (aj p),Y (aV h),Y (a_ (.ag t)),Y (.ae "pick"),O] (SH w i mk)=Y (.rt u,SH w r.1 mk')) (l:Po w i c r mk'):=G (z:="pick") (mk':=mk') (r:=r) rfl ((sk rfl ∅).trans ((uz rfl ∅).trans ((sk rfl ∅).trans ((sk rfl ∅).trans ((uz rfl ∅).trans ((sk rfl ∅).trans ((sk rfl ∅).trans ((sk rfl ∅).trans ((sk rfl ∅).trans ((sk rfl ∅).trans ((sk rfl ∅).trans (T' rfl (by rw[<-eu];exact e))))))))))))) l;unfold sW at Q
   delta eZ;dsimp only
   cases hc:w.cs[i.ae]? with
   |none=>
    rw[hc]at Q;refine E (r:=({i with ab:=Y .cC},O)) (mk':=mk) rfl ((ab Q).trans rfl) ⟨(g.aa ⋯).ak _,WY _,.inl ⟨rfl,b_,rfl⟩⟩
   |some ch=>
    rw[hc]at Q;dsimp only at Q ⊢;have Wn:=ZI ch (show(t.length:Int)≠0 by lia);have Wo:=ZH ch h0;obtain⟨k,hk⟩:∃ k:Nat,ch%(t.length:Int)=(k:Int):=⟨(ch%(t.length:Int)).toNat,by lia⟩;have Z:k<t.length:=by lia
    have ek:t[k]?=Y t[k]:=W6 Z;rw[hk]at Q;rw[hk,Zn,ek];dsimp only;obtain⟨mk',e,l,_⟩:=D {i with ae:=i.ae+1} (l_ p k) t[k] h mk c j (g.aa ⋯).aq o ((c6 C).trans ek) (od _ (XY Z)) N;refine E (mk':=mk') rfl ((ab Q).trans (a7 ?_)) ⟨l.iv,l.le,l.en⟩;rw[Rz,show BO [Y (.aa (w.b.length+1)),Y (aj p),Y (aV h),Y (a_ (.ag t)),Y (.ae "pick"),Y (.ab (k:Int))] (SH w {i with ae:=i.ae+1} mk)=Y (b_,SH w {i with ae:=i.ae+1} mk) from rfl,WZ];exact iG (w:=w) (h:=h) (p:=p) (T:=jn) ⋯ rfl rfl rfl rfl e
end D11
namespace RN
variable {S:Type}[DecidableEq S]{H:aK S}{cs:List Int}{most:Nat}
theorem nH:∀ {n:Nat}{st:St S}{e:Option (n_ S)}{r:T_ S},L' H cs most n st e=Y r->∀ j,L' H cs most (n+j) st e=Y r
 |0,_,_,_,h,_=>nomatch h
 |n+1,st,e,r,h,j=>by
  rw[show n+1+j=(n+j)+1 by lia];by_cases q:st.af.isSome=L\/st.aa=[]
  .have a:L' H cs most (n+1) st e=Y (R_ st e):=W0 q;have b:L' H cs most (n+j+1) st e=Y (R_ st e):=W0 q;rw[b,<-a,h]
  .have a:L' H cs most (n+1) st e=L' H cs most n (E' H cs most st e).1 (E' H cs most st e).2:=W5 q;have b:L' H cs most (n+j+1) st e=L' H cs most (n+j) (E' H cs most st e).1 (E' H cs most st e).2:=W5 q;rw[b];exact nH (a.symm.trans h) j
def gQ (r:Bs S×Option (n_ S)):T_ S:=match r.1.ab with
 |some f=>⟨r.1.af,f,r.1.aa⟩
 |none=>match r.2 with
  |some (.aE p)=>⟨r.1.af++[.ab p],.aE p,r.1.aa⟩
  |_=>⟨r.1.af,.ab,r.1.aa⟩
theorem uj {n:Nat}(m:most<n)(e:f9 H){x:S}{d:aA S}{l:List (S×aA S)}(g:H.aa=(x,d)::l):run H cs most=Y (gQ (c9 H cs most n ⟨[],0,0,[],O⟩ (x,[]) d O)):=by
 obtain⟨r0,h,_⟩:=EI (cs:=cs) (most:=most) e;have i:H.aa.lookup x=Y d:=by rw[g,Xf];simp
 have D:=Ny (cs:=cs) (most:=most) e n ⟨[],0,0,[],O⟩ (x,[]) d O rfl (Xl _) (by show most<n+0;lia) (e.ok x d i);have j:W' H most=J_ most ((⟨[],0,0,[],O⟩:Bs S).st []) (x,[]) d none:=by
  unfold W';rw[g];dsimp only;unfold bY;rw[i];rfl
 have QD:L' H cs most (2*most+5) (W' H most) O=Y r0:=h;rw[h];generalize c9 H cs most n ⟨[],0,0,[],O⟩ (x,[]) d O=r at D;rw[j]at QD;rcases D.1 []with⟨f,k,a,b⟩ | ⟨y,k,a,b,c⟩
 .have:=(nH QD k).symm.trans (b _);rw[this];unfold gQ;rw[a]
 .have z:=(nH QD (1+k)).symm;rw[show 2*most+5+(1+k)=(2*most+5+1)+k by lia,c]at z;have w:L' H cs most (2*most+5+1) (r.1.st []) (Y y)=Y (R_ (r.1.st []) (Y y)):=W0 (.inr rfl);rw[z,w];unfold gQ R_;rw[show(r.1.st []).af=r.1.ab from rfl,a,b];cases y<;>rfl
end RN
namespace D11
open PySem L2 S RN
variable [kf:KF][c0:Cw]
def ll (l:List (h_ M×aA M))(kvs:List (NK.KD×U)):List (NK.KD×U):=l.foldl (λkvs x=>c7 kvs (zj x.1) (a_ x.2)) kvs
theorem va:∀ (l:List (h_ M×aA M)) (kvs:List (NK.KD×U)),(ll l kvs).length<=kvs.length+l.length
 |[],_=>WY _
 |x::r,kvs=>by
  have a:=va r (c7 kvs (zj x.1) (a_ x.2));have b:=zF (k:=zj x.1) (v:=a_ x.2) (l:=kvs);rw[Xa];show(ll r (c7 kvs (zj x.1) (a_ x.2))).length<=_;lia
theorem vd {p:h_ M}{d:aA M}:∀ (l:List (h_ M×aA M)) (kvs:List (NK.KD×U)),(∀ x∈l,x.1=p->x.2=d)->((p,d)∈l\/bx kvs (zj p)=Y (a_ d))->bx (ll l kvs) (zj p)=Y (a_ d)
 |[],_,_,h=>by
  rcases h with h | h
  .cases h
  .exact h
 |x::r,kvs,a,h=>by
  refine vd r _ (λy b=>a y (by simp[b])) ?_;by_cases q:x.1=p
  .right;rw[pB,q,W0 rfl,a x nofun q]
  .rcases h with h | h
   .rcases Xj.mp h with rfl | h
    .exact absurd rfl q
    .exact .inl h
   .right;rw[pB,W5 (λz=>q (Gw z))];exact h
theorem vc:∀ (l:List (h_ M×aA M)) (kvs:List (NK.KD×U)),MC kvs->MC (ll l kvs)
 |[],_,h=>h
 |x::r,kvs,h=>vc r _ (zG h (a6 _))
theorem Nz {H:aK M}(o:bV H):Ds H (ll (eG H) []):=λp d e=>vd _ _ (λx a b=>by
 have:=Jr o (p:=x.1) (d:=x.2) a;rw[b,e]at this;exact(Xe this).symm) (.inl (Js o e))
theorem Le {h:MH}{n:Nat}{kvs:List (NK.KD×U)}{p:h_ M}{v:U}(e:h[n]?=Y (.dT kvs))(a:kvs.length<1000000):cU h (.aa n)=L/\eN h (.aa n) (aj p) v=Y (h.set n (.dT (c7 kvs (zj p) v))):=by
 constructor
 .simp[cU,e]
 .have:kvs.length<sizeLine:=by rw[XJ];lia
  simp[eN,e,xA,this]
theorem xh {g:MF}{H:aK M}{h:MH}{uc um:U}(o:bV H)(l:g [aJ H] (h++[.dT []])=Y (.ag ((eG H).map eh),h++[.dT []])):∃ o4 o5,eJ (cy (ah 1 g BM)) (iC 2 (bt (b' 4) (bt (b' 5) iB))) (aW bC c4 jn) [Y (aJ H),Y uc,Y um,Y (.aa h.length),O,O,O,O] (h++[.dT []])=Y (.nx [Y (aJ H),Y uc,Y um,Y (.aa h.length),o4,o5,O,O],h++[.dT (ll (eG H) [])]):=by
 have t:=yK o;have w:=o.sm.ae;have a (i:Nat) (c:i<(eG H).length):ll ((eG H).take (i+1)) []=c7 (ll ((eG H).take i) []) (zj (eG H)[i].1) (a_ (eG H)[i].2):=by
  rw[Y6,W6 c];unfold ll;rw[List.foldl_append];rfl
 obtain⟨f,y,e,o4,o5,rfl,rfl⟩:=d7 (mi:=cy (ah 1 g BM)) (g:=iC 2 (bt (b' 4) (bt (b' 5) iB))) (b:=aW bC c4 jn)
  (σ:=[Y (aJ H),Y uc,Y um,Y (.aa h.length),O,O,O,O]) (h:=h++[MO.dT []]) (h1:=h++[MO.dT []]) (it:=lX ((eG H).map eh)) (us:=(eG H).map eh)
  (λi σ K=>∃ o4 o5,σ=[Y (aJ H),Y uc,Y um,Y (.aa h.length),o4,o5,O,O]/\K=h++[MO.dT (ll ((eG H).take i) [])])
  (λf K=>∃ o4 o5,f=.nx [Y (aJ H),Y uc,Y um,Y (.aa h.length),o4,o5,O,O]/\K=h++[MO.dT (ll (eG H) [])])
  (by simp[l]) (λi K=>rfl) (by simp;lia) ⟨O,O,rfl,rfl⟩
  (λi u σ K d q=>by
   obtain⟨o4,o5,rfl,rfl⟩:=q;rw[Xd]at d;obtain⟨x,j,rfl⟩:=XD.mp d;have c:=(W2.mp j).1;have m:(eG H)[i]=x:=(W2.mp j).2;obtain⟨r,s⟩:=Le (h:=h++[MO.dT (ll ((eG H).take i) [])]) (n:=h.length) (p:=x.1) (v:=a_ x.2) (by simp;rfl) (by have:=va ((eG H).take i) [];rw[X1]at this;simp at this;lia);have k:=a i c;rw[m]at k;refine⟨[Y (aJ H),Y uc,Y um,Y (.aa h.length),Y (aj x.1),Y (a_ x.2),O,O],h++[MO.dT (ll ((eG H).take i) [])],.nx [Y (aJ H),Y uc,Y um,Y (.aa h.length),Y (aj x.1),Y (a_ x.2),O,O],h++[MO.dT (ll ((eG H).take (i+1)) [])],by simp[eh],?_,_,_,rfl,rfl⟩;rw[k];simp[r,s])
  (λσ K q=>by
   obtain⟨o4,o5,rfl,rfl⟩:=q;rw[Xw,Y7];exact⟨o4,o5,rfl,rfl⟩)
 exact⟨o4,o5,e⟩
noncomputable def s0:Bs Str:=⟨[],0,0,[],O⟩
def xk (r:T_ M):U:=.af [.ag (r.ab.map bO),bw r.ae,.ab r.aa]
theorem EZ {w:Lm}{a4 a5:Option U} :
  (af (au (eC (aB (ag "house") aG (aB (ag "deeds") bC (aB (ag "choices") Mt (aB (ag "most") cu eD))))) (b' 6))
  (af (aW gV (ag "begun") (aq 0))
  (af (aW gV (ag "trail") dZ)
  (af (aW gV (ag "marks") qk)
  (aW gV (ag "end") bJ))))) [Y (aJ w.H),Y (.ag (w.cs.map .ab)),Y (.ab w.aa),Y (.aa w.b.length),a4,a5,O,O] (w.b++[.dT w.ds]) =
  Y (.nx [Y (aJ w.H),Y (.ag (w.cs.map .ab)),Y (.ab w.aa),Y (.aa w.b.length),a4,a5,Y (.aa (w.b.length+1)),O],SH w s0 []):=by
 have hz:∀ n:Nat,n<=8->n<sizeLine:=λn h=>by rw[XJ];lia
 rw[ab (σ':=[Y (aJ w.H),Y (.ag (w.cs.map .ab)),Y (.ab w.aa),Y (.aa w.b.length),a4,a5,Y (.aa (w.b.length+1)),O]) (h':=w.b++[.dT w.ds,.dK [(p_ "house",aJ w.H),(p_ "deeds",.aa w.b.length),(p_ "choices",.aa (w.b.length+2)),(p_ "most",.ab w.aa)],.aa (w.cs.map .ab)]) (by simp[lx,lR,et,c7])];simp[cU,eN,lR,hz,c7,qk,SH,oN,s0,cF]
end D11
namespace S
open PySem L2
variable [kf:KF]
theorem ZD {a b c:MS}{σ:bu}{h:MH}:af (af a b) c σ h=af a (af b c) σ h:=by
 unfold af;cases a σ h with
 |none=>rfl
 |some p=>
  obtain⟨d,k⟩:=p;cases d<;>rfl
end S
namespace D11
open PySem L2 S RN
variable [kf:KF][c0:Cw]
structure qZ (H:aK M)(r:T_ M):Prop where
 ev:∀ e∈r.ab,BZ H e
 ae:r.ab.length<=1001
 aa:r.aa<=5000
 ab:∀ p,r.ae=.aE p->cD H p
def Kd:MS:=
  (af (az (lq (mB (aw (d8 b_) (ao gV (ag "end")) bJ)) Mr) (af (aO (fy aL (ao gV (ag "trail")) (aa (av (aa (ag "end") iI)) ae)))
  (aW gV (ag "end") (av (aa (ag "slip") iI)))) ai)
  (af (az (mB (aw (d8 b_) (ao gV (ag "end")) bJ)) (aW gV (ag "end") (av (aa (ag "done") ae))) ai)
  (ax (av (aa (ao gV (ag "trail")) (aa (ao gV (ag "end")) (aa (ao gV (ag "begun")) ae)))))))
theorem Ke {w:Lm}{s:Bs M}{mk:List (j_×U)}{x:Option (n_ M)}{c:Nat}{a0 a1 a2 a3 a4 a5:Option U}(afh:sM w)(l:Po w s0 c (s,x) mk):∃ s',Kd [a0,a1,a2,a3,a4,a5,Y (.aa (w.b.length+1)),Y (aN x)] (SH w s mk)=Y (.rt (.af [.aa (w.b.length+3),bw (gQ (s,x)).ae,.ab (gQ (s,x)).aa]),SH w s' mk)/\s'.af=(gQ (s,x)).ab/\qZ w.H (gQ (s,x)):=by
 have g:Iv w s mk c:=l.iv;have m:s.af.length<=1000:=by have:=g.tr;have:=g.ab;have:=afh.mo;lia
 have a:s.aa<=5000:=by have:=g.ab;have:=afh.mo;lia
 have r:(x=O/\∃ f,s.ab=Y (hf f))\/(s.ab=O/\∃ y,x=Y y/\jo w.H (Y y)):=l.en;rcases r with⟨rfl,k,n⟩ | ⟨h,y,rfl,o⟩
 .have i:gQ (s,O)=⟨s.af,hf k,s.aa⟩:=by unfold gQ;dsimp only;rw[n]
  rw[i];refine⟨s,?_,rfl,g.ev,by show s.af.length<=1001;lia,a,λp e=>?_⟩
  .have z:iA (bw (hf k))=false:=by cases k<;>rfl
   simp[Kd,mO,n];simp[cF,bw]
  .cases k<;>cases e
 .have t:eN (SH w s mk) (.aa (w.b.length+1)) (.ae "end") (.af [.ae "done"])=_:=uf (f:=.ab);have j:lq (mB (aw (d8 b_) (ao gV (ag "end")) bJ)) Mr [a0,a1,a2,a3,a4,a5,Y (.aa (w.b.length+1)),Y (aH y)] (SH w s mk)=Y (tT y,SH w s mk):=by
   rw[Ox,show mB (aw (d8 b_) (ao gV (ag "end")) bJ) [a0,a1,a2,a3,a4,a5,Y (.aa (w.b.length+1)),Y (aH y)] (SH w s mk)=Y (L,SH w s mk) by simp[mO,h],WZ,W0 rfl];exact gy rfl
  have d (q:tT y=b_):gQ (s,Y y)=⟨s.af,.ab,s.aa⟩->∃ s',Kd [a0,a1,a2,a3,a4,a5,Y (.aa (w.b.length+1)),Y (aH y)] (SH w s mk)=Y (.rt (.af [.aa (w.b.length+3),bw (gQ (s,Y y)).ae,.ab (gQ (s,Y y)).aa]),SH w s' mk)/\s'.af=(gQ (s,Y y)).ab/\qZ w.H (gQ (s,Y y)):=λi=>by
   rw[i];refine⟨{s with ab:=Y .ab},?_,rfl,g.ev,by show s.af.length<=1001;lia,a,(λp e=>nomatch e)⟩;unfold Kd;rw[ab (σ':=[a0,a1,a2,a3,a4,a5,Y (.aa (w.b.length+1)),Y (aH y)]) (h':=SH w s mk) (by rw[aF j,q];rfl)];simp[mO,h,t,bw,cF]
  cases y with
  |aa=>exact d rfl (by unfold gQ;dsimp only;rw[h])
  |ab=>exact d rfl (by unfold gQ;dsimp only;rw[h])
  |ae=>exact d rfl (by unfold gQ;dsimp only;rw[h])
  |aE p=>
   have i:gQ (s,Y (.aE p))=⟨s.af++[.ab p],.aE p,s.aa⟩:=by unfold gQ;dsimp only;rw[h]
   rw[i];refine⟨{s.ah (.ab p) with ab:=Y (.aE p)},?_,rfl,λe he=>?_,by show(s.af++[_]).length<=1001;simp;lia,a,λq e=>by cases e;exact o⟩
   .have u:eN (SH w (s.ah (.ab p)) mk) (.aa (w.b.length+1)) (.ae "end") (.af [.ae "slip",aj p])=_:=uf (f:=.aE p);have v:aL (.aa (w.b.length+3)) [.af [.ae "end",aj p]] (SH w s mk)=_:=Ep (.ab p) (g.ae afh);show Kd [a0,a1,a2,a3,a4,a5,Y (.aa (w.b.length+1)),Y (aj p)] _=_;unfold Kd;rw[ab (σ':=[a0,a1,a2,a3,a4,a5,Y (.aa (w.b.length+1)),Y (aj p)]) (h':=SH w {s.ah (.ab p) with ab:=Y (.aE p)} mk) (by refine(aF j).trans ?_;rw[show tT (.aE p:n_ M)=L from rfl,W0 rfl];simp[aH,v,u])];simp[bw,cF];rfl
   .rcases XG.mp he with he | he
    .exact g.ev e he
    .simp at he;subst he;exact o
theorem zp {n:Nat}{f g:MF}(Z:120<n)(D:∀ w,sM w->gB w n f){H:aK M}(o:bV H)(N:∀ h,g [aJ H] h=Y (.ag ((eG H).map eh),h)){x:M}{d:aA M}{l:List (M×aA M)}(j:H.aa=(x,d)::l){cs:List Int}{most:Nat}(C:most<=120){h:MH} :
  ku g f [aJ H,.ag (cs.map .ab),.ab most] h=Y (xk (gQ (c9 H cs most n s0 (x,[]) d O)),h)/\qZ H (gQ (c9 H cs most n s0 (x,[]) d O)):=by
 generalize a:(⟨H,cs,most,h,ll (eG H) []⟩:Lm)=w;have afh:sM w:=by rw[<-a];exact⟨o,Nz o,vc _ _ .nil,by show most<=1000;lia⟩
 have P:Iv w s0 [] 0:=⟨Xl _,WY _,(λe Q=>nomatch Q),(λm C=>nomatch C),λm=>⟨(λz=>nomatch z),λz=>nomatch z⟩,(λm u z=>nomatch z),.nil,WY _⟩;have k:H.aa.lookup x=Y d:=by rw[j,Xf];simp
 have p:bc w.H (x,[])=Y d:=by rw[<-a];unfold bc;dsimp only;rw[k];rfl
 obtain⟨S,e,T,_⟩:=D w afh s0 (x,[]) d O [] 0 rfl P (by rw[<-a];show most<n+0;lia) p (by rw[<-a];exact o.ok.ok x d k) (λq z=>nomatch z);have c:H=w.H:=by rw[<-a]
 have t:cs=w.cs:=by rw[<-a]
 have v:most=w.aa:=by rw[<-a]
 have A:h=w.b:=by rw[<-a]
 have E:ll (eG H) []=w.ds:=by rw[<-a]
 obtain⟨F,G,I⟩:=xh (H:=H) (h:=h) (uc:=.ag (cs.map .ab)) (um:=.ab most) o (N _);rw[E,A,c,t,v]at I;have B:w.H.aa=(x,d)::l:=by rw[<-c];exact j
 rw[c,t,v,A];clear a c t v A E k j;generalize hR:c9 w.H w.cs w.aa n s0 (x,[]) d O=r at *;obtain⟨s,y⟩:=r;obtain⟨i,U,V,W⟩:=Ke (a0:=Y (aJ w.H)) (a1:=Y (.ag (w.cs.map .ab))) (a2:=Y (.ab w.aa)) (a3:=Y (.aa w.b.length)) (a4:=F) (a5:=G) afh T;refine⟨?_,W⟩;refine iy (u:=.af [.aa (w.b.length+3),bw (gQ (s,y)).ae,.ab (gQ (s,y)).aa]) (g:=[.dT w.ds,.dK (oN w i),.aa ((w.cs.drop i.ae).map .ab),.aa (i.af.map bO),.dK S]) ?_ ?_
 .refine bD ?_;show nF g f [Y (aJ w.H),Y (.ag (w.cs.map .ab)),Y (.ab w.aa),O,O,O,O,O] w.b=_;unfold nF;refine(ab (σ':=[Y (aJ w.H),Y (.ag (w.cs.map .ab)),Y (.ab w.aa),Y (.aa w.b.length),O,O,O,O]) (h':=w.b++[.dT []]) rfl).trans ((ab I).trans ?_);have X:=EZ (w:=w) (a4:=F) (a5:=G);refine Eq.trans ?_ ((ab (b:=af (au (ah 3 f (aa gV (aa (av (aa (ao (ao (ao aG (aq 2)) (aq 0)) (aq 0)) ae)) FH))) (b' 7)) Kd) X).trans ?_)
  .rw[ZD];refine congrFun (congrFun (congrArg _ ?_) _) _;funext σ K;rw[ZD];refine congrFun (congrFun (congrArg _ ?_) _) _;funext σ K;rw[ZD];refine congrFun (congrFun (congrArg _ ?_) _) _;funext σ K;rw[ZD];rfl
  .refine(ab (aC (bf (us:=[.aa (w.b.length+1),aj (x,[]),.aQ]) (h1:=SH w s0 []) ?_ rfl e))).trans U;simp[aJ,B,aj]
 .refine .aa (.aa (.xT (us:=i.af.map bO) ⋯ nofun ?_) (.aa ((pU _).af (Xl _)).ji (.aa .ae .nil)));rw[<-V];exact(y7.ab (Xl _)).ji
structure Sh (n w:Nat)(u:U)(d:G_):Prop where
 da:∀ (h:MH) (m:Nat),n<=m->aZ h m u=Y d
 sh:d.showable=L
 nd:d.hasDict=b_
 ls:d.leavesShort 13=L
 wt:d.weight<=w
 eq:F' d d=L
structure lj (n w:Nat)(us:List U)(ds:List G_):Prop where
 da:∀ (h:MH) (m:Nat),n<=m->eR (aZ h m) us=Y ds
 sh:aek ds=L
 nd:aej ds=b_
 ls:aei 13 ds=L
 wt:adB ds<=w
 eq:WK ds ds=L
theorem Sh.aa {n w a b:Nat}{u:U}{d:G_}(s:Sh n w u d)(e:n<=a)(c:w<=b):Sh a b u d:=⟨λh m k=>s.da h m ⋯,s.sh,s.nd,s.ls,Xi s.wt c,s.eq⟩
theorem Sh.ae {n:Nat}{x:M}(a:j6 x=L):Sh n 8 (.ae x) (.str x):=by
 unfold j6 at a;rw[Xn,Xn]at a;refine⟨λh m _=>mD m,by simp[aaP],by simp[aaO],?_,?_,by simp[F']⟩
 .rw[aaN,X0];intro c b;have:=X0.mp a.2 c b;simp at this;rw[decide_eq_true_iff];lia
 .rw[aaA];exact of_decide_eq_true a.1.2
theorem Sh.af {n i:Nat}(a:i<2 ^ 13):Sh n 13 (.ab (i:Nat)) (.int (i:Nat)):=by
 have b:i.log2<13:=by
  by_cases q:i=0
  .subst q;decide
  .exact(Nat.log2_lt q).mpr a
 refine⟨λh m _=>pQ m,?_,by simp[aaO],?_,?_,by simp[F']⟩
 .rw[aaP,decide_eq_true_iff];show i.log2<1920;lia
 .rw[aaN,decide_eq_true_iff];exact PyData.shown_int_le (by show i<_;lia)
 .rw[aaA];split
  .exact Xl _
  .show i.log2+1<=13;lia
theorem lj.nil {n:Nat}:lj n 0 [] []:=⟨λ_ _ _=>rfl,rfl,rfl,rfl,WY _,rfl⟩
theorem lj.aa {n w c:Nat}{u:U}{d:G_}{us:List U}{e:List G_}(a:Sh n w u d)(b:lj n c us e):lj n (w+1+c) (u::us) (d::e):=by
 refine⟨λh m k=>?_,?_,?_,?_,?_,by rw[WK,a.eq,b.eq];rfl⟩
 .show(aZ h m u).bind _=_;rw[a.da h m k];show(eR (aZ h m) us).bind _=_;rw[b.da h m k];rfl
 .rw[aek,a.sh,b.sh];rfl
 .rw[aej,a.nd,b.nd];rfl
 .rw[aei,a.ls,b.ls];rfl
 .rw[adB];have:=a.wt;have:=b.wt;lia
theorem Sh.ab {n w:Nat}{us:List U}{c:List G_}(a:lj n w us c):Sh (n+1) w (.af us) (.tuple c):=by
 refine⟨λh m k=>?_,by rw[aaP];exact a.sh,by rw[aaO];exact a.nd,by rw[aaN];exact a.ls,by rw[aaA];exact a.wt,by rw[F'];exact a.eq⟩;obtain⟨b,rfl⟩:∃ b,m=b+1:=⟨m-1,by lia⟩;show(eR (aZ h b) us).bind _=_;rw[a.da h b ⋯];rfl
theorem Sh.ag {n w:Nat}{us:List U}{c:List G_}(a:lj n w us c):Sh (n+1) w (.ag us) (.list c):=by
 refine⟨λh m k=>?_,by rw[aaP];exact a.sh,by rw[aaO];exact a.nd,by rw[aaN];exact a.ls,by rw[aaA];exact a.wt,by rw[F'];exact a.eq⟩;obtain⟨b,rfl⟩:∃ b,m=b+1:=⟨m-1,by lia⟩;show(eR (aZ h b) us).bind _=_;rw[a.da h b ⋯];rfl
theorem uk {b:Type}{n w:Nat}{f:b->U}:∀ {xs:List b},(∀ x∈xs,∃ d,Sh n w (f x) d)->∃ a,lj n (xs.length*(w+1)) (xs.map f) a
 |[],_=>⟨[],by simpa using lj.nil⟩
 |x::r,h=>by
  obtain⟨d,c⟩:=h x nofun;obtain⟨a,e⟩:=uk (xs:=r) λy g=>h y (by simp[g])
  refine⟨d::a,?_⟩;have:=lj.aa c e;rw[Xa,adh,Yz];exact this
theorem m9:∀ {l:List Nat}{d x:aA M},Sm d->N_ d l=Y x->∀ n∈l,n<1000
 |[],_,_,_,_,n,h=>by cases h
 |i::r,d,x,b,e,n,h=>by
  unfold N_ at e;cases a:(w_ d)[i]? with
  |none=>rw[a]at e;cases e
  |some y=>
   rw[a]at e;rcases Xj.mp h with rfl | h
   .have:=(W2.mp a).1;have:=b.aa;lia
   .exact m9 (b.ab (Xk a)) e n h
variable {H:aK M}
theorem iD (o:bV H){p:h_ M}(a:l6 H p):∃ d,Sh 1 180 (aj p) d:=by
 obtain⟨d,e⟩:=a;unfold bc at e;cases b:H.aa.lookup p.1 with
 |none=>rw[b]at e;cases e
 |some i=>
  rw[b]at e;have c:=YI b;have j:=jh (o.aa _ c) e;have g:=m9 (o.sm.sm _ c) e;obtain⟨k,q⟩:=uk (n:=0) (w:=13) (f:=λn:Nat=>U.ab (n:Int)) (xs:=p.2) λn h=>⟨_,Sh.af (by have:=g n h;lia)⟩
  exact⟨_,(Sh.ab (lj.aa (Sh.ae (o.ab _ c)) q)).aa (WY _) ⋯⟩
theorem hP {p:h_ M}(s:cD H p):l6 H p:=let ⟨_,e⟩:=s;⟨_,e⟩
noncomputable def cT:List Str:=["say","slip","pass","take","by","kept","lost","out","end","done","waits","long"]
theorem pW:∀ z∈cT,j6 z=true:=by decide +kernel
theorem IG (o:bV H){e:Ev M}(c:BZ H e):∃ d,Sh 2 400 (bO e) d:=by
 have k {z:M} (h:z∈cT):Sh 1 8 (.ae z) (.str z):=Sh.ae (pW z h);have f {z:M} (h:z∈cT) {p q:h_ M} (a:l6 H p) (b:l6 H q):∃ d,Sh 2 400 (.af [.ae z,aj p,aj q]) d:=by
  obtain⟨l,g⟩:=iD o a;obtain⟨r,m⟩:=iD o b;exact⟨_,(Sh.ab (lj.aa (k h) (lj.aa g (lj.aa m lj.nil)))).aa (WY _) ⋯⟩
 have j {z:M} (h:z∈cT) {p:h_ M} (a:l6 H p):∃ d,Sh 2 400 (.af [.ae z,aj p]) d:=by
  obtain⟨l,g⟩:=iD o a;exact⟨_,(Sh.ab (lj.aa (k h) (lj.aa g lj.nil))).aa (WY _) ⋯⟩
 cases e with
 |ag p x=>
  obtain⟨l,g⟩:=iD o c.1;exact⟨_,(Sh.ab (lj.aa (k (z:="say") (by simp[cT])) (lj.aa g (lj.aa (Sh.ae (o.ae x c.2)) lj.nil)))).aa (WY _) ⋯⟩
 |aE p=>exact j (by simp[cT]) c
 |af p q=>obtain⟨a,x,rfl,b⟩:=c;exact f (by simp[cT]) a (hP b)
 |take p n q=>
  obtain⟨a,s,b⟩:=c;obtain⟨l,g⟩:=iD o a;obtain⟨r,m⟩:=iD o (hP b);exact⟨_,(Sh.ab (lj.aa (k (z:="take") (by simp[cT])) (lj.aa g (lj.aa (Sh.af (i:=n) ⋯) (lj.aa m lj.nil))))).aa (WY _) ⋯⟩
 |«by» p q=>exact f (by simp[cT]) c.1 (hP c.2)
 |aa p q=>exact f (by simp[cT]) c.1 (hP c.2)
 |nO p q=>exact f (by simp[cT]) c.1 (hP c.2)
 |ae p q=>exact f (by simp[cT]) c.1 (hP c.2)
 |ab q=>exact j (by simp[cT]) (hP c)
theorem JJ (o:bV H){f:WI M}(b:∀ p,f=.aE p->cD H p):∃ d,Sh 2 400 (bw f) d:=by
 have a {z:M} (h:z∈cT):∃ d,Sh 2 400 (.af [.ae z]) d:=⟨_,(Sh.ab (lj.aa (Sh.ae (n:=1) (pW z h)) lj.nil)).aa (WY _) ⋯⟩;cases f with
 |ab=>exact a (by simp[cT])
 |cC=>exact a (by simp[cT])
 |aa=>exact a (by simp[cT])
 |aE p=>exact IG o (e:=.aE p) (hP (b p rfl))
theorem rq (o:bV H){a:T_ M}(r:qZ H a):∃ d,Sh 4 1000000 (xk a) d/\xy d=L/\∀ (h:MH) (t:Nat),h[t]?=Y (.aa (a.ab.map bO))->aZ h Dp (.af [.aa t,bw a.ae,.ab a.aa])=Y d:=by
 obtain⟨c,g⟩:=uk (n:=2) (w:=400) (f:=bO) (xs:=a.ab) λe k=>IG o (r.ev e k)
 obtain⟨v,l⟩:=JJ o r.ab;have m:=Sh.af (n:=3) (i:=a.aa) (by have:=r.aa;lia);have j:=lj.aa (l.aa (by lia:2<=3) (WY _)) (lj.aa m lj.nil);have x:=r.ae;refine⟨_,(Sh.ab (lj.aa (Sh.ag g) j)).aa (WY _) ⋯,rfl,λh t p=>?_⟩;have q:aZ h 39 (.aa t)=Y (.list c):=by
  show(match h[t]? with | some (.aa s)=>(eR (aZ h 38) s).bind λc=>Y (ach c) | _=>O)=_;rw[p];show(eR (aZ h 38) _).bind _=_;rw[g.da h 38 ⋯];rfl
 show(eR (aZ h 39) _).bind _=_;show((aZ h 39 (.aa t)).bind λb=>(eR (aZ h 39) [bw a.ae,.ab a.aa]).bind λu=>Y (b::u)).bind _=_;rw[q,WZ,j.da h 39 ⋯];rfl
theorem Bo (o:bV H){a:T_ M}(r:qZ H a):∃ z:M,(∀ h,lG [xk a] h=Y (.ae z,h))/\∀ (h:MH) (t:Nat),h[t]?=Y (.aa (a.ab.map bO))->lG [.af [.aa t,bw a.ae,.ab a.aa]] h=Y (.ae z,h):=by
 obtain⟨d,s,c,e⟩:=rq o r;have b:d.shown.length<=sizeLine:=PyData.shown_fits (B:=13) ⋯ ⋯ s.ls (by have:=s.wt;lia);refine⟨d.shown,λh=>?_,λh t f=>?_⟩
 .show(aZ h Dp (xk a)).bind _=_;rw[s.da h Dp ∅];exact W0 ⟨c,s.sh,s.nd,b⟩
 .show(aZ h Dp _).bind _=_;rw[e h t f];exact W0 ⟨c,s.sh,s.nd,b⟩
end D11
namespace D11
open PySem L2 S RN
variable [kf:KF][c0:Cw]
def B2 (f:MF)(H:aK M)(cs:List Int)(most:Nat)(a:T_ M):Prop:=∀ (h:MH) (b:U),(b=.ag (cs.map .ab)\/∃ n,b=.aa n/\h[n]?=Y (.aa (cs.map .ab)))->∃ c,f [aJ H,b,.ab most] h=Y (.af [.aa (h.length+1),bw a.ae,.ab a.aa],c)/\c[h.length+1]?=Y (.aa (a.ab.map bO))/\∀ n,n<h.length->c[n]?=h[n]?
theorem lg {H:aK M}{cs:List Int}{most:Nat}{res:T_ M}(c:f9 H)(d:qY H)(f:most<100000)(e:RN.run H cs most=Y res):B2 Yu H cs most res:=λh g i=>
 Lx (w:=⟨H,g,cs,most,h⟩) c d (i.imp id λ⟨n,a,b⟩=>⟨n,a,bA b,b⟩) f e
theorem aa_ {neg:Bool}{a b:U}{h:MH}{d:G_}(c:aZ h Dp a=Y d)(hb:aZ h Dp b=Y d)(e:F' d d=L):S.bh neg a b h=Y (.bl (!neg),h):=by
 unfold S.bh;rw[c,hb,WZ,WZ,e];cases neg<;>rfl
theorem vg:∀ cs:List Int,WK (cs.map Ze) (cs.map Ze)=L
 |[]=>rfl
 |c::r=>by rw[Xq,WK,vg r];simp[F']
theorem CG {h:MH}{cs:List Int}:aZ h Dp (.ag (cs.map .ab))=Y (.list (cs.map Ze)):=by
 show(eR (aZ h _) _).bind _=_;rw[lT];rfl
theorem EE {fr k:MF}{H:aK M}{cs:List Int}{most:Nat}{a:T_ M}{z:M}{h:MH}(afi:B2 fr H cs most a)(p:∀ h,k [aJ H,.ag (cs.map .ab),.ab most] h=Y (xk a,h))(q:∀ h,lG [xk a] h=Y (.ae z,h))(r:∀ (h:MH) (t:Nat),h[t]?=Y (.aa (a.ab.map bO))->lG [.af [.aa t,bw a.ae,.ab a.aa]] h=Y (.ae z,h)) :
  hI fr k [aJ H,.ag (cs.map .ab),.ab most] h=Y (.bl L,h):=by
 obtain⟨b,s,i,l⟩:=afi (h++[.aa (cs.map .ab)]) (.aa h.length) (.inr ⟨_,rfl,cn⟩);rw[Xv,acO]at s i l;have y:h.length+1+1<b.length:=bA i;have A:b[h.length]?=Y (.aa (cs.map .ab)):=(l _ ⋯).trans cn;obtain⟨c,j,m,v⟩:=afi (b.set (h.length+1+1) (.aa [])) (.ag (cs.map .ab)) (.inl rfl);rw[Y5]at j m v;have e:∀ n,n<h.length->c[n]?=h[n]?:=λn B=>by
  rw[v n ⋯,W9 ⋯,l n ⋯,W3 B]
 have f:h.length<=c.length:=by have:=bA m;lia
 have C:=r b _ i;have D:=r c _ m;have w:=q b;have x:=q c;generalize xk a=d at p w x;have o:S.bh L (.aa h.length) (.ag (cs.map .ab)) b=Y (.bl b_,b):=by
  rw[aa_ (neg:=L) (pR A) CG (by rw[F'];exact vg cs)];rfl
 rw[show c=h++c.drop h.length from aaa f e]at j;refine iy (u:=.bl L) (g:=c.drop h.length) ?_ .bl;refine bD ?_;show jB fr k [Y (aJ H),Y (.ag (cs.map .ab)),Y (.ab most),O,O,O] h=_;unfold jB;rw[ab (σ':=[Y (aJ H),Y (.ag (cs.map .ab)),Y (.ab most),Y (.aa h.length),O,O]) (h':=h++[.aa (cs.map .ab)]) rfl];rw[ab (σ':=[Y (aJ H),Y (.ag (cs.map .ab)),Y (.ab most),Y (.aa h.length),Y (.af [.aa (h.length+1+1),bw a.ae,.ab a.aa]),O]) (h':=b) (aC (bf rfl rfl s))];rw[ab (σ':=[Y (aJ H),Y (.ag (cs.map .ab)),Y (.ab most),Y (.aa h.length),Y (.af [.aa (h.length+1+1),bw a.ae,.ab a.aa]),Y d]) (h':=b) (aC (bf (us:=[aJ H,.ag (cs.map .ab),.ab most]) (h1:=b) rfl rfl (p b)))];rw[ab (σ':=[Y (aJ H),Y (.ag (cs.map .ab)),Y (.ab most),Y (.aa h.length),Y (.af [.aa (h.length+1+1),bw a.ae,.ab a.aa]),Y d]) (h':=b) (by simp[qU,qe,eS,C,w,o])];rw[ab (σ':=[Y (aJ H),Y (.ag (cs.map .ab)),Y (.ab most),Y (.aa h.length),Y (.af [.aa (h.length+1+1),bw a.ae,.ab a.aa]),Y d]) (h':=b.set (h.length+1+1) (.aa [])) (by simp[cg i,tm])];refine a7 ?_;rw[<-aaa f e]at j ⊢;rw[mX,qT,bI,bf (n:=3) (us:=[aJ H,.ag (cs.map .ab),.ab most]) (h1:=b.set (h.length+1+1) (.aa [])) rfl rfl j];simp[D,x]
def sI (f:MF):Prop:=∀ (h:MH) (t:Nat) (x:Int),h[t]?=Y (.aa [.ab x])->∃ (a:List Int) (y:Int),f [.aa t,.ab 40] h=Y (.ag (a.map .ab),h.set t (.aa [.ab y]))
theorem uX:sI pN:=λh t x a=>let ⟨cs,y,e,_⟩:=wX a;⟨cs,y,e⟩
def sQ (f:MF)(H:aK M):Prop:=∀ (h:MH) (b:List Int) (a:Nat),a<=120->f [aJ H,.ag (b.map .ab),.ab a] h=Y (.bl L,h)
def Rk (a fr:MF):MS:=eJ (cy (bj (aa (aq 120) (aa (ah 2 a (aa bC (aa (aq 24) ae))) (aa (aq 0) ae))))) (b' 5) (az (mP (dS (ah 3 fr Mx))) (ax fJ) ai)
theorem Kh {fr:MF}{H:aK M}{K:MH}{t:Nat}{y:Int}{cs:List Int}{a0 a2 a5:Option U}(l:sQ fr H)(o:K[t]?=Y (.aa [.ab y])) :
  ∃ o5 g,Rk ak fr [a0,Y (aJ H),a2,Y (.aa t),Y (.ag (cs.map .ab)),a5,O,O,O] K=Y (.nx [a0,Y (aJ H),a2,Y (.aa t),Y (.ag (cs.map .ab)),o5,O,O,O],K.set t (.aa [.ab (y/24)])++g):=by
 have j:=aa6 (m:=24) o ∅ ∅;obtain⟨w,z⟩:=md (x:=y) (m:=24) ∅;obtain⟨k,p⟩:∃ k:Nat,y%24=(k:Int):=⟨(y%24).toNat,by lia⟩;rw[p]at j;generalize K.set t (.aa [.ab (y/24)])=a at j ⊢;let us:List U:=[.ab ((120:Nat):Int),.ab (k:Int),.ab ((0:Nat):Int)];have s:(a++[MO.aa us])[a.length]?=Y (.aa us):=cn;have c (i:Nat):qf a.length i (a++[MO.aa us])=Y us[i]?:=by unfold qf;rw[s]
 obtain⟨f,h',e,o5,rfl,rfl⟩:=pb (mi:=cy (bj (aa (aq 120) (aa (ah 2 ak (aa bC (aa (aq 24) ae))) (aa (aq 0) ae))))) (g:=b' 5) (b:=az (mP (dS (ah 3 fr Mx))) (ax fJ) ai)
  (σ:=[a0,Y (aJ H),a2,Y (.aa t),Y (.ag (cs.map .ab)),a5,O,O,O]) (h:=K) (h1:=a++[MO.aa us]) (it:=qf a.length) 3 ⋯
  (λi σ d=>∃ o5,σ=[a0,Y (aJ H),a2,Y (.aa t),Y (.ag (cs.map .ab)),o5,O,O,O]/\d=a++[MO.aa us])
  (λf d=>∃ o5,f=.nx [a0,Y (aJ H),a2,Y (.aa t),Y (.ag (cs.map .ab)),o5,O,O,O]/\d=a++[MO.aa us])
  (by simp[j,us]) ⟨a5,rfl,rfl⟩
  (λi σ d A q=>by
   obtain⟨o5,rfl,rfl⟩:=q;obtain⟨m,u,v⟩:∃ m:Nat,m<=120/\us[i]?=Y (.ab (m:Int)):=by
    have:i=0\/i=1\/i=2:=by lia
    rcases this with rfl | rfl | rfl
    .exact⟨120,by lia,rfl⟩
    .exact⟨k,by lia,rfl⟩
    .exact⟨0,by lia,rfl⟩
   refine⟨.ab (m:Int),[a0,Y (aJ H),a2,Y (.aa t),Y (.ag (cs.map .ab)),Y (.ab (m:Int)),O,O,O],a++[MO.aa us],.nx [a0,Y (aJ H),a2,Y (.aa t),Y (.ag (cs.map .ab)),Y (.ab (m:Int)),O,O,O],a++[MO.aa us],by rw[c,v],rfl,?_,Y (.ab (m:Int)),rfl,rfl⟩;have r:=l (a++[MO.aa us]) cs m u;rw[aF (k:=b_) (h':=a++[MO.aa us])]
   .rfl
   .rw[EA,OF,bf (n:=3) (us:=[aJ H,.ag (cs.map .ab),.ab (m:Int)]) (h1:=a++[MO.aa us]) rfl rfl r];rfl)
  (λσ d q=>by
   obtain⟨o5,rfl,rfl⟩:=q;exact⟨c 3,o5,rfl,rfl⟩)
 exact⟨o5,[MO.aa us],e⟩
def TB (a b c fr:MF):MS:=eJ (rS (aa (aq 6) (aa (eB qo (aa (aq 8) (aa (eB t9 (aa (aq 12) Mw)) ae))) ae))) (b' 2) (af (au (ah 2 a FK) (b' 3))
  (af (au (ah 2 b (aa bC (aa (aq 40) ae))) (b' 4)) (Rk c fr)))
theorem Ki {ft fc fr:MF}{ns:List Int}{H:aK M}{h:MH}(mt:pI ns ft)(mc:sI fc)(mr:sQ fr H) :
  ∃ o2 o3 o4 o5 g,TB ft fc ak fr [Y (.dM (ns.map .ab)),Y (aJ H),O,O,O,O,O,O,O] h=Y (.nx [Y (.dM (ns.map .ab)),Y (aJ H),o2,o3,o4,o5,O,O,O],h++g):=by
 obtain⟨n,Wq,hn⟩:∃ n:Nat,n<=6/\((if (if (ns.length:Int)<12 then(ns.length:Int) else 12)>8 then(if (ns.length:Int)<12 then(ns.length:Int) else 12) else 8)-6).toNat=n:=⟨_,by split<;>(try split)<;>lia,rfl⟩;have hb:(-(2 ^ 62):Int)<=(if (if (ns.length:Int)<12 then(ns.length:Int) else 12)>8 then(if (ns.length:Int)<12 then(ns.length:Int) else 12) else 8)/\(if (if (ns.length:Int)<12 then(ns.length:Int) else 12)>8 then(if (ns.length:Int)<12 then(ns.length:Int) else 12) else 8)<2 ^ 62:=by
  constructor<;>(split<;>(try split)<;>lia)
 obtain⟨f,h',e,o2,o3,o4,o5,g,rfl,rfl⟩:=pb (mi:=rS (aa (aq 6) (aa (eB qo (aa (aq 8) (aa (eB t9 (aa (aq 12) Mw)) ae))) ae))) (g:=b' 2)
  (b:=(af (au (ah 2 ft FK) (b' 3)) (af (au (ah 2 fc (aa bC (aa (aq 40) ae))) (b' 4)) (Rk ak fr))))
  (σ:=[Y (.dM (ns.map .ab)),Y (aJ H),O,O,O,O,O,O,O]) (h:=h) (h1:=h) (it:=Q_ 6 n) n ⋯
  (λ_ σ H'=>∃ o2 o3 o4 o5 g,σ=[Y (.dM (ns.map .ab)),Y (aJ H),o2,o3,o4,o5,O,O,O]/\H'=h++g)
  (λf H'=>∃ o2 o3 o4 o5 g,f=.nx [Y (.dM (ns.map .ab)),Y (aJ H),o2,o3,o4,o5,O,O,O]/\H'=h++g)
  (by
   unfold rS;simp only[bI,BW,qT,c8,eP,Xm,WZ,Lo,OB,OA,Xw];rw[W0 ⟨by lia,by lia,hb.1,hb.2⟩,hn])
  ⟨O,O,O,O,[],rfl,by rw[XF]⟩
  (λi σ H' hi q=>by
   obtain⟨o2,o3,o4,o5,g,rfl,rfl⟩:=q;obtain⟨x,ex⟩:=mt (h++g) (6+i) ⋯;have g1:((h++g)++([.aa [.ab x]]:MH))[(h++g).length]?=Y (.aa [.ab x]):=cn;obtain⟨cs,y,ec⟩:=mc _ _ _ g1;have g2:=Ya (p:=.aa [.ab y]) g1;obtain⟨TF,g',el⟩:=Kh (cs:=cs) (a0:=Y (.dM (ns.map .ab))) (a2:=Y (.ab (6+(i:Int)))) (a5:=o5) mr g2;have hh:(((h++g)++([.aa [.ab x]]:MH)).set (h++g).length (.aa [.ab y])).set (h++g).length (.aa [.ab (y/24)])++g'=h++(g++.aa [.ab (y/24)]::g'):=by
    rw[abv,ac2 _ _ (WY _)];simp
   rw[hh]at el;refine⟨.ab (6+(i:Int)),[Y (.dM (ns.map .ab)),Y (aJ H),Y (.ab (6+(i:Int))),o3,o4,o5,O,O,O],h++g,.nx [Y (.dM (ns.map .ab)),Y (aJ H),Y (.ab (6+(i:Int))),Y (.aa (h++g).length),Y (.ag (cs.map .ab)),TF,O,O,O],h++(g++.aa [.ab (y/24)]::g'),?_,rfl,?_,_,_,_,_,_,rfl,rfl⟩
   .unfold Q_;rw[W0 hi]
   .refine(ab (aC (bf (us:=[.dM (ns.map .ab),.ab ((6+i:Nat):Int)]) (h1:=h++g) nofun rfl ex))).trans ?_;exact(ab (aC (bf (us:=[.aa (h++g).length,.ab 40]) (h1:=(h++g)++([.aa [.ab x]]:MH)) rfl rfl ec))).trans el)
  (λσ H' q=>by
   obtain⟨o2,o3,o4,o5,g,rfl,rfl⟩:=q;refine⟨?_,o2,o3,o4,o5,g,rfl,rfl⟩;unfold Q_;rw[W5 ⋯])
 exact⟨o2,o3,o4,o5,g,e⟩
def X9 (f:MF)(b:U)(us:List U)(m:Int)(ts:List U)(fn:U)(k:Int):Prop:=
 (∀ (h:MH) (n:Nat),h[n]?=Y (.aa us)->∃ a t,f [b,.aa n,.ab m] h=Y (.af [.aa t,fn,.ab k],a)/\a[t]?=Y (.aa ts)/\h.length<=a.length/\∀ j,j<h.length->a[j]?=h[j]?)/\
 ∃ d,F' d d=L/\∀ (h:MH) (t:Nat),h[t]?=Y (.aa ts)->aZ h Dp (.af [.aa t,fn,.ab k])=Y d
theorem wZ {f:MF}{i fn:U}{us ts:List U}{m k:Int}{neg:Bool}{ar:MA}{r:ME}{σ:bu}{K K1:MH}{n:Nat}(F:X9 f i us m ts fn k)(p:ar σ K=Y ([i,.aa n,.ab m],K1))(q:K1[n]?=Y (.aa us))
  (s:∀ g,∃ u a,r σ (K1++g)=Y (.af [.aa u,fn,.ab k],K1++g++a)/\(K1++g++a)[u]?=Y (.aa ts)):∃ g,aw (S.bh neg) (ah 3 f ar) r σ K=Y (.bl (!neg),K1++g):=by
 obtain⟨v,d,w,j⟩:=F;obtain⟨x,t,e,b,y,c⟩:=v K1 n q;rw[aaa y c]at e b;generalize x.drop K1.length=g at e b;obtain⟨u,a,l,o⟩:=s g;refine⟨g++a,?_⟩;rw[mX,bf (n:=3) p rfl e,WZ,l,WZ];rw[XO]at l o ⊢;have h:(K1++(g++a))[t]?=Y (.aa ts):=by rw[<-XO,W3 (bA b)];exact b
 exact aa_ (j _ _ h) (j _ _ o) w
theorem vh {x:U}:∀ N:Nat,(B' N [x]).flatten=B' N x
 |0=>rfl
 |N+1=>by rw[XT,Y4,vh N];rfl
theorem yf {N:Nat}{k:Int}{a:ME}{u:U}{σ:bu}{K:MH}(b:k.toNat=N)(c:0<=k)(h1:k<=1000)(e:a σ K=Y (u,K)):aw oV (bj (aa a ae)) (aq k) σ K=Y (.aa (K.length+1),K++[.aa [u]]++[.aa (B' N u)]):=by
 rw[mX,vR,bI,e,WZ,eP,WZ,WZ];dsimp only;rw[W0 (sz (show[u].length<=1000 by simp)),WZ,Lr,WZ];show(b7 _ _).bind _=_;rw[cg cn,WZ,W0 ⟨by lia,by lia,by rw[XJ];show 1*k.toNat<=_;lia⟩,b,vh];simp
theorem sU {us ws:List U}{i j:Nat}{K:MH}(a:K[i]?=Y (.aa us))(b:K[j]?=Y (.aa ws))(hz:us.length+ws.length<=1000000):aI (.aa i) (.aa j) K=Y (.aa K.length,K++[.aa (us++ws)]):=
 qu (fU a) (fU b) hz (λ_ z=>nomatch z) (λ_ z=>nomatch z) (λ_ z=>nomatch z)
theorem t7 {a:ME}{u:U}{σ:bu}{K:MH}(e:a σ K=Y (u,K)):bj (aa a ae) σ K=Y (.aa K.length,K++[.aa [u]]):=by simp[e]
theorem mM {K g:MH}{i:Nat}{o:MO}(e:K[i]?=Y o):(K++g)[i]?=Y o:=(W3 (bA e)).trans e
noncomputable def aU:U:=.ae "a"
def gR:U:=.af [aU,.ab 1]
def zN:U:=.af [.ae "slip",gR]
def zx:U:=.af [.ae "out",.af [aU,.ab 0],gR]
def FP:U:=.af [.ae "end",gR]
def tV:U:=.af [.af [aU,.ae ""]]
def qH (d:U):U:=.af [tV,.af [],.af [.af [aU,d]]]
def dP:U:=.af [.ae "pick",.af [.ae "call",aU],.af [.ae "slip",aU]]
def dC:U:=.af [.ae "call",aU]
noncomputable def dA:U:=.af [.ae "again",.af [.ae "row"]]
def Rl (f:MF):MS:=
  (af (au (av (aa (av (aa (ag "a") (aa (ag "") ae))) ae)) (b' 6))
  (af (au (av (aa (ag "a") (aa (aq 1) ae))) (b' 7))
  (af (au (aw aI (aw aI (bj (aa (av (aa (ag "slip") iI)) ae)) (aw oV (bj (aa (av (aa (ag "out") (aa (av (aa (ag "a") (aa (aq 0) ae))) iI))) ae)) (aq 900))) (bj (aa (av (aa (ag "end") iI)) ae))) (b' 8))
  (af (au (av (aa gV (aa qW (aa (av (aa (av (aa (ag "a") (aa (av (aa (ag "pick") (aa (av (aa (ag "call") (aa (ag "a") ae))) (aa (av (aa (ag "slip") (aa (ag "a") ae))) ae)))) ae))) ae)) ae)))) (b' 1))
  (af (az (mB (aw (S.bh L) (ah 3 f (aa aR (aa (aw aI (aw oV (bj (aa (aq 0) ae)) (aq 900)) (bj (aa (aq 1) ae))) (aa (aq 5000) ae)))) (av (aa lY (aa (av (aa (ag "slip") iI)) (aa (aq 1802) ae)))))) (ax fJ) ai)
  (af (az (mB (aw (S.bh L) (ah 3 f (aa (av (aa gV (aa qW (aa (av (aa (av (aa (ag "a") (aa (av (aa (ag "call") (aa (ag "a") ae))) ae))) ae)) ae)))) (aa dZ (aa (aq 5000) ae)))) (av (aa dZ (aa (av (aa (ag "long") ae)) (aa (aq 5000) ae)))))) (ax fJ) ai)
  (ax (aw (S.bh b_) (ah 3 f (aa (av (aa gV (aa qW (aa (av (aa (av (aa (ag "a") (aa (av (aa (ag "again") (aa (av (aa (ag "row") ae)) ae))) ae))) ae)) ae)))) (aa (aw oV (bj (aa (aq 1) ae)) (aq 900)) (aa (aq 5000) ae)))) (av (aa dZ (aa (av (aa (ag "waits") ae)) (aa (aq 901) ae))))))))))))
theorem Kj {f:MF}{N:Nat}{a0 a1 a2 a3 a4 a5:Option U}{K:MH}(hN:(900:Int).toNat=N)
  (F1:X9 f (qH dP) (B' N (.ab 0)++[.ab 1]) 5000 ([zN]++List.replicate N zx++[FP]) (.af [.ae "slip",gR]) 1802)
  (F2:X9 f (qH dC) [] 5000 [] (.af [.ae "long"]) 5000)
  (F3:X9 f (qH dA) (B' N (.ab 1)) 5000 [] (.af [.ae "waits"]) 901):∃ g,Rl f [a0,a1,a2,a3,a4,a5,O,O,O] K=Y (.rt (.bl L),K++g):=by
 have Wi:N<=1000:=by lia
 have l1:=t7 (a:=av (aa (ag "slip") iI)) (u:=zN) (σ:=[a0,a1,a2,a3,a4,a5,Y tV,Y gR,O]) (K:=K) (by simp;rfl);generalize S3:K++[MO.aa [zN]]=K1 at l1;have l2:=yf (a:=av (aa (ag "out") (aa (av (aa (ag "a") (aa (aq 0) ae))) iI))) (u:=zx) (σ:=[a0,a1,a2,a3,a4,a5,Y tV,Y gR,O]) (K:=K1) hN ∅ ∅ (by simp;rfl);have g1:K1[K.length]?=Y (.aa [zN]):=by rw[<-S3];exact cn
 generalize QM:K1++[MO.aa [zx]]++[MO.aa (B' N zx)]=K2 at l2;have g2:K2[K1.length+1]?=Y (.aa (B' N zx)):=by rw[<-QM];simp
 have UN:K2[K.length]?=Y (.aa [zN]):=by rw[<-QM];exact mM (mM g1)
 have l3:=sU UN g2 (by simp;lia);have p2:∃ g,K2=K++g:=⟨_,by rw[<-QM,<-S3,XO,XO]⟩;have g3:(K2++[MO.aa ([zN]++List.replicate N zx)])[K2.length]?=Y (.aa ([zN]++List.replicate N zx)):=cn;generalize UR:K2++[MO.aa ([zN]++List.replicate N zx)]=K3 at l3 g3;have l4:=t7 (a:=av (aa (ag "end") iI)) (u:=FP) (σ:=[a0,a1,a2,a3,a4,a5,Y tV,Y gR,O]) (K:=K3) (by simp;rfl);have l5:=sU (K:=K3++[MO.aa [FP]]) (mM g3) cn (by simp;lia);generalize US:K3++[MO.aa [FP]]=K4 at l4 l5;have g5:(K4++[MO.aa ([zN]++List.replicate N zx++[FP])])[K4.length]?=Y (.aa ([zN]++List.replicate N zx++[FP])):=cn;generalize UT:K4++[MO.aa ([zN]++List.replicate N zx++[FP])]=K5 at l5 g5;have p5:∃ g,K5=K++g:=by obtain⟨g,hg⟩:=p2;exact⟨_,by rw[<-UT,<-US,<-UR,hg,XO,XO,XO]⟩
 have s3:au (aw aI (aw aI (bj (aa (av (aa (ag "slip") iI)) ae)) (aw oV (bj (aa (av (aa (ag "out") (aa (av (aa (ag "a") (aa (aq 0) ae))) iI))) ae)) (aq 900))) (bj (aa (av (aa (ag "end") iI)) ae))) (b' 8) [a0,a1,a2,a3,a4,a5,Y tV,Y gR,O] K=Y (.nx [a0,a1,a2,a3,a4,a5,Y tV,Y gR,Y (.aa K4.length)],K5):=by
  refine aC ?_;rw[mX,mX,l1,WZ,l2,WZ,l3,WZ,l4,WZ,l5]
 have m1:=yf (a:=aq 0) (u:=.ab 0) (σ:=[a0,Y (qH dP),a2,a3,a4,a5,Y tV,Y gR,Y (.aa K4.length)]) (K:=K5) hN ∅ ∅ rfl;generalize QN:K5++[MO.aa [.ab 0]]++[MO.aa (B' N (.ab 0))]=K6 at m1;have g6:K6[K5.length+1]?=Y (.aa (B' N (.ab 0))):=by rw[<-QN];simp
 have UO:K6[K4.length]?=Y (.aa ([zN]++List.replicate N zx++[FP])):=by rw[<-QN];exact mM (mM g5)
 have m2:=t7 (a:=aq 1) (u:=.ab 1) (σ:=[a0,Y (qH dP),a2,a3,a4,a5,Y tV,Y gR,Y (.aa K4.length)]) (K:=K6) rfl;have m3:=sU (K:=K6++[MO.aa [.ab 1]]) (mM g6) cn (by simp;lia);obtain⟨ga,ea⟩:=wZ (neg:=L) (ar:=aa aR (aa (aw aI (aw oV (bj (aa (aq 0) ae)) (aq 900)) (bj (aa (aq 1) ae))) (aa (aq 5000) ae))) (r:=av (aa lY (aa (av (aa (ag "slip") iI)) (aa (aq 1802) ae)))) (σ:=[a0,Y (qH dP),a2,a3,a4,a5,Y tV,Y gR,Y (.aa K4.length)]) (K:=K5) (K1:=K6++[MO.aa [.ab 1]]++[MO.aa (B' N (.ab 0)++[.ab 1])]) F1
  (by rw[bI,show aR [a0,Y (qH dP),a2,a3,a4,a5,Y tV,Y gR,Y (.aa K4.length)] K5=Y (qH dP,K5) from rfl,WZ,bI,mX,m1,WZ,m2,WZ,m3];rfl) cn
  (λg=>⟨K4.length,[],by rw[XF];simp,by rw[XF];exact mM (mM (mM UO))⟩)
 have pa:∃ g,K6++[MO.aa [.ab 1]]++[MO.aa (B' N (.ab 0)++[.ab 1])]++ga=K++g:=by obtain⟨g,hg⟩:=p5;exact⟨_,by rw[<-QN,hg];simp only[XO];rfl⟩
 generalize K6++[MO.aa [.ab 1]]++[MO.aa (B' N (.ab 0)++[.ab 1])]++ga=H1 at ea pa;obtain⟨gb,eb⟩:=wZ (neg:=L) (ar:=aa (av (aa gV (aa qW (aa (av (aa (av (aa (ag "a") (aa (av (aa (ag "call") (aa (ag "a") ae))) ae))) ae)) ae)))) (aa dZ (aa (aq 5000) ae))) (r:=av (aa dZ (aa (av (aa (ag "long") ae)) (aa (aq 5000) ae)))) (σ:=[a0,Y (qH dP),a2,a3,a4,a5,Y tV,Y gR,Y (.aa K4.length)]) (K:=H1) (K1:=H1++[MO.aa []]) F2
  (by simp;rfl) cn (λg=>⟨(H1++[MO.aa []]++g).length,[.aa []],by simp,cn⟩)
 generalize UQ:H1++[MO.aa []]++gb=H2 at eb;have m4:=yf (a:=aq 1) (u:=.ab 1) (σ:=[a0,Y (qH dP),a2,a3,a4,a5,Y tV,Y gR,Y (.aa K4.length)]) (K:=H2) hN ∅ ∅ rfl;obtain⟨gc,ec⟩:=wZ (neg:=b_) (ar:=aa (av (aa gV (aa qW (aa (av (aa (av (aa (ag "a") (aa (av (aa (ag "again") (aa (av (aa (ag "row") ae)) ae))) ae))) ae)) ae)))) (aa (aw oV (bj (aa (aq 1) ae)) (aq 900)) (aa (aq 5000) ae))) (r:=av (aa dZ (aa (av (aa (ag "waits") ae)) (aa (aq 901) ae)))) (σ:=[a0,Y (qH dP),a2,a3,a4,a5,Y tV,Y gR,Y (.aa K4.length)]) (K:=H2) (K1:=H2++[MO.aa [.ab 1]]++[MO.aa (B' N (.ab 1))]) (n:=H2.length+1) F3
  (by rw[bI,show av (aa gV (aa qW (aa (av (aa (av (aa (ag "a") (aa (av (aa (ag "again") (aa (av (aa (ag "row") ae)) ae))) ae))) ae)) ae))) [a0,Y (qH dP),a2,a3,a4,a5,Y tV,Y gR,Y (.aa K4.length)] H2=Y (qH dA,H2) by simp;rfl,WZ,bI,m4];rfl) nofun (λg=>⟨(H2++[MO.aa [.ab 1]]++[MO.aa (B' N (.ab 1))]++g).length,[.aa []],by simp,cn⟩)
 obtain⟨g,hg⟩:=pa;refine⟨g++[MO.aa []]++gb++[MO.aa [.ab 1]]++[MO.aa (B' N (.ab 1))]++gc,?_⟩;unfold Rl;refine(ab (σ':=[a0,a1,a2,a3,a4,a5,Y tV,O,O]) (h':=K) (by simp;rfl)).trans ((ab (σ':=[a0,a1,a2,a3,a4,a5,Y tV,Y gR,O]) (h':=K) (by simp;rfl)).trans ((ab s3).trans ((ab (σ':=[a0,Y (qH dP),a2,a3,a4,a5,Y tV,Y gR,Y (.aa K4.length)]) (h':=K5) (by simp;rfl)).trans ((ab (σ':=[a0,Y (qH dP),a2,a3,a4,a5,Y tV,Y gR,Y (.aa K4.length)]) (h':=H1) ?_).trans ((ab (σ':=[a0,Y (qH dP),a2,a3,a4,a5,Y tV,Y gR,Y (.aa K4.length)]) (h':=H2) ?_).trans (a7 ?_))))))
 .rw[aF (k:=b_) (h':=H1) (by rw[TJ,ea];rfl)];rfl
 .rw[aF (k:=b_) (h':=H2) (by rw[TJ,eb];rfl)];rfl
 .rw[ec,<-UQ,hg];simp
end D11
namespace RN
variable {S:Type}[DecidableEq S]{most:Nat}
noncomputable def fi (a z:S):aK S:=⟨[(a,z)],[],[(a,.ag [.ae a,.aE a])],[]⟩
theorem JB {a z:S}{N:Nat}:∀ (j n:Nat) (s:Bs S),s.ae+j=N->s.aa+2*(j+1)<=most->2*(j+1)<=n->
  c9 (fi a z) (B' N 0++[1]) most n s (a,[]) (.ag [.ae a,.aE a]) O=({s with ae:=N+1,aa:=s.aa+2*(j+1),af:=s.af++(.aE (a,[1])::B' j (.ae (a,[0]) (a,[1])))},Y (.aE (a,[1]))):=by
 intro j
 induction j with
 |zero=>
  intro n s d f g;obtain⟨n,rfl⟩:∃ k,n=k+2:=⟨n-2,by lia⟩;have b:(B' N (0:Int)++[1])[s.ae]?=Y 1:=by
   have e:s.ae=N:=by lia
   rw[e,Xz (by rw[aah];exact WY _),aah,adg];rfl
  unfold c9 eZ;rw[W5 ⋯];dsimp only;rw[b];dsimp only;rw[show((1:Int)%(([aA.ae a,aA.aE a].length:Nat):Int)).toNat=1 from rfl];show c9 (fi a z) _ most (n+1) _ (l_ (a,[]) 1) (.aE a) O=_;unfold c9 eZ;rw[W5 (by show ¬ most<=s.aa+1;lia)];show _=_;have:s.ae=N:=by lia
  simp[Bs.ah,l_,this]
 |succ j c=>
  intro n s d f g;obtain⟨n,rfl⟩:∃ k,n=k+2:=⟨n-2,by lia⟩;have b:(B' N (0:Int)++[1])[s.ae]?=Y 0:=by
   rw[W3 (by rw[aah];lia),aam,W0 ⋯]
  have h:=c n {s with ae:=s.ae+1,aa:=s.aa+1+1} (by show s.ae+1+j=N;lia) (by show s.aa+1+1+2*(j+1)<=most;lia) ⋯;unfold c9 eZ;rw[W5 ⋯];dsimp only;rw[b];dsimp only;rw[show((0:Int)%(([aA.ae a,aA.aE a].length:Nat):Int)).toNat=0 from rfl];show c9 (fi a z) _ most (n+1) _ (l_ (a,[]) 0) (.ae a) O=_;unfold c9 eZ;rw[W5 (by show ¬ most<=s.aa+1;lia)];dsimp only;rw[show(fi a z).aa.lookup a=Y (.ag [.ae a,.aE a]) from by unfold fi;simp[Xf]];dsimp only;rw[h];dsimp only;simp[Bs.ah,l_,List.replicate_succ'];lia
noncomputable def jI (a z:S):aK S:=⟨[(a,z)],[],[(a,.ae a)],[]⟩
theorem CB {a z:S}{cs:List Int}:∀ (n:Nat) (s:Bs S) (p:h_ S),s.ab=O->s.aa<=most->most<n+s.aa->c9 (jI a z) cs most n s p (.ae a) O=({s with aa:=most,ab:=Y .aa},O)
 |0,s,p,b,c,d=>by lia
 |n+1,s,p,b,c,d=>by
  unfold c9 eZ;by_cases q:most<=s.aa
  .rw[W0 q];have:s.aa=most:=by lia
   rw[this]
  .rw[W5 q];dsimp only;rw[show(jI a z).aa.lookup a=Y (.ae a) from by unfold jI;simp[Xf]];dsimp only;rw[CB n {s with aa:=s.aa+1} (a,[]) b (by show s.aa+1<=most;lia) (by show most<n+(s.aa+1);lia)]
theorem Jq {H:aK S}{N n:Nat}{p:h_ S}:∀ (j c:Nat) (s:Bs S),s.ae+j=N->s.aa+j<=most->j<c->1<=n->
  sV (λs=>c9 H (B' N 1) most n s (l_ p 0) (.ah []) O) (B' N 1) c s=({s with ae:=N,aa:=s.aa+j,ab:=Y .cC},O):=by
 intro j
 induction j with
 |zero=>
  intro c s b f g a;obtain⟨c,rfl⟩:∃ k,c=k+1:=⟨c-1,by lia⟩;unfold sV;have e:s.ae=N:=by lia
  rw[show(B' N (1:Int))[s.ae]?=O from by rw[aam,W5 ⋯]];simp[e]
 |succ j h=>
  intro c s b f g a;obtain⟨c,rfl⟩:∃ k,c=k+1:=⟨c-1,by lia⟩;unfold sV;rw[show(B' N (1:Int))[s.ae]?=Y 1 from by rw[aam,W0 ⋯]];dsimp only;rw[W5 ∅];obtain⟨n,rfl⟩:∃ m,n=m+1:=⟨n-1,by lia⟩;have d:c9 H (B' N 1) most (n+1) {s with ae:=s.ae+1} (l_ p 0) (.ah []) O=({s with ae:=s.ae+1,aa:=s.aa+1},Y .aa):=by
   unfold c9 eZ;rw[W5 (by show ¬ most<=s.aa;lia)];rfl
  rw[d];dsimp only;rw[h c {s with ae:=s.ae+1,aa:=s.aa+1} (by show s.ae+1+j=N;lia) (by show s.aa+1+j<=most;lia) ⋯ a];simp;lia
end RN
namespace RN
variable {S:Type}[DecidableEq S]
theorem rK {a z:S}:f9 (fi a z):=⟨(λh=>nomatch h),λr d h=>by
 unfold fi at h;rw[Xf]at h;by_cases e:r=a
 .subst e;simp at h;subst h;exact .ae (.inl rfl) λd b=>by
   simp at b;rcases b with rfl | rfl
   .exact .ab (d:=.ag [.ae r,.aE r]) (by unfold fi;simp[Xf])
   .exact .aE
 .rw[XE.mpr e]at h;cases h⟩
theorem rJ {a z:S}:f9 (jI a z):=⟨(λh=>nomatch h),λr d h=>by
 unfold jI at h;rw[Xf]at h;by_cases e:r=a
 .subst e;simp at h;subst h;exact .ab (d:=.ae r) (by unfold jI;simp[Xf])
 .rw[XE.mpr e]at h;cases h⟩
noncomputable def tS (a z:S):aK S:=⟨[(a,z)],[],[(a,.ab (.ah []))],[]⟩
theorem rH {a z:S}:f9 (tS a z):=⟨(λh=>nomatch h),λr d h=>by
 unfold tS at h;rw[Xf]at h;by_cases e:r=a
 .subst e;simp at h;subst h;exact .aa (.ah λd b=>nomatch b)
 .rw[XE.mpr e]at h;cases h⟩
theorem OJ {a z:S}:run (fi a z) (B' 900 0++[1]) 5000=Y ⟨.aE (a,[1])::B' 900 (.ae (a,[0]) (a,[1]))++[.ab (a,[1])],.aE (a,[1]),1802⟩:=by
 rw[uj (n:=5000+1) ∅ rK rfl,JB 900 (5000+1) ⟨[],0,0,[],O⟩ rfl (by show 0+2*(900+1)<=5000;decide) ∅];rfl
theorem OI {a z:S}:run (jI a z) [] 5000=Y ⟨[],.aa,5000⟩:=by
 rw[uj (n:=5000+1) ∅ rJ rfl,CB (5000+1) ⟨[],0,0,[],O⟩ _ rfl (by show 0<=5000;decide) (by show 5000<5000+1+0;decide)];rfl
theorem OH {a z:S}:run (tS a z) (B' 900 1) 5000=Y ⟨[],.cC,901⟩:=by
 rw[uj (n:=5000+1) ∅ rH rfl];unfold c9 eZ;rw[W5 (by show ¬ 5000<=0;decide)];dsimp only;rw[Jq 900 (5000+1) ⟨[],0,0+1,[],O⟩ rfl (by show 0+1+900<=5000;decide) ∅ ∅];rfl
end RN
namespace D11
open PySem L2 S RN
variable [kf:KF][c0:Cw]
theorem xn {f:MF}{H:aK M}{cs:List Int}{most:Nat}{a:T_ M}(afi:B2 f H cs most a)(o:bV H)(r:qZ H a):X9 f (aJ H) (cs.map .ab) most (a.ab.map bO) (bw a.ae) a.aa:=by
 obtain⟨d,s,_,e⟩:=rq o r;refine⟨λh n c=>?_,d,s.eq,e⟩;obtain⟨g,i,b,j⟩:=afi h (.aa n) (.inr ⟨n,rfl,c⟩);exact⟨g,_,i,b,by have:=bA b;lia,j⟩
theorem xV {d:aA M}(e:f9 (⟨[("a","")],[],[("a",d)],[]⟩:aK M))(f:Sm d)(dp:yD 13 d)(c:wl 13 d<=1000):bV (⟨[("a","")],[],[("a",d)],[]⟩:aK M):=by
 have a:∀ r∈[(("a":M),d)],r=(("a":M),d):=λr b=>by simpa using b
 exact⟨e,⟨by show 1<1000;decide,by show 0<1000;decide,by show 1<1000;decide,by simp,λr b=>by rw[a r b];exact f,λr b=>by rw[a r b];exact dp.aa ⋯⟩,λr b=>by rw[a r b];exact dp,λr b=>by rw[a r b];show j6 "a" = L;decide +kernel,(λw c=>nomatch c),λr b=>by rw[a r b];exact c⟩
theorem pq {d:aA M}(h:w_ d=[]):Sm d:=.mk (by rw[h];decide) (by rw[h];intro e a;cases a)
theorem pk {d:aA M}{n:Nat}(h:w_ d=[]):yD (n+1) d:=.mk (by rw[h];intro e a;cases a)
theorem oP:bV (fi "a" "":aK M):=by
 refine xV rK (.mk ∅ λe he=>?_) (.mk λe he=>?_) ∅
 .rcases Xj.mp he with rfl | he
  .exact pq rfl
  .rcases Xj.mp he with rfl | he
   .exact pq rfl
   .cases he
 .rcases Xj.mp he with rfl | he
  .exact pk rfl
  .rcases Xj.mp he with rfl | he
   .exact pk rfl
   .cases he
theorem oC:bV (jI "a" "":aK M):=xV rJ (pq rfl) (pk rfl) ∅
theorem oA:bV (tS "a" "":aK M):=by
 refine xV rH (.mk ∅ λe he=>?_) (.mk λe he=>?_) ∅
 .rcases Xj.mp he with rfl | he
  .exact pq rfl
  .cases he
 .rcases Xj.mp he with rfl | he
  .exact pk rfl
  .cases he
theorem QI:X9 Yu (qH dP) (B' 900 (.ab 0)++[.ab 1]) 5000 ([zN]++List.replicate 900 zx++[FP]) (.af [.ae "slip",gR]) 1802:=by
 have b:bc (fi "a" "":aK M) ("a",[1])=Y (.aE "a"):=by simp[bc,fi,N_,w_]
 have c:bc (fi "a" "":aK M) ("a",[0])=Y (.ae "a"):=by simp[bc,fi,N_,w_]
 have F:=xn (lg oP.ok oP.sm ∅ (OJ (a:=("a":M)) (z:=""))) oP ⟨λe he=>?_,by simp[-List.reduceReplicate],by show 1802<=5000;decide,λp z=>by cases z;exact⟨_,b⟩⟩
 .dsimp only at F;simp only[XS,Xq,abt,aai,-List.reduceReplicate]at F;exact F
 .rcases XG.mp he with he | he
  .rcases Xj.mp he with rfl | he
   .exact⟨_,b⟩
   .rw[acR he];exact⟨⟨_,c⟩,⟨_,b⟩⟩
  .simp at he;subst he;exact⟨_,b⟩
theorem fixC:X9 Yu (qH dC) [] 5000 [] (.af [.ae "long"]) 5000:=
 xn (lg oC.ok oC.sm ∅ (OI (a:=("a":M)) (z:=""))) oC ⟨(λe b=>nomatch b),by decide,by decide,(λp z=>nomatch z)⟩
theorem QH:X9 Yu (qH dA) (B' 900 (.ab 1)) 5000 [] (.af [.ae "waits"]) 901:=by
 have F:=xn (lg oA.ok oA.sm ∅ (OH (a:=("a":M)) (z:=""))) oA ⟨(λe b=>nomatch b),by decide,by show 901<=5000;decide,(λp z=>nomatch z)⟩;rw[abt]at F;exact F
theorem yh {n:Nat}{f g:MF}(hn:120<n)(D:∀ w,sM w->gB w n f){H:aK M}(o:bV H)(ha:∀ h,g [aJ H] h=Y (.ag ((eG H).map eh),h)):sQ (hI Yu (ku g f)) H:=λh cs most hm=>by
 cases hr:H.aa with
 |nil=>exact absurd hr o.ok.ne
 |cons x l=>
  obtain⟨x,d⟩:=x;obtain⟨_,ro⟩:=zp hn D o ha hr (cs:=cs) (h:=h) hm;obtain⟨z,z1,z2⟩:=Bo o ro;exact EE (lg o.ok o.sm ⋯ (uj ⋯ o.ok hr)) (λh=>(zp hn D o ha hr hm).1) z1 z2
theorem Gz {a b c d fr e:MF}:B6 a b c d fr e=af (au (ah 2 a (aa aG (aa (aq 0) ae))) (b' 1)) (af (TB b c d fr) (Rl e)):=rfl
theorem Ka {b c d fr a:MF}{ns:List Int}{h:MH}{H:aK M}(f:b [.dM (ns.map .ab),.ab 0] h=Y (aJ H,h))(i:pI ns c)(j:sI d)(k:sQ fr H)
  {N:Nat} (l:(900:Int).toNat=N)
  (m:X9 a (qH dP) (B' N (.ab 0)++[.ab 1]) 5000 ([zN]++List.replicate N zx++[FP]) (.af [.ae "slip",gR]) 1802)
  (n:X9 a (qH dC) [] 5000 [] (.af [.ae "long"]) 5000)
  (o:X9 a (qH dA) (B' N (.ab 1)) 5000 [] (.af [.ae "waits"]) 901):DL b c d ak fr a [.dM (ns.map .ab)] h=Y (.bl L,h):=by
 obtain⟨p,q,r,s,g,t⟩:=Ki (h:=h) i j k;obtain⟨v,e⟩:=Kj (a0:=Y (.dM (ns.map .ab))) (a1:=Y (aJ H)) (a2:=p) (a3:=q) (a4:=r) (a5:=s) (K:=h++g) l m n o;rw[XO]at e;refine iy (u:=.bl L) (g:=g++v) ?_ .bl;refine bD ?_;show B6 b c d ak fr a [Y (.dM (ns.map .ab)),O,O,O,O,O,O,O,O] h=_;rw[Gz];exact(ab (aC (bf (us:=[.dM (ns.map .ab),.ab 0]) (h1:=h) rfl rfl f))).trans ((ab t).trans e)
end D11
namespace D11
open PySem PySem.W L2 S
noncomputable def WF:List String:=["house","choices","most","used","many","marks","trail","doings","halt"]
noncomputable def DF:List String:=["place","deed","slip","begun","held"]
noncomputable def o_ (i:Nat):Stmt:=afc.main.body.getD i (.Pass ⟨0,0,0,0⟩)
structure Txt (K:r_)(w:v_)(CW CD:J):Prop where
 ba:ny K "Walk" CW
 aa:qJ K CW
 a9:ny K "Doing" CD
 a8:qJ K CD
 au:cN K "inner_deeds" (o_ 2)
 aX:cN K "overs_of" (o_ 4)
 aY:cN K "deed_at" (o_ 6)
 a0:cN K "kind_of" (o_ 7)
 ak:cN K "first_taker" (o_ 8)
 aZ:cN K "is_slip" (o_ 10)
 aE:cN K "simple_end" (o_ 11)
 ai:cN K "marks_behind" (o_ 12)
 ax:wC K CD "Doing.__init__" (WM (o_ 13) 0)
 aF:wC K CW "Walk.__init__" (WM (o_ 14) 0)
 aG:Y1 K CW "tell" "Walk.tell" (WM (o_ 14) 1)
 ay:Y1 K CW "begin" "Walk.begin" (WM (o_ 14) 2)
 ae:Y1 K CW "begin_room" "Walk.begin_room" (WM (o_ 14) 3)
 ab:Y1 K CW "begin_within" "Walk.begin_within" (WM (o_ 14) 4)
 aj:Y1 K CW "choose" "Walk.choose" (WM (o_ 14) 5)
 ah:cN K "go_on_simple" (o_ 15)
 aH:cN K "go_on_row" (o_ 16)
 aA:cN K "go_on_pick" (o_ 17)
 ao:cN K "go_on_again" (o_ 18)
 aB:cN K "go_on_when" (o_ 19)
 az:cN K "go_on_call" (o_ 20)
 ar:cN K "go_on_clean" (o_ 21)
 aq:cN K "go_on_catch" (o_ 22)
 a6:cN K "go_on" (o_ 23)
 bc:cN K "run" (o_ 24)
 av:cN K "_law_cell_at" (o_ 26)
 aW:cN K "_law_tape" (o_ 27)
 aM:cN K "_law_digit" (o_ 28)
 aP:cN K "_law_names" (o_ 29)
 aO:cN K "_law_kinds" (o_ 30)
 aV:cN K "_law_leaf" (o_ 31)
 aD:cN K "_law_shares" (o_ 32)
 af:cN K "_law_deed" (o_ 33)
 aN:cN K "_law_house" (o_ 34)
 aw:cN K "_law_choices" (o_ 35)
 aQ:cN K "_law_parts" (o_ 36)
 ag:cN K "_law_walk" (o_ 37)
 a3:cN K "_law_all" (o_ 38)
 aT:cN K "_law_under" (o_ 39)
 aS:cN K "_law_taker" (o_ 40)
 aJ:cN K "_law_asked" (o_ 41)
 aI:cN K "_law_again" (o_ 42)
 aL:cN K "_law_clean" (o_ 43)
 aK:cN K "_law_catch" (o_ 44)
 aU:cN K "_law_call" (o_ 45)
 a4:cN K "_law_row" (o_ 46)
 aC:cN K "_law_do" (o_ 47)
 a5:cN K "_law_run" (o_ 48)
 aR:cN K "_law_right" (o_ 49)
 bb:cN K "law" (o_ 50)
 f6:(BL.all λx=>j' (nsIn K S_ x=Y O))=L
 a':((WF.map i_).all λf=>j' (WJ K (.ref CW) f=Y O))=L
 a7:((DF.map i_).all λf=>j' (WJ K (.ref CD) f=Y O))=L
 cj:∃ a o es ep,ny K "FORMS" a/\K.lookup a=Y o/\o.ExactDict/\o.data=.dict es ep/\wG K w es.toList cj/\(a == WN)=b_
theorem xS:(cj.map (·.1)).Nodup:=by decide +kernel
theorem cZ {n:Nat}(h:n<=1000000):n<=sizeLine:=Xi h (by rw[XJ];decide)
section
variable [kf:KF][c:Cw]
@[reducible] def ga (s:E_)(fs:List (M×Nat×MF):=[])(cs:List (M×J×Nat×MF):=[])(ms:List (M×J×Nat×MF):=[])(em:Nat:=0)(dt:List Str:=[])(tb:List (M×List (M×List Int)):=[]):Ga:={N:=locs (a9 s).names,nm:=(a9 s).names,fs:=fs,bl:=BL,cs:=cs,ms:=ms,ck:=c.ck,em:=em,dt:=dt,tb:=tb}
variable {P:y_}{w:v_}{mg:M->Option R}{base h:k_}(X:kf.K.In h)(G:h.Ns S_ mg)(T:Txt kf.K w c.cw c.cd)
include X G T
theorem f6:∀ x∈BL,mg x=none:=Nn X G T.f6
abbrev ez:MF:=cf
theorem lu (k:Nat)(hk:1<=k):HF P w mg base k "inner_deeds" 1 ez:=
 let ⟨_,_,_,_,t1,t2,t3,t4,t5,t6⟩:=T.cj
 qI X G T.au (gi (S.w1 rfl) (G:=ga (o_ 2) (tb:=[("FORMS",cj)])) (n:=1)) (bq .nil (f6 X G T) (tb:=(.aa (Mi (aay X G t1) t2 t3 t4 t5 xS t6) .nil))) k hk
abbrev lK:MF:=eK
theorem xr (k:Nat)(hk:1<=k):HF P w mg base k "overs_of" 2 lK:=qI X G T.aX (gi (S.w2 rfl) (G:=ga (o_ 4)) (n:=2)) (bq .nil (f6 X G T)) k hk
abbrev nr:MF:=nQ ez
theorem Ay (k:Nat)(hk:2<=k):HF P w mg base k "deed_at" 2 nr:=qI X G T.aY (gi (S.w2 rfl) (G:=ga (o_ 6) [("inner_deeds",1,ez)]) (n:=2)) (bq (.aa (lu X G T 1 ∅) .nil) (f6 X G T)) k hk
abbrev nt:MF:=rT nr
theorem Az (k:Nat)(hk:3<=k):HF P w mg base k "kind_of" 2 nt:=qI X G T.a0 (gi (S.w2 rfl) (G:=ga (o_ 7) [("deed_at",2,nr)]) (n:=2)) (bq (.aa (Ay X G T 2 ∅) .nil) (f6 X G T)) k hk
abbrev hV:MF:=lB lK nt
theorem qL (k:Nat)(hk:4<=k):HF P w mg base k "first_taker" 3 hV:=qI X G T.ak (gi (S.w3 rfl) (G:=ga (o_ 8) [("overs_of",2,lK),("kind_of",2,nt)]) (n:=3)) (bq (.aa (xr X G T 3 ∅) (.aa (Az X G T 3 ∅) .nil)) (f6 X G T)) k hk
abbrev d4:MF:=b4
theorem km (k:Nat)(hk:1<=k):HF P w mg base k "is_slip" 1 d4:=rY X G T.aZ (gi (S.w1 rfl) (G:=ga (o_ 10)) (n:=1)) (bq .nil (f6 X G T)) k hk
abbrev iP:MF:=bg
theorem tP (k:Nat)(hk:1<=k):HF P w mg base k "simple_end" 3 iP:=rY X G T.aE (gi (S.w3 rfl) (G:=ga (o_ 11)) (n:=3)) (bq .nil (f6 X G T)) k hk
abbrev gF:MF:=bQ
theorem p4 (k:Nat)(hk:1<=k):HF P w mg base k "marks_behind" 3 gF:=qI X G T.ai (gi (S.w3 rfl) (G:=ga (o_ 12)) (n:=3)) (bq .nil (f6 X G T)) k hk
abbrev iL:MF:=gv c.ck
theorem tK (k:Nat)(hk:2<=k):HC P w mg base k "Doing" c.cd 4 iL:=TC X G T.a9 T.ax (gi (S.w4 rfl) (G:=ga (WM (o_ 13) 0)) (n:=4)) (bq .nil (f6 X G T)) k hk
abbrev jq:MF:=eO c.ck
theorem vi (k:Nat)(hk:2<=k):HC P w mg base k "Walk" c.cw 4 jq:=TC X G T.ba T.aF (gi (S.w4 rfl) (G:=ga (WM (o_ 14) 0)) (n:=4)) (bq .nil (f6 X G T)) k hk
abbrev cm:MF:=jP c.ck
theorem fT (k:Nat)(hk:1<=k):HM P w mg base k "tell" c.cw 2 cm:=NZ T.aa T.aG (gi (S.w2 rfl) (G:=ga (WM (o_ 14) 1)) (n:=2)) (bq .nil (f6 X G T)) k hk
abbrev eU:MF:=i8 c.ck c.cd iL
theorem mK (k:Nat)(hk:3<=k):HM P w mg base k "begin" c.cw 4 eU:=NZ T.aa T.ay (gi (S.w4 rfl) (G:=ga (WM (o_ 14) 2) (cs:=[("Doing",c.cd,4,iL)])) (n:=4)) (bq .nil (f6 X G T) (cs:=(.aa (tK X G T 2 ∅) .nil))) k hk
abbrev cO:MF:=hE c.ck c.cw eU
theorem g7 (k:Nat)(hk:4<=k):HM P w mg base k "begin_room" c.cw 2 cO:=NZ T.aa T.ae (gi (S.w2 rfl) (G:=ga (WM (o_ 14) 3) (ms:=[("begin",c.cw,4,eU)])) (n:=2)) (bq .nil (f6 X G T) (ms:=(.aa (mK X G T 3 ∅) .nil))) k hk
abbrev aP:MF:=gj c.ck c.cw ez eU
theorem bR (k:Nat)(hk:4<=k):HM P w mg base k "begin_within" c.cw 4 aP:=NZ T.aa T.ab (gi (S.w4 rfl) (G:=ga (WM (o_ 14) 4) [("inner_deeds",1,ez)] (ms:=[("begin",c.cw,4,eU)])) (n:=4)) (bq (.aa (lu X G T 3 ∅) .nil) (f6 X G T) (ms:=(.aa (mK X G T 3 ∅) .nil))) k hk
abbrev ey:MF:=ij c.ck
theorem lr (k:Nat)(hk:1<=k):HM P w mg base k "choose" c.cw 1 ey:=NZ T.aa T.aj (gi (S.w1 rfl) (G:=ga (WM (o_ 14) 5)) (n:=1)) (bq .nil (f6 X G T)) k hk
abbrev gD:MF:=jQ c.ck c.cw gF iP cm
theorem p0 (k:Nat)(hk:2<=k):HF P w mg base k "go_on_simple" 2 gD:=rY X G T.ah (gi (S.w2 rfl) (G:=ga (o_ 15) [("marks_behind",3,gF),("simple_end",3,iP)] (ms:=[("tell",c.cw,2,cm)])) (n:=2)) (bq (.aa (p4 X G T 1 ∅) (.aa (tP X G T 1 ∅) .nil)) (f6 X G T) (ms:=(.aa (fT X G T 1 ∅) .nil))) k hk
abbrev js:MF:=fV c.ck c.cw aP
theorem vj (k:Nat)(hk:5<=k):HF P w mg base k "go_on_row" 3 js:=rY X G T.aH (gi (S.w3 rfl) (G:=ga (o_ 16) (ms:=[("begin_within",c.cw,4,aP)])) (n:=3)) (bq .nil (f6 X G T) (ms:=(.aa (bR X G T 4 ∅) .nil))) k hk
abbrev iN:MF:=gw c.ck c.cw ey aP
theorem tM (k:Nat)(hk:5<=k):HF P w mg base k "go_on_pick" 3 iN:=rY X G T.aA (gi (S.w3 rfl) (G:=ga (o_ 17) (ms:=[("choose",c.cw,1,ey),("begin_within",c.cw,4,aP)])) (n:=3)) (bq .nil (f6 X G T) (ms:=(.aa (lr X G T 4 ∅) (.aa (bR X G T 4 ∅) .nil)))) k hk
abbrev hW:MF:=eE c.ck c.cw ey aP
theorem qM (k:Nat)(hk:5<=k):HF P w mg base k "go_on_again" 3 hW:=rY X G T.ao (gi (S.w3 rfl) (G:=ga (o_ 18) (ms:=[("choose",c.cw,1,ey),("begin_within",c.cw,4,aP)])) (n:=3)) (bq .nil (f6 X G T) (ms:=(.aa (lr X G T 4 ∅) (.aa (bR X G T 4 ∅) .nil)))) k hk
abbrev iO:MF:=i9 c.ck c.cw aP
theorem tN (k:Nat)(hk:5<=k):HF P w mg base k "go_on_when" 3 iO:=rY X G T.aB (gi (S.w3 rfl) (G:=ga (o_ 19) (ms:=[("begin_within",c.cw,4,aP)])) (n:=3)) (bq .nil (f6 X G T) (ms:=(.aa (bR X G T 4 ∅) .nil))) k hk
abbrev iM:MF:=ed c.ck c.cw d4 cO cm
theorem tL (k:Nat)(hk:5<=k):HF P w mg base k "go_on_call" 3 iM:=rY X G T.az (gi (S.w3 rfl) (G:=ga (o_ 20) [("is_slip",1,d4)] (ms:=[("begin_room",c.cw,2,cO),("tell",c.cw,2,cm)])) (n:=3)) (bq (.aa (km X G T 4 ∅) .nil) (f6 X G T) (ms:=(.aa (g7 X G T 4 ∅) (.aa (fT X G T 4 ∅) .nil)))) k hk
abbrev hZ:MF:=lC c.ck c.cw d4 aP cm
theorem qO (k:Nat)(hk:5<=k):HF P w mg base k "go_on_clean" 3 hZ:=rY X G T.ar (gi (S.w3 rfl) (G:=ga (o_ 21) [("is_slip",1,d4)] (ms:=[("begin_within",c.cw,4,aP),("tell",c.cw,2,cm)])) (n:=3)) (bq (.aa (km X G T 4 ∅) .nil) (f6 X G T) (ms:=(.aa (bR X G T 4 ∅) (.aa (fT X G T 4 ∅) .nil)))) k hk
abbrev hX:MF:=dF c.ck c.cw d4 hV aP cm
theorem qN (k:Nat)(hk:5<=k):HF P w mg base k "go_on_catch" 3 hX:=rY X G T.aq (gi (S.w3 rfl) (G:=ga (o_ 22) [("is_slip",1,d4),("first_taker",3,hV)] (ms:=[("begin_within",c.cw,4,aP),("tell",c.cw,2,cm)])) (n:=3)) (bq (.aa (km X G T 4 ∅) (.aa (qL X G T 4 ∅) .nil)) (f6 X G T) (ms:=(.aa (bR X G T 4 ∅) (.aa (fT X G T 4 ∅) .nil)))) k hk
abbrev sO:MF:=zu c.ck js iN hW iO iM hZ hX gD
theorem Gp (k:Nat)(hk:6<=k):HF P w mg base k "go_on" 3 sO:=rY X G T.a6 (gi (S.w3 rfl) (G:=ga (o_ 23) [("go_on_row",3,js),("go_on_pick",3,iN),("go_on_again",3,hW),("go_on_when",3,iO),("go_on_call",3,iM),("go_on_clean",3,hZ),("go_on_catch",3,hX),("go_on_simple",2,gD)]) (n:=3)) (bq (.aa (vj X G T 5 ∅) (.aa (tM X G T 5 ∅) (.aa (qM X G T 5 ∅) (.aa (tN X G T 5 ∅) (.aa (tL X G T 5 ∅) (.aa (qO X G T 5 ∅) (.aa (qN X G T 5 ∅) (.aa (p0 X G T 5 ∅) .nil)))))))) (f6 X G T)) k hk
abbrev uD:MF:=IV c.ck c.cw sO d4 jq cO cm
theorem IK (k:Nat)(hk:7<=k):HF P w mg base k "run" 3 uD:=rY X G T.bc (gi (S.w3 rfl) (G:=ga (o_ 24) [("go_on",3,sO),("is_slip",1,d4)] (cs:=[("Walk",c.cw,4,jq)]) (ms:=[("begin_room",c.cw,2,cO),("tell",c.cw,2,cm)])) (n:=3)) (bq (.aa (Gp X G T 6 ∅) (.aa (km X G T 6 ∅) .nil)) (f6 X G T) (cs:=(.aa (vi X G T 6 ∅) .nil)) (ms:=(.aa (g7 X G T 6 ∅) (.aa (fT X G T 6 ∅) .nil)))) k hk
abbrev h8:MF:=dG
theorem qP (k:Nat)(hk:1<=k):HF P w mg base k "_law_cell_at" 2 h8:=rY X G T.av (gi (S.w2 rfl) (G:=ga (o_ 26)) (n:=2)) (bq .nil (f6 X G T)) k hk
abbrev gE:MF:=fD h8
theorem p3 (k:Nat)(hk:2<=k):HF P w mg base k "_law_tape" 2 gE:=rY X G T.aW (gi (S.w2 rfl) (G:=ga (o_ 27) [("_law_cell_at",2,h8)]) (n:=2)) (bq (.aa (qP X G T 1 ∅) .nil) (f6 X G T)) k hk
abbrev bp:MF:=ak
theorem dm (k:Nat)(hk:1<=k):HF P w mg base k "_law_digit" 2 bp:=rY X G T.aM (gi (S.w2 rfl) (G:=ga (o_ 28)) (n:=2)) (bq .nil (f6 X G T)) k hk
abbrev fN:MF:=hG bp
theorem oy (k:Nat)(hk:2<=k):HF P w mg base k "_law_names" 2 fN:=qI X G T.aP (gi (S.w2 rfl) (G:=ga (o_ 29) [("_law_digit",2,bp)]) (n:=2)) (bq (.aa (dm X G T 1 ∅) .nil) (f6 X G T)) k hk
abbrev ju:MF:=oK bp fN
theorem vl (k:Nat)(hk:3<=k):HF P w mg base k "_law_kinds" 1 ju:=qI X G T.aO (gi (S.w1 rfl) (G:=ga (o_ 30) [("_law_digit",2,bp),("_law_names",2,fN)]) (n:=1)) (bq (.aa (dm X G T 2 ∅) (.aa (oy X G T 2 ∅) .nil)) (f6 X G T)) k hk
abbrev pG:MF:=qm bp
theorem xp (k:Nat)(hk:2<=k):HF P w mg base k "_law_leaf" 3 pG:=qI X G T.aV (gi (S.w3 rfl) (G:=ga (o_ 31) [("_law_digit",2,bp)]) (n:=3)) (bq (.aa (dm X G T 1 ∅) .nil) (f6 X G T)) k hk
abbrev l8:MF:=mQ bp
theorem tO (k:Nat)(hk:2<=k):HF P w mg base k "_law_shares" 3 l8:=qI X G T.aD (gi (S.w3 rfl) (G:=ga (o_ 32) [("_law_digit",2,bp)]) (n:=3)) (bq (.aa (dm X G T 1 ∅) .nil) (f6 X G T)) k hk
theorem qv:∀ (j k:Nat),2+j<=k->HF P w mg base k "_law_deed" 4 (gg j)
 |0,k,hk=>by
  obtain⟨a,y,D⟩:=T.af;obtain⟨fd,F⟩:=D.aa;exact vq (ps:=["tape","known","room","around"]) X G y F (tG rfl) (F.aa λ_ _ _ _ _ _ us hl=>Uk (Q:=λus=>Zx _ {pos:=us}=A' (abo _ us)) hl λ_ _ _ _=>rfl) hk
 |j+1,k,hk=>
  have ih:=qv j (2+j) (WY _)
  qI X G T.af (gi (S.w4 rfl) (G:=ga (o_ 33) [("_law_digit",2,bp),("_law_leaf",3,pG),("_law_shares",3,l8),("_law_deed",4,(gg j))]) (n:=4)) (bq (.aa (dm X G T (2+j) ⋯) (.aa (xp X G T (2+j) ⋯) (.aa (tO X G T (2+j) ⋯) (.aa (ih) .nil)))) (f6 X G T)) k hk
theorem xo:∀ k,15<=k->HF P w mg base k "_law_deed" 4 (gg 13):=qv X G T 13
abbrev jt:MF:=jS gE ju fN bp (gg 13)
theorem vk (k:Nat)(hk:16<=k):HF P w mg base k "_law_house" 2 jt:=qI X G T.aN (gi (S.w2 rfl) (G:=ga (o_ 34) [("_law_tape",2,gE),("_law_kinds",1,ju),("_law_names",2,fN),("_law_digit",2,bp),("_law_deed",4,(gg 13))]) (n:=2)) (bq (.aa (p3 X G T 15 ∅) (.aa (vl X G T 15 ∅) (.aa (oy X G T 15 ∅) (.aa (dm X G T 15 ∅) (.aa (xo X G T 15 ∅) .nil))))) (f6 X G T)) k hk
abbrev ia:MF:=lD bp
theorem qQ (k:Nat)(hk:2<=k):HF P w mg base k "_law_choices" 2 ia:=qI X G T.aw (gi (S.w2 rfl) (G:=ga (o_ 35) [("_law_digit",2,bp)]) (n:=2)) (bq (.aa (dm X G T 1 ∅) .nil) (f6 X G T)) k hk
abbrev n9:MF:=dU
theorem vm (k:Nat)(hk:1<=k):HF P w mg base k "_law_parts" 1 n9:=qI X G T.aQ (gi (S.w1 rfl) (G:=ga (o_ 36)) (n:=1)) (bq .nil (f6 X G T)) k hk
theorem qw:∀ (j k:Nat),1+j<=k->HF P w mg base k "_law_walk" 2 (iH j)
 |0,k,hk=>by
  obtain⟨a,y,D⟩:=T.ag;obtain⟨fd,F⟩:=D.aa;exact vq (ps:=["place","deed"]) X G y F (tG rfl) (F.aa λ_ _ _ _ _ _ us hl=>Su (Q:=λus=>Zx _ {pos:=us}=A' (abo _ us)) hl λ_ _=>rfl) hk
 |j+1,k,hk=>
  have ih:=qw j (1+j) (WY _)
  qI X G T.ag (gi (S.w2 rfl) (G:=ga (o_ 37) [("_law_parts",1,n9),("_law_walk",2,(iH j))]) (n:=2)) (bq (.aa (vm X G T (1+j) ⋯) (.aa (ih) .nil)) (f6 X G T)) k hk
theorem xq:∀ k,14<=k->HF P w mg base k "_law_walk" 2 (iH 13):=qw X G T 13
abbrev nu:MF:=rV (iH 13)
theorem AA (k:Nat)(hk:15<=k):HF P w mg base k "_law_all" 1 nu:=qI X G T.a3 (gi (S.w1 rfl) (G:=ga (o_ 38) [("_law_walk",2,(iH 13))]) (n:=1)) (bq (.aa (xq X G T 14 ∅) .nil) (f6 X G T)) k hk
abbrev jw:MF:=dW
theorem vp (k:Nat)(hk:1<=k):HF P w mg base k "_law_under" 2 jw:=qI X G T.aT (gi (S.w2 rfl) (G:=ga (o_ 39)) (n:=2)) (bq .nil (f6 X G T)) k hk
abbrev gY:MF:=jT jw
theorem vo (k:Nat)(hk:2<=k):HF P w mg base k "_law_taker" 4 gY:=qI X G T.aS (gi (S.w4 rfl) (G:=ga (o_ 40) [("_law_under",2,jw)]) (n:=4)) (bq (.aa (vp X G T 1 ∅) .nil) (f6 X G T)) k hk
abbrev fM:MF:=aS
theorem ou (k:Nat)(hk:1<=k):HF P w mg base k "_law_asked" 2 fM:=qI X G T.aJ (gi (S.w2 rfl) (G:=ga (o_ 41)) (n:=2)) (bq .nil (f6 X G T)) k hk
theorem vO {f:MF}{k:Nat}(hk:2<=k)(ih:HF P w mg base k "_law_do" 3 f):HF P w mg base (k+1) "_law_again" 3 (cW fM f):=rY X G T.aI (gi (S.w3 rfl) (G:=ga (o_ 42) [("_law_asked",2,fM),("_law_do",3,f)]) (n:=3)) (bq (.aa (ou X G T k ⋯) (.aa (ih) .nil)) (f6 X G T)) (k+1) (WY _)
theorem vQ {f:MF}{k:Nat}(hk:2<=k)(ih:HF P w mg base k "_law_do" 3 f):HF P w mg base (k+1) "_law_clean" 3 (cq f):=qI X G T.aL (gi (S.w3 rfl) (G:=ga (o_ 43) [("_law_do",3,f)]) (n:=3)) (bq (.aa (ih) .nil) (f6 X G T)) (k+1) (WY _)
theorem vP {f:MF}{k:Nat}(hk:2<=k)(ih:HF P w mg base k "_law_do" 3 f):HF P w mg base (k+1) "_law_catch" 4 (cp f gY):=rY X G T.aK (gi (S.w4 rfl) (G:=ga (o_ 44) [("_law_do",3,f),("_law_taker",4,gY)]) (n:=4)) (bq (.aa (ih) (.aa (vo X G T k ⋯) .nil)) (f6 X G T)) (k+1) (WY _)
theorem x8 {f:MF}{k:Nat}(hk:2<=k)(ih:HF P w mg base k "_law_do" 3 f):HF P w mg base (k+1) "_law_call" 3 (cL f):=rY X G T.aU (gi (S.w3 rfl) (G:=ga (o_ 45) [("_law_do",3,f)]) (n:=3)) (bq (.aa (ih) .nil) (f6 X G T)) (k+1) (WY _)
theorem Bn {f:MF}{k:Nat}(hk:2<=k)(ih:HF P w mg base k "_law_do" 3 f):HF P w mg base (k+1) "_law_row" 4 (ee f):=rY X G T.a4 (gi (S.w4 rfl) (G:=ga (o_ 46) [("_law_do",3,f)]) (n:=4)) (bq (.aa (ih) .nil) (f6 X G T)) (k+1) (WY _)
theorem gP:∀ (j k:Nat),2+2*j<=k->HF P w mg base k "_law_do" 3 (gh j)
 |0,k,hk=>by
  obtain⟨a,y,D⟩:=T.aC;obtain⟨fd,F⟩:=D.aa;exact vq (ps:=["state","place","hand"]) X G y F (tG rfl) (F.aa λ_ _ _ _ _ _ us hl=>Sv (Q:=λus=>Zx _ {pos:=us}=A' (abo _ us)) hl λ_ _ _=>rfl) hk
 |j+1,k,hk=>rY X G T.aC (gi (S.w3 rfl) (G:=ga (o_ 47) [("_law_row",4,(ee (gh j))),("_law_again",3,(cW fM (gh j))),("_law_clean",3,(cq (gh j))),("_law_catch",4,(cp (gh j) gY)),("_law_call",3,(cL (gh j))),("_law_do",3,(gh j)),("_law_asked",2,fM)]) (n:=3)) (bq (.aa (Bn X G T ⋯ (gP j (2+2*j) (WY _))) (.aa (vO X G T ⋯ (gP j (2+2*j) (WY _))) (.aa (vQ X G T ⋯ (gP j (2+2*j) (WY _))) (.aa (vP X G T ⋯ (gP j (2+2*j) (WY _))) (.aa (x8 X G T ⋯ (gP j (2+2*j) (WY _))) (.aa (gP j (2+2*j+1) ⋯) (.aa (ou X G T (2+2*j+1) ⋯) .nil))))))) (f6 X G T)) k ⋯
theorem C5:∀ k,244<=k->HF P w mg base k "_law_do" 3 (gh 121):=gP X G T 121
abbrev nv:MF:=ku nu (gh 121)
theorem AB (k:Nat)(hk:245<=k):HF P w mg base k "_law_run" 3 nv:=qI X G T.a5 (gi (S.w3 rfl) (G:=ga (o_ 48) [("_law_all",1,nu),("_law_do",3,(gh 121))] (em:=1)) (n:=3)) (bq (.aa (AA X G T 244 ∅) (.aa (C5 X G T 244 ∅) .nil)) (f6 X G T)) k hk
abbrev jv:MF:=hI uD nv
theorem vn (k:Nat)(hk:246<=k):HF P w mg base k "_law_right" 3 jv:=qI X G T.aR (gi (S.w3 rfl) (G:=ga (o_ 49) [("run",3,uD),("_law_run",3,nv)]) (n:=3)) (bq (.aa (IK X G T 245 ∅) (.aa (AB X G T 245 ∅) .nil)) (f6 X G T)) k hk
abbrev yE:MF:=DL jt gE ia bp jv uD
theorem J9 {f:J}{fd:P'}(F:BS kf.K "law" "law" (o_ 50) f fd):d3 P w kf.K mg base qF 247 f fd ["script"] (nq 1 yE):=
 (gi (by exact S.w1 rfl) (n:=1) (G:=ga (o_ 50) [("_law_house",2,jt),("_law_tape",2,gE),("_law_choices",2,ia),("_law_digit",2,bp),("_law_right",3,jv),("run",3,uD)])).gc F (bq (.aa (vk X G T 246 ∅) (.aa (p3 X G T 246 ∅) (.aa (qQ X G T 246 ∅) (.aa (dm X G T 246 ∅) (.aa (vn X G T 246 ∅) (.aa (IK X G T 246 ∅) .nil)))))) (f6 X G T))
end
def EY (K:r_):Sp:=λc H Q _=>∃ a,∃ b:List Int,c=[.aa a]/\gm K H a (b.map V.ab)/\FY H/\b.length<=63/\∀ d,Q (.bl L) d
section
variable [kf:KF]
def JD (a b:J):CL:=λC f=>(C=a/\f∈WF.map i_)\/(C=b/\f∈DF.map i_)
theorem Qz {a b:J}(c:qJ kf.K a)(d:qJ kf.K b)(e:((WF.map i_).all λf=>j' (WJ kf.K (.ref a) f=Y O))=L)(g:((DF.map i_).all λf=>j' (WJ kf.K (.ref b) f=Y O))=L):wz kf.K (JD a b):=⟨λC f h=>by
 rcases h with⟨rfl,m⟩ | ⟨rfl,m⟩
 .have z:WJ kf.K (.ref C) f=Y none:=of_decide_eq_true (X0.mp e f m);exact⟨c,z⟩
 .have z:WJ kf.K (.ref C) f=Y none:=of_decide_eq_true (X0.mp g f m);exact⟨d,z⟩⟩
@[reducible] def QA {a b:J}(d:wz kf.K (JD a b)):Cw:=⟨⟨JD a b,d⟩,a,b,λf c=>.inl ⟨rfl,acZ c⟩,λf c=>.inr ⟨rfl,acZ c⟩⟩
theorem si {a:List J}{H:Hp}:∀ {ns:List Int},aY a H (ns.map U.ab) (ns.map V.ab)
 |[]=>.nil
 |_::_=>.ab .aa si
theorem Nx [c:Cw]:∀ w,sM w->gB w 121 (gh 121):=λw afh=>IF afh 121 ∅
theorem AU [c:Cw]{n:Nat}{f g b a d fn:MF}{ns:List Int}(j:120<n)(D:∀ w,sM w->gB w n f)(k:∀ H,bV H->∀ h,g [aJ H] h=Y (.ag ((eG H).map eh),h))(e:pI ns a)(mk:aab d)(l:yF fn)(m:Zj b):DL (jS a d fn ak b) a pN ak (hI Yu (ku g f)) Yu [.dM (ns.map .ab)] []=Y (.bl L,[]):=by
 obtain⟨o,p,i⟩:=Dj (h:=[]) e mk l m;exact Ka p e uX (yh j D i (k o i)) rfl QI fixC QH
theorem AS [c:Cw]{ns:List Int}:yE [.dM (ns.map .ab)] []=Y (.bl L,[]):=AU ∅ Nx (λH o h=>Jt o) BC AR A8 DN
theorem Dy [c:Cw]{P:y_}{w:v_}{d:M->Option R}{base:k_}{k:Nat}{f:J}{e:P'}(F:d3 P w kf.K d base qF k f e ["script"] (nq 1 yE)):d3 P w kf.K d base qF k f e ["script"] (EY kf.K):=by
 refine F.af λvs H Q E ⟨a,b,g,e2,i,t,q⟩=>?_
 subst g;have j:yE [.dM (b.map .ab)] []=Y (.bl L,[]):=AS;refine⟨rfl,[],[.dM (b.map .ab)],[],.bl L,[],⟨rfl,ac6,λn a o h _=>by simp at h⟩,.ab (.dM (vs:=b.map V.ab) ?_ si) .nil,j,λl m v x r p=>?_⟩
 .rcases e2 with e2 | e2
  .left;refine⟨by simp,?_⟩;rcases i a with z | ⟨o,u,z⟩
   .rcases e2 with y | ⟨o,y⟩<;>rw[z]at y<;>cases y
   .rcases e2 with y | ⟨s,y⟩
    .rw[z]at y;cases y
    .exact⟨s,y⟩
  .exact .inr e2
 .cases p;exact q m
end
theorem Ml [kf:KF]{P:y_}{w:v_}{h:k_}{a:M->Option R}{d i j:J}(X:kf.K.In h)(G:h.Ns S_ a)(b:a "law" = Y (.ref d))(T:Txt kf.K w i j) :
  ∃ g:P',(∀ (s:d_) (v:R),ZS s g ⟨[v],[]⟩ [("script",v)])/\∀ base:k_,kf.K.In base->base.Ns S_ a->d3 P w kf.K a base qF 260 d g ["script"] (EY kf.K):=by
 obtain⟨f,m,q,r,t,n,u,x,o,y,p,l,c,k⟩:=T.bb;have e:=b.symm.trans (aay X G m);cases e
 letI:=QA (Qz T.aa T.a8 T.a' T.a7)
 exact⟨_,λs v=>.of_eq rfl,λbase _ _=>Dy (d3.ae (J9 (base:=base) X G T (C3 l c k)) (by decide:247<=260))⟩
end D11
namespace D11
open PySem L2
theorem walk {l:ZP}{q:y_}{loose:List M}{XP:(M->Option R)->k_->Prop}{YP:v_->k_->Prop}{d:DefRec}{K:Params->r_}(hn:l.most=Y 63)(U0:d.params.defaults=[])
  (hY:∀ (w:v_) (h:k_),YP w h->(K w.params).In h) (hd:d.name = "law") (T:∀ w:v_,∃ CW CD,Txt (K w.params) w CW CD) :
  abD q loose XP YP l.row.toRowW d [] (λf vs=>V_ f vs):=
 L2.HZ (n:=63) (k:=260) (x:="script") (CX:=λ_=>qF) (sp:=λw=>EY (K w.params)) hn ∅ U0 ⟨rfl,by decide,by decide,rfl⟩ hY (λw mg fa h X G hm=>by
  obtain⟨CW,CD,t⟩:=T w;rw[hd]at hm;exact @Ml ⟨K w.params⟩ l.prog w h mg fa CW CD X G hm t) (λ_ _ a ns hl hO hS=>⟨a,ns,rfl,hS,hO,hl,λ_=>rfl⟩) λ_ _ _ _ _ z=>z
end D11
end
set_option genInjectivity false
set_option genCtorIdx false
structure PySem.W.Fast:Prop where
 (tw10836314542807610834 tw1085751412201352294 tw7826493032080203123 tw11749315355679084497 tw12003899424742490859 tw1560815624558326185 tw9556286484423051743 tw1242542438147237136 tw3586730443796251242 tw7263049369494324388 tw8223839208576070449 tw4897926472149165812 tw3858162755723998658 tw3322472030064544333 tw5585368418132957296 tw10266468529052664995 tw14872739262010380030 tw11011340807336067120 tw10550767810956453543 tw2863469602687058030 tw14375246180085082497 tw7689073579972977004 tw2569442329346519548 tw2043968304684983065 tw13564984329051978599 tw5616321276746312976 tw11605487925961696603 tw10716974228781293223 tw9581749139217948133 tw5131775851030992547 tw1380650090570041467 tw11083883159547720425 tw4688820875158018396 tw11050595197050823986 tw5196351705906394683 tw12310828206809404964 tw1992311822139754236 tw8379486232969341947 tw17227414664445728763 tw698290342601976833 tw17591518742030584676 tw1443449756434886175 tw2582334990409824578 tw15550455615155373026 tw554786586153892781 tw5188229179261885938 tw18172110454179819860 tw7937138818394366426 tw7505667612914140122 tw2808360688286463096 tw2789517273477356296 tw4805634708511349026 tw14656652922503543404 tw2211123481031707379 tw17910357167019696781 tw8831622374786837699 tw17975999694203659354 tw13870221841075942697 tw3335228837490551932 tw3022358012149158310 tw17634432714297930395 tw5319960486556022080 tw17414927855813365603 tw2585531596848551045 tw2306718168609199096 tw5833286538038912644 tw15899415711373339576 tw9146307619712088327 tw12605693643396517858 tw8731292485294374900 tw9699040575213269164 tw16489689068521704771 tw5492479758177176633 tw18371843790139530863 tw15228978518880090930 tw15308336154825967194 tw10327020890003654067 tw18108008784758102156 tw17935708028628912508 tw16886537129907631754 tw6460480649133090714 tw11342765261030776811 tw10012851879912893479 tw9501523738914892502 tw3735978713584079033 tw7875977502065140928 tw2961778107797764231 tw6149536129057239005 tw8958486649414313982 tw7751356753541861689 tw29758449285299736 tw3651271828292187174 tw4934907142204403938 tw4476859771611862925 tw9250764244591831098 tw8098774696498126857 tw5053725263538118745 tw11892145641198708993 tw13535703153140588693 tw12496796784202755831 tw12771876934193819650 tw12374177611858422878 tw1281024063465403222 tw1956474191365762131 tw362270664797665950 tw4553714130265951400 tw5620556255618765610 tw12837342855723757376 tw12269100620125531109 tw3906737269823398977 tw2274505244687377519 tw8877115951038254109 tw12096185775709761582 tw15205747161704735047 tw18432619117636239532 tw2226448836404020438 tw14204623111908444283 tw8076214268444967724 tw10752964777457900589 tw11487482628596851707 tw7909055760263798392 tw3620145194730840145 tw5671768433672948742 tw130759968757185827 tw4391521117507970509 tw3567652754044829556 tw16307724166143762856 tw318721996372134484 tw788597569401360900 tw469132314115995035 tw12516743509914709479 tw2999248815135262570 tw6588243502491971705 tw5045058162136962418 tw14885413277215761171 tw15758362843947837914 tw17964819478404164515 tw701383537652371910 tw12538986748047401320 tw6321934686453040003 tw4530086640105892455 tw308909468999435469 tw2282319056912467058 tw12676627100428576524 tw5870066818681355262 tw3029540220036943133 tw13884113329976820174 tw18154507879883554907 tw6668644257635038760 tw7830481438543896296 tw7005322680942307085 tw8589774376540741154 tw4044121608352141410 tw6745151740939982399 tw5044445473673482393 tw10731203664029545274 tw6103162452873497224 tw11140350182869296454 tw844051683749007688 tw8178613964012356045 tw17555290541690028267 tw13429103666244219811 tw7460240432608695774 tw563883633011427675 tw18003667066533902420 tw3418520218554155541 tw3369173282444678820 tw12848050726437243998 tw15447961808278176615 tw5890502795185541199 tw321667758324790269 tw13687390684988276873 tw2209980062670468010 tw5479048240381152027 tw8206628643189985601 tw7521637112177025028 tw14650884488686472672 tw17220342741890340351 tw6058693917492227795 tw14048323736389805914 tw9633744058105820229 tw18398894276475284221 tw11264104194310810908 tw16085505916552872229 tw9825098314542637153 tw17109889946755743119 tw2595266810655066831 tw12715157252356639620 tw1184832680439580100 tw5725343746702547444 tw10507554708996521614 tw10503518332683726218 tw13840212352385612390 tw11039495809265453993 tw15898591894168414488:True)
open PySem PySem.W PyProof.Rows
set_option maxRecDepth 100000 in
set_option maxHeartbeats 0 in
theorem PySem.Challenge.cw_slipcatch_k10_runs_step_by_step_holds : PySem.Challenge.rw_slipcatch_k10_runs_step_by_step.Holds := by
 w_on;o_law;k_head;(case hw=>w_witness2)
 k_fill
 exact D11.walk (l:=PySem.Challenge.rw_slipcatch_k10_runs_step_by_step) rfl rfl (λw h afd=>PySem.W.kIn_of afd) rfl λw=>⟨_,_,⟨rfl,
   ⟨rfl,rfl,rfl,rfl⟩,
   rfl,
   ⟨rfl,rfl,rfl,rfl⟩,
   ⟨_,rfl,_,_,_,_,_,_,_,_,_,rfl,rfl,rfl⟩,
   ⟨_,rfl,_,_,_,_,_,_,_,_,_,rfl,rfl,rfl⟩,
   ⟨_,rfl,_,_,_,_,_,_,_,_,_,rfl,rfl,rfl⟩,
   ⟨_,rfl,_,_,_,_,_,_,_,_,_,rfl,rfl,rfl⟩,
   ⟨_,rfl,_,_,_,_,_,_,_,_,_,rfl,rfl,rfl⟩,
   ⟨_,rfl,_,_,_,_,_,_,_,_,_,rfl,rfl,rfl⟩,
   ⟨_,rfl,_,_,_,_,_,_,_,_,_,rfl,rfl,rfl⟩,
   ⟨_,rfl,_,_,_,_,_,_,_,_,_,rfl,rfl,rfl⟩,
   ⟨_,⟨rfl,rfl,rfl,rfl⟩,_,_,_,_,_,_,_,_,_,rfl,rfl,rfl⟩,
   ⟨_,⟨rfl,rfl,rfl,rfl⟩,_,_,_,_,_,_,_,_,_,rfl,rfl,rfl⟩,
   ⟨_,⟨rfl,rfl,rfl⟩,_,_,_,_,_,_,_,_,_,rfl,rfl,rfl⟩,
   ⟨_,⟨rfl,rfl,rfl⟩,_,_,_,_,_,_,_,_,_,rfl,rfl,rfl⟩,
   ⟨_,⟨rfl,rfl,rfl⟩,_,_,_,_,_,_,_,_,_,rfl,rfl,rfl⟩,
   ⟨_,⟨rfl,rfl,rfl⟩,_,_,_,_,_,_,_,_,_,rfl,rfl,rfl⟩,
   ⟨_,⟨rfl,rfl,rfl⟩,_,_,_,_,_,_,_,_,_,rfl,rfl,rfl⟩,
   ⟨_,rfl,_,_,_,_,_,_,_,_,_,rfl,rfl,rfl⟩,
   ⟨_,rfl,_,_,_,_,_,_,_,_,_,rfl,rfl,rfl⟩,
   ⟨_,rfl,_,_,_,_,_,_,_,_,_,rfl,rfl,rfl⟩,
   ⟨_,rfl,_,_,_,_,_,_,_,_,_,rfl,rfl,rfl⟩,
   ⟨_,rfl,_,_,_,_,_,_,_,_,_,rfl,rfl,rfl⟩,
   ⟨_,rfl,_,_,_,_,_,_,_,_,_,rfl,rfl,rfl⟩,
   ⟨_,rfl,_,_,_,_,_,_,_,_,_,rfl,rfl,rfl⟩,
   ⟨_,rfl,_,_,_,_,_,_,_,_,_,rfl,rfl,rfl⟩,
   ⟨_,rfl,_,_,_,_,_,_,_,_,_,rfl,rfl,rfl⟩,
   ⟨_,rfl,_,_,_,_,_,_,_,_,_,rfl,rfl,rfl⟩,
   ⟨_,rfl,_,_,_,_,_,_,_,_,_,rfl,rfl,rfl⟩,
   ⟨_,rfl,_,_,_,_,_,_,_,_,_,rfl,rfl,rfl⟩,
   ⟨_,rfl,_,_,_,_,_,_,_,_,_,rfl,rfl,rfl⟩,
   ⟨_,rfl,_,_,_,_,_,_,_,_,_,rfl,rfl,rfl⟩,
   ⟨_,rfl,_,_,_,_,_,_,_,_,_,rfl,rfl,rfl⟩,
   ⟨_,rfl,_,_,_,_,_,_,_,_,_,rfl,rfl,rfl⟩,
   ⟨_,rfl,_,_,_,_,_,_,_,_,_,rfl,rfl,rfl⟩,
   ⟨_,rfl,_,_,_,_,_,_,_,_,_,rfl,rfl,rfl⟩,
   ⟨_,rfl,_,_,_,_,_,_,_,_,_,rfl,rfl,rfl⟩,
   ⟨_,rfl,_,_,_,_,_,_,_,_,_,rfl,rfl,rfl⟩,
   ⟨_,rfl,_,_,_,_,_,_,_,_,_,rfl,rfl,rfl⟩,
   ⟨_,rfl,_,_,_,_,_,_,_,_,_,rfl,rfl,rfl⟩,
   ⟨_,rfl,_,_,_,_,_,_,_,_,_,rfl,rfl,rfl⟩,
   ⟨_,rfl,_,_,_,_,_,_,_,_,_,rfl,rfl,rfl⟩,
   ⟨_,rfl,_,_,_,_,_,_,_,_,_,rfl,rfl,rfl⟩,
   ⟨_,rfl,_,_,_,_,_,_,_,_,_,rfl,rfl,rfl⟩,
   ⟨_,rfl,_,_,_,_,_,_,_,_,_,rfl,rfl,rfl⟩,
   ⟨_,rfl,_,_,_,_,_,_,_,_,_,rfl,rfl,rfl⟩,
   ⟨_,rfl,_,_,_,_,_,_,_,_,_,rfl,rfl,rfl⟩,
   ⟨_,rfl,_,_,_,_,_,_,_,_,_,rfl,rfl,rfl⟩,
   ⟨_,rfl,_,_,_,_,_,_,_,_,_,rfl,rfl,rfl⟩,
   ⟨_,rfl,_,_,_,_,_,_,_,_,_,rfl,rfl,rfl⟩,
   ⟨_,rfl,_,_,_,_,_,_,_,_,_,rfl,rfl,rfl⟩,
   ⟨_,rfl,_,_,_,_,_,_,_,_,_,rfl,rfl,rfl⟩,
   ⟨_,rfl,_,_,_,_,_,_,_,_,_,rfl,rfl,rfl⟩,
   rfl,
   rfl,
   rfl,
   ⟨_,_,_,_,rfl,rfl,⟨rfl,rfl,rfl⟩,rfl,(.aa rfl rfl rfl ⟨_,_,_,rfl,rfl,rfl,D11.cZ (by decide),(.cons ⟨_,rfl⟩ (.cons ⟨_,rfl⟩ (.cons ⟨_,rfl⟩ .nil)))⟩ (.aa rfl rfl rfl ⟨_,_,_,rfl,rfl,rfl,D11.cZ (by decide),(.cons ⟨_,rfl⟩ (.cons ⟨_,rfl⟩ (.cons ⟨_,rfl⟩ .nil)))⟩ (.aa rfl rfl rfl ⟨_,_,_,rfl,rfl,rfl,D11.cZ (by decide),(.cons ⟨_,rfl⟩ (.cons ⟨_,rfl⟩ (.cons ⟨_,rfl⟩ .nil)))⟩ (.aa rfl rfl rfl ⟨_,_,_,rfl,rfl,rfl,D11.cZ (by decide),(.cons ⟨_,rfl⟩ (.cons ⟨_,rfl⟩ (.cons ⟨_,rfl⟩ .nil)))⟩ (.aa rfl rfl rfl ⟨_,_,_,rfl,rfl,rfl,D11.cZ (by decide),(.cons ⟨_,rfl⟩ (.cons ⟨_,rfl⟩ (.cons ⟨_,rfl⟩ .nil)))⟩ (.aa rfl rfl rfl ⟨_,_,_,rfl,rfl,rfl,D11.cZ (by decide),(.cons ⟨_,rfl⟩ (.cons ⟨_,rfl⟩ (.cons ⟨_,rfl⟩ .nil)))⟩ (.aa rfl rfl rfl ⟨_,_,_,rfl,rfl,rfl,D11.cZ (by decide),(.cons ⟨_,rfl⟩ (.cons ⟨_,rfl⟩ (.cons ⟨_,rfl⟩ .nil)))⟩ (.aa rfl rfl rfl ⟨_,_,_,rfl,rfl,rfl,D11.cZ (by decide),(.cons ⟨_,rfl⟩ (.cons ⟨_,rfl⟩ (.cons ⟨_,rfl⟩ .nil)))⟩ (.aa rfl rfl rfl ⟨_,_,_,rfl,rfl,rfl,D11.cZ (by decide),(.cons ⟨_,rfl⟩ (.cons ⟨_,rfl⟩ (.cons ⟨_,rfl⟩ .nil)))⟩ (.aa rfl rfl rfl ⟨_,_,_,rfl,rfl,rfl,D11.cZ (by decide),(.cons ⟨_,rfl⟩ (.cons ⟨_,rfl⟩ (.cons ⟨_,rfl⟩ .nil)))⟩ (.aa rfl rfl rfl ⟨_,_,_,rfl,rfl,rfl,D11.cZ (by decide),(.cons ⟨_,rfl⟩ (.cons ⟨_,rfl⟩ (.cons ⟨_,rfl⟩ .nil)))⟩ (.aa rfl rfl rfl ⟨_,_,_,rfl,rfl,rfl,D11.cZ (by decide),(.cons ⟨_,rfl⟩ (.cons ⟨_,rfl⟩ (.cons ⟨_,rfl⟩ .nil)))⟩ (.aa rfl rfl rfl ⟨_,_,_,rfl,rfl,rfl,D11.cZ (by decide),(.cons ⟨_,rfl⟩ (.cons ⟨_,rfl⟩ (.cons ⟨_,rfl⟩ .nil)))⟩ (.aa rfl rfl rfl ⟨_,_,_,rfl,rfl,rfl,D11.cZ (by decide),(.cons ⟨_,rfl⟩ (.cons ⟨_,rfl⟩ (.cons ⟨_,rfl⟩ .nil)))⟩ .nil)))))))))))))),rfl⟩⟩⟩
